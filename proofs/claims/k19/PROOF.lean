import PyProof.Rows.All
import Wide.All
import OpenK.AllK
import Wide.FinOn
import PySem.Challenge.RW_filterorders_k19_tables
import HandS.ForMost
import HandS.Wide
import KE.KStateDown
import KE.KOpsOwn
import HandS.Exc
import HandS.ExcOwn
import HandS.ExcInit
import HandS.TryOnly
import HandS.WordsExc
import HandS.Defaults
import HandS.MakeKw
import HandS.MakeKwOnly
import HandS.Property
import HandS.IsInst
import HandS.OwnEq
import HandS.Gcd
import HandS.RaiseMore
import HandS.HeadHook1
import HandS.HeadHook2
import HandS.HeadNt
import HandS.HeadEnd
import HandS.Head2
import HandS.CallSlots
import HandS.ClsMeth
import HandS.Iter
import HandS.Comp
import HandS.Zip
import PyProof.ReprRoads
import PyProof.ReprHeadsEmpty
import PyProof.InstNe
import KE.KMathG
import HandS.Text
import PyProof.TupleKey
import HandS.List
import HandS.Walk
import HandS.Rev
import KE.GoesEnum
import KE.GoesMore
import KE.DataAny
import HandS.Star
import KE.KDictZip
import HandS.OwnIter
import KE.KxIndex
set_option Elab.async false
set_option linter.all false
set_option maxRecDepth 100000
/-! Fractions in lowest terms, sizes of whole numbers. Plain mathematics. -/
namespace FoM
/-! ### sizes -/
def Sz (n : Nat) (i : Int) : Prop := i.natAbs < 2 ^ n
theorem Sz.mono {n m : Nat} {i : Int} (h : Sz n i) (l : n ≤ m) : Sz m i := Nat.lt_of_lt_of_le h (Nat.pow_le_pow_right (by decide) l)
theorem Sz.mul {n m : Nat} {i j : Int} (h : Sz n i) (g : Sz m j) : Sz (n + m) (i * j) := by
  unfold Sz
  rw [Nat.pow_add 2, Int.natAbs_mul]
  exact Nat.mul_lt_mul'' h g
theorem Sz.add {n : Nat} {i j : Int} (h : Sz n i) (g : Sz n j) : Sz (n + 1) (i + j) := by
  unfold Sz at *
  have e : 2 ^ (n + 1) = 2 ^ n + 2 ^ n := by rw [Nat.pow_succ]; omega
  omega
theorem Sz.sub {n : Nat} {i j : Int} (h : Sz n i) (g : Sz n j) : Sz (n + 1) (i - j) := by
  unfold Sz at *
  have e : 2 ^ (n + 1) = 2 ^ n + 2 ^ n := by rw [Nat.pow_succ]; omega
  omega
theorem Sz.neg {n : Nat} {i : Int} (h : Sz n i) : Sz n (-i) := by
  unfold Sz at *
  omega
theorem Sz.le {n : Nat} {i j : Int} (h : Sz n j) (l : i.natAbs ≤ j.natAbs) : Sz n i := Nat.lt_of_le_of_lt l h
theorem Sz.mulok {n m : Nat} {i j : Int} (h : Sz n i) (g : Sz m j) (h0 : 0 < n := by decide) (g0 : 0 < m := by decide) (l : n + m ≤ 1000000 := by decide) : L2.CMulW i j :=
  L2.wide_mul h g h0 g0 l
/-! ### the greatest common divisor, with the sign of the lower number -/
def gc (u d : Int) : Int := if d < 0 then -((Nat.gcd u.natAbs d.natAbs : Nat) : Int) else ((Nat.gcd u.natAbs d.natAbs : Nat) : Int)
def frN (u d : Int) : Int := u.fdiv (gc u d)
def frD (u d : Int) : Int := d.fdiv (gc u d)
theorem gc_abs (u d : Int) : (gc u d).natAbs = Nat.gcd u.natAbs d.natAbs := by
  unfold gc
  split <;> omega
theorem gc_ne {u d : Int} (h : d ≠ 0) : gc u d ≠ 0 := by
  intro e
  have z := gc_abs u d
  rw [e] at z
  have p : 0 < Nat.gcd u.natAbs d.natAbs := Nat.gcd_pos_of_pos_right _ (by omega)
  omega
theorem gc_le {u d : Int} (h : d ≠ 0) : (gc u d).natAbs ≤ d.natAbs := by
  rw [gc_abs]
  exact Nat.le_of_dvd (by omega) (Nat.gcd_dvd_right _ _)
theorem gc_dvd_l (u d : Int) : gc u d ∣ u := by
  rw [← Int.natAbs_dvd_natAbs, gc_abs]
  exact Nat.gcd_dvd_left _ _
theorem gc_dvd_r (u d : Int) : gc u d ∣ d := by
  rw [← Int.natAbs_dvd_natAbs, gc_abs]
  exact Nat.gcd_dvd_right _ _
theorem frN_mul {u d : Int} : frN u d * gc u d = u := Int.fdiv_mul_cancel (gc_dvd_l u d)
theorem frD_mul {u d : Int} : frD u d * gc u d = d := Int.fdiv_mul_cancel (gc_dvd_r u d)
theorem frD_ne {u d : Int} (h : d ≠ 0) : frD u d ≠ 0 := fun e => h (by rw [← frD_mul (u := u) (d := d), e, Int.zero_mul])
theorem gc_sign {u d : Int} (h : d ≠ 0) : (d < 0 ∧ gc u d < 0) ∨ (0 < d ∧ 0 < gc u d) := by
  have p : 0 < Nat.gcd u.natAbs d.natAbs := Nat.gcd_pos_of_pos_right _ (by omega)
  by_cases hd : d < 0
  · refine .inl ⟨hd, ?_⟩
    unfold gc
    rw [if_pos hd]
    omega
  · refine .inr ⟨by omega, ?_⟩
    unfold gc
    rw [if_neg hd]
    omega
theorem frD_pos {u d : Int} (h : d ≠ 0) : 0 < frD u d := by
  have e := frD_mul (u := u) (d := d)
  rcases gc_sign (u := u) h with ⟨a, b⟩ | ⟨a, b⟩
  · by_cases z : 0 < frD u d
    · exact z
    · have : 0 ≤ frD u d * gc u d := Int.mul_nonneg_of_nonpos_of_nonpos (by omega) (by omega)
      omega
  · by_cases z : 0 < frD u d
    · exact z
    · have : frD u d * gc u d ≤ 0 := Int.mul_nonpos_of_nonpos_of_nonneg (by omega) (by omega)
      omega
theorem fr_cop {u d : Int} (h : d ≠ 0) : Nat.gcd (frN u d).natAbs (frD u d).natAbs = 1 := by
  have e1 := congrArg Int.natAbs (frN_mul (u := u) (d := d))
  have e2 := congrArg Int.natAbs (frD_mul (u := u) (d := d))
  rw [Int.natAbs_mul, gc_abs] at e1 e2
  have p : 0 < Nat.gcd u.natAbs d.natAbs := Nat.gcd_pos_of_pos_right _ (by omega)
  have q : Nat.gcd ((frN u d).natAbs * Nat.gcd u.natAbs d.natAbs) ((frD u d).natAbs * Nat.gcd u.natAbs d.natAbs) = Nat.gcd u.natAbs d.natAbs := by rw [e1, e2]
  rw [Nat.gcd_mul_right] at q
  exact Nat.eq_of_mul_eq_mul_right p (by rw [Nat.one_mul]; exact q)
theorem frN_le {u d : Int} (h : d ≠ 0) : (frN u d).natAbs ≤ u.natAbs := by
  have e1 := congrArg Int.natAbs (frN_mul (u := u) (d := d))
  rw [Int.natAbs_mul, gc_abs] at e1
  have p : 0 < Nat.gcd u.natAbs d.natAbs := Nat.gcd_pos_of_pos_right _ (by omega)
  calc (frN u d).natAbs = (frN u d).natAbs * 1 := (Nat.mul_one _).symm
    _ ≤ (frN u d).natAbs * Nat.gcd u.natAbs d.natAbs := Nat.mul_le_mul_left _ p
    _ = u.natAbs := e1
theorem frD_le {u d : Int} (h : d ≠ 0) : (frD u d).natAbs ≤ d.natAbs := by
  have e1 := congrArg Int.natAbs (frD_mul (u := u) (d := d))
  rw [Int.natAbs_mul, gc_abs] at e1
  have p : 0 < Nat.gcd u.natAbs d.natAbs := Nat.gcd_pos_of_pos_right _ (by omega)
  calc (frD u d).natAbs = (frD u d).natAbs * 1 := (Nat.mul_one _).symm
    _ ≤ (frD u d).natAbs * Nat.gcd u.natAbs d.natAbs := Nat.mul_le_mul_left _ p
    _ = d.natAbs := e1
/-- the same fraction -/
theorem fr_cross {u d : Int} : frN u d * d = u * frD u d := by
  have e1 := frN_mul (u := u) (d := d)
  have e2 := frD_mul (u := u) (d := d)
  calc frN u d * d = frN u d * (frD u d * gc u d) := by rw [e2]
    _ = (frN u d * gc u d) * frD u d := by rw [Int.mul_comm (frD u d), Int.mul_assoc]
    _ = u * frD u d := by rw [e1]
/-- lowest terms are unique -/
theorem low_uniq {a b c e : Int} (hb : 0 < b) (he : 0 < e) (g1 : Nat.gcd a.natAbs b.natAbs = 1) (g2 : Nat.gcd c.natAbs e.natAbs = 1) (h : a * e = c * b) : a = c ∧ b = e := by
  have hn : a.natAbs * e.natAbs = c.natAbs * b.natAbs := by rw [← Int.natAbs_mul, ← Int.natAbs_mul, h]
  have d1 : b.natAbs ∣ e.natAbs := by
    have : b.natAbs ∣ a.natAbs * e.natAbs := ⟨c.natAbs, by rw [hn, Nat.mul_comm]⟩
    exact Nat.Coprime.dvd_of_dvd_mul_left (by rw [Nat.coprime_comm]; exact g1) this
  have d2 : e.natAbs ∣ b.natAbs := by
    have : e.natAbs ∣ c.natAbs * b.natAbs := ⟨a.natAbs, by rw [← hn, Nat.mul_comm]⟩
    exact Nat.Coprime.dvd_of_dvd_mul_left (by rw [Nat.coprime_comm]; exact g2) this
  have eb : b.natAbs = e.natAbs := Nat.dvd_antisymm d1 d2
  have eb' : b = e := by omega
  subst eb'
  refine ⟨?_, rfl⟩
  exact Int.eq_of_mul_eq_mul_right (by omega) h
theorem fr_eq {u d u' d' : Int} (h : d ≠ 0) (h' : d' ≠ 0) (e : u * d' = u' * d) : frN u d = frN u' d' ∧ frD u d = frD u' d' := by
  refine low_uniq (frD_pos h) (frD_pos h') (fr_cop h) (fr_cop h') ?_
  have c1 := fr_cross (u := u) (d := d)
  have c2 := fr_cross (u := u') (d := d')
  have hz : d * d' ≠ 0 := Int.mul_ne_zero h h'
  refine Int.eq_of_mul_eq_mul_right hz ?_
  calc frN u d * frD u' d' * (d * d') = (frN u d * d) * (frD u' d' * d') := by
        rw [Int.mul_assoc, Int.mul_assoc, ← Int.mul_assoc (frD u' d') d d', Int.mul_comm (frD u' d') d, Int.mul_assoc]
    _ = (u * frD u d) * (frD u' d' * d') := by rw [c1]
    _ = (u * d') * (frD u d * frD u' d') := by
        rw [Int.mul_assoc, Int.mul_assoc, Int.mul_comm (frD u' d') d', ← Int.mul_assoc (frD u d), Int.mul_comm (frD u d) d', Int.mul_assoc]
    _ = (u' * d) * (frD u d * frD u' d') := by rw [e]
    _ = (u' * frD u' d') * (frD u d * d) := by
        rw [Int.mul_assoc, Int.mul_assoc, Int.mul_comm (frD u d) (frD u' d'), ← Int.mul_assoc d, Int.mul_comm d, Int.mul_assoc (frD u' d'), Int.mul_comm d]
    _ = (frN u' d' * d') * (frD u d * d) := by rw [c2]
    _ = frN u' d' * frD u d * (d * d') := by
        rw [Int.mul_assoc, Int.mul_assoc, ← Int.mul_assoc d', Int.mul_comm d' (frD u d), Int.mul_assoc, Int.mul_comm d' d]
theorem fr_low {a b : Int} (hb : 0 < b) (g : Nat.gcd a.natAbs b.natAbs = 1) : frN a b = a ∧ frD a b = b := by
  have e : gc a b = 1 := by
    unfold gc
    rw [if_neg (by omega), g]
    rfl
  unfold frN frD
  rw [e]
  exact ⟨Int.fdiv_one a, Int.fdiv_one b⟩
theorem fr_one (a : Int) : frN a 1 = a ∧ frD a 1 = 1 := fr_low (by decide) (by simp)
/-- the sign of the upper number of a fraction with a lower number above 0 -/
theorem frN_sign {u d : Int} (h : 0 < d) : (0 < frN u d ↔ 0 < u) ∧ (frN u d < 0 ↔ u < 0) := by
  have c := fr_cross (u := u) (d := d)
  have p := frD_pos (u := u) (d := d) (by omega)
  refine ⟨⟨fun z => ?_, fun z => ?_⟩, ⟨fun z => ?_, fun z => ?_⟩⟩
  · have q : 0 < u * frD u d := by rw [← c]; exact Int.mul_pos z h
    exact Int.pos_of_mul_pos_left q p
  · have q : 0 < frN u d * d := by rw [c]; exact Int.mul_pos z p
    exact Int.pos_of_mul_pos_left q h
  · have q : u * frD u d < 0 := by rw [← c]; exact Int.mul_neg_of_neg_of_pos z h
    exact Int.neg_of_mul_neg_left q p
  · have q : frN u d * d < 0 := by rw [c]; exact Int.mul_neg_of_neg_of_pos z p
    exact Int.neg_of_mul_neg_left q h
end FoM

set_option maxHeartbeats 4100000
/-! Rules that the layer lacks: operators of own classes, powers and quotients of greater ints, calls by keywords alone. -/
namespace FoA
open PySem PySem.Spec PyProof.Rows L2
section
variable {X : Cx}
/-! ### numbers -/
def CPowW (i j : Int) : Prop := 0 ≤ j ∧ j ≤ 1000 ∧ i.natAbs < 2 ^ 1000
theorem bits_of {i : Int} {n : Nat} (h0 : 0 < n) (h : i.natAbs < 2 ^ n) : Builtin.Int.intBits i ≤ n := by
  have z := PySem.Flt.log2_lt_of h0 h
  unfold Builtin.Int.intBits
  split <;> omega
theorem op_powW : OpR X (binaryOp .Pow) (rI CPowW fun i j => .int (i ^ j.toNat)) := opI fun i j _ _ _ _ _ hc q => by
  obtain ⟨h1, h2, h3⟩ := hc
  refine pow_int h1 ?_ q
  have b := bits_of (by decide) h3
  have b2 : (Builtin.Int.intBits i : Int) ≤ 1000 := by omega
  have b3 : (Builtin.Int.intBits i : Int) * j ≤ 1000 * 1000 := Int.mul_le_mul b2 h2 h1 (by decide)
  exact Int.le_trans b3 (by decide)
/-- // by any divisor but 0 below 2 ^ 9000 -/
def CDivZ (_ j : Int) : Prop := j ≠ 0 ∧ j.natAbs.log2 < 9000
theorem op_fdivZ : OpR X (binaryOp .FloorDiv) (rI CDivZ fun i j => .int (i.fdiv j)) :=
  opI fun _ _ _ _ _ _ _ hc q => floordiv_int hc.1 q (.inl (PyProof.noPylong_of_log2 hc.2))
theorem divZ_of {i j : Int} {b : Nat} (h : j ≠ 0) (hb : j.natAbs < 2 ^ b) (h0 : 0 < b) (h9 : b ≤ 9000) : CDivZ i j :=
  ⟨h, Nat.lt_of_lt_of_le (PySem.Flt.log2_lt_of h0 hb) h9⟩

/-! ### what a method hands back is never NotImplemented -/
theorem back_ok {pz : List (Addr × Obj)} {τ : L2.St} {Q : VK} {u : Value} {s : Shared} (h : EP X pz τ Q u s) :
    PySem.W.CmpBack (EP X pz τ Q) u s := by
  obtain ⟨v, H, I, r, q⟩ := h
  have z : EP X pz τ Q u s := ⟨v, H, I, r, q⟩
  cases v with
  | non => cases (show u = Value.none from r); exact z
  | bl b => cases (show u = Value.bool b from r); exact z
  | int i => obtain ⟨t, e⟩ := (show ∃ t, u = Value.int i t from r); cases e; exact z
  | str x => obtain ⟨t, e⟩ := (show ∃ t, u = Value.str x t from r); cases e; exact z
  | byt b => obtain ⟨t, e⟩ := (show ∃ t, u = Value.bytes b t from r); cases e; exact z
  | flt b => obtain ⟨t, e⟩ := (show ∃ t, u = Value.float b t from r); cases e; exact z
  | ref a => cases (show u = Value.ref a from r); exact z
  | ty n => cases (show u = Value.type n from r); exact z

/-! ### a op b, a of an own class, b of the class or an int -/
/-- what the written part says of the class's method for op -/
structure BinC (K : PySem.W.Frag) (C f : Addr) (op : Operator) : Prop where
  sf : PySem.W.selfFirst K C = true
  at_ : PySem.W.findIn K (.ref C) (PySem.dunder op.info.2) = some (some (.ref f))
  (fn : PySem.W.isFn K (.ref f) = true)
  nr : PySem.W.findIn K (.ref C) (dunderR op.info.2) = some none
  ni : PySem.W.subIn K (.type "int") (.ref C) = some false
def rBin (C : Addr) (sp : Sp) (E : XK) : R2 := fun x y H Q => ∃ a dx fs, x = .ref a ∧ H a = some (.ins C dx fs) ∧
  ((∃ i, y = .int i) ∨ ∃ b dy gs, y = .ref b ∧ H b = some (.ins C dy gs)) ∧ sp [x, y] H Q E
section
variable {CX : CXT} {k : Nat} {C f : Addr} {fd : FuncData} {ps : List Str} {sp : Sp} {E : XK} {op : Operator}
theorem op_own {fo ro : Option Value} (F : FnOk X.prog X.w X.K X.mg X.base CX k f fd ps sp) (hr : Room k X.A) (hb : Binds X.K fd ps []) (hx : Passes CX X E) (B : BinC X.K C f op)
    (h1 : PySem.W.findIn X.K (.type "int") (PySem.dunder op.info.2) = some fo) (h2 : PySem.W.findIn X.K (.type "int") (dunderR op.info.2) = some ro) : OpR X (binaryOp op) (rBin C sp E) := by
  intro pz s τ H x y v u Q I rx ry h
  obtain ⟨a, dx, fs, rfl, ea, hy, q⟩ := h
  cases rx
  obtain ⟨mA, J, _⟩ := ins_get I.hok ea
  obtain ⟨od, J, _⟩ := J.look
  obtain ⟨m, hF⟩ := I.fr
  have call := run_fn (us := [.ref a, u]) (vs := [.ref a, y]) (dvs := []) F hr hb .nil hx I (.cons rfl (.cons ry .nil)) (by simpa using q)
  have back := wpAny_mono call (fun r s' z => back_ok z) fun _ _ e => e
  rcases hy with ⟨i, rfl⟩ | ⟨b, dy, gs, rfl, eb⟩
  · obtain ⟨t, rfl⟩ := ry
    exact PySem.W.ksp_binT hF I.ok.mod.kin J rfl B.sf B.at_ B.fn B.nr (.inl rfl) h1 h2 B.ni back
  · cases ry
    obtain ⟨mB, J', _⟩ := ins_get I.hok eb
    obtain ⟨od', J', _⟩ := J'.look; exact PySem.W.binop_K hF I.ok.mod.kin J J'.type B.sf B.at_ B.fn back
/-- -a, a of an own class -/
theorem un_own (F : FnOk X.prog X.w X.K X.mg X.base CX k f fd ps sp) (hr : Room k X.A) (hb : Binds X.K fd ps []) (hx : Passes CX X E)
    (h1 : PySem.W.findIn X.K (.ref C) "__neg__" = some (some (.ref f))) (h2 : PySem.W.isFn X.K (.ref f) = true) :
    UnR X (unaryOp .USub) (fun x H Q => ∃ a dx fs, x = .ref a ∧ H a = some (.ins C dx fs) ∧ sp [x] H Q E) := by
  intro pz s τ H x v Q I rx h
  obtain ⟨a, dx, fs, rfl, ea, q⟩ := h
  cases rx
  obtain ⟨mA, J, _⟩ := ins_get I.hok ea
  obtain ⟨od, J, _⟩ := J.look
  obtain ⟨m, hF⟩ := I.fr
  exact PySem.W.ksp_neg hF I.ok.mod.kin J h1 h2 (run_fn (us := [.ref a]) (vs := [.ref a]) (dvs := []) F hr hb .nil hx I (.cons rfl .nil) (by simpa using q))
/-! ### a == b, a < b, a <= b by an own method: b a plain value, a list, a tuple, a dict, an object of the class -/
inductive OthV (H : Hp) (C : Addr) : V → Prop where
  | non : OthV H C .non
  | bl (b : Bool) : OthV H C (.bl b)
  | int (i : Int) : OthV H C (.int i)
  | str (x : Str) : OthV H C (.str x)
  | lst {a : Addr} {xs : List V} (e : H a = some (.lst xs)) : OthV H C (.ref a)
  | tup {a : Addr} {xs : List V} (e : H a = some (.tup xs)) : OthV H C (.ref a)
  | dK {a : Addr} {xs : List (Key × V)} (e : H a = some (.dK xs)) : OthV H C (.ref a)
  | ins {a dx : Addr} {fs : List (Str × V)} (e : H a = some (.ins C dx fs)) : OthV H C (.ref a)
structure CmpC (K : PySem.W.Frag) (C f : Addr) (op : CmpOp) : Prop where
  at_ : PySem.W.findIn K (.ref C) (cmpInfo op).2.1 = some (some (.ref f))
  (fn : PySem.W.isFn K (.ref f) = true)
  nt : ∀ T ∈ ["NoneType", "bool", "int", "str", "list", "tuple", "dict"], PySem.W.subIn K (.type T) (.ref C) = some false
theorem CmpC.ty {K : PySem.W.Frag} {C f : Addr} {op : CmpOp} (c : CmpC K C f op) {T : String} (h : T ∈ ["NoneType", "bool", "int", "str", "list", "tuple", "dict"]) : PySem.W.notFirst K C (.type T) = true := by
  unfold PySem.W.notFirst
  rw [c.nt T h]
  exact Bool.or_eq_true_iff.mpr (.inr (beq_self_eq_true _))
def rCmp (C : Addr) (sp : Sp) (E : XK) : R2 := fun x y H Q => ∃ a dx fs, x = .ref a ∧ H a = some (.ins C dx fs) ∧ OthV H C y ∧ sp [x, y] H Q E
theorem look_type {pz : List (Addr × Obj)} {s : Shared} {τ : L2.St} {H : Hp} {a : Addr} {T : String} (o : Obj) (h : s.heap.get? a = some o) (c : o.cls = .type T) {M : Model} :
    PySem.W.Looks M s.heap (typeOf (.ref a)) (.type T) := fun A Q E s k q => wpAny_typeOf_ref (k _ _ h) (by rw [c]; exact q)
theorem op_ownC {op : CmpOp} (F : FnOk X.prog X.w X.K X.mg X.base CX k f fd ps sp) (hr : Room k X.A) (hb : Binds X.K fd ps []) (hx : Passes CX X E) (B : CmpC X.K C f op)
    (ho : ∀ v u : Value, compareOp op v u = richCompare op v u) : OpR X (compareOp op) (rCmp C sp E) := by
  intro pz s τ H x y v u Q I rx ry h
  obtain ⟨a, dx, fs, rfl, ea, hy, q⟩ := h
  cases rx
  rw [ho]
  obtain ⟨mA, J, _⟩ := ins_get I.hok ea
  obtain ⟨od, J, _⟩ := J.look
  obtain ⟨m, hF⟩ := I.fr
  have call := run_fn (us := [.ref a, u]) (vs := [.ref a, y]) (dvs := []) F hr hb .nil hx I (.cons rfl (.cons ry .nil)) (by simpa using q)
  have back := wpAny_mono call (fun r s' z => back_ok z) fun _ _ e => e
  have hu := hr.units0
  cases hy with
  | non => cases ry; exact PySem.W.cmp_K hu hF I.ok.mod.kin J (PySem.W.Looks.of_pure rfl) (B.ty (T := "NoneType") (by simp)) B.at_ B.fn back
  | bl b => cases ry; exact PySem.W.cmp_K hu hF I.ok.mod.kin J (PySem.W.Looks.of_pure rfl) (B.ty (T := "bool") (by simp)) B.at_ B.fn back
  | int i => obtain ⟨t, rfl⟩ := ry; exact PySem.W.cmp_K hu hF I.ok.mod.kin J (PySem.W.Looks.of_pure rfl) (B.ty (T := "int") (by simp)) B.at_ B.fn back
  | str z => obtain ⟨t, rfl⟩ := ry; exact PySem.W.cmp_K hu hF I.ok.mod.kin J (PySem.W.Looks.of_pure rfl) (B.ty (T := "str") (by simp)) B.at_ B.fn back
  | @lst b xs e =>
    cases ry
    obtain ⟨_, _, n, _, h1⟩ := (show ObjOk X.prog X.w H s.heap b (.lst xs) from I.hok b _ e)
    exact PySem.W.cmp_K hu hF I.ok.mod.kin J (look_type (pz := pz) (τ := τ) (H := H) _ h1 rfl) (B.ty (T := "list") (by simp)) B.at_ B.fn back
  | @tup b xs e =>
    cases ry
    obtain ⟨_, _, _, o, h1, h2, _⟩ := (show ObjOk X.prog X.w H s.heap b (.tup xs) from I.hok b _ e)
    exact PySem.W.cmp_K hu hF I.ok.mod.kin J (look_type (pz := pz) (τ := τ) (H := H) _ h1 h2) (B.ty (T := "tuple") (by simp)) B.at_ B.fn back
  | @dK b xs e =>
    cases ry
    obtain ⟨_, _, vs, _, o, es, ep, h1, h2, _⟩ := (show ObjOk X.prog X.w H s.heap b (.dK xs) from I.hok b _ e)
    exact PySem.W.cmp_K hu hF I.ok.mod.kin J (look_type (pz := pz) (τ := τ) (H := H) _ h1 h2.1) (B.ty (T := "dict") (by simp)) B.at_ B.fn back
  | @ins b dy gs e =>
    cases ry
    obtain ⟨mB, J', _⟩ := ins_get I.hok e
    obtain ⟨od', J', _⟩ := J'.look; exact PySem.W.cmp_K hu hF I.ok.mod.kin J J'.type (by simp [PySem.W.notFirst]) B.at_ B.fn back
end
end
section
variable {X : Cx}
theorem call_intI : CallR X (.type "int") (fun xs H Q => ∃ i, xs = [.int i] ∧ Q (.int i) H) := fun pz s τ H xs us Q I r h =>
  call_int1 pz s τ H xs us Q I r (.inl h)
theorem call_intB : CallR X (.type "int") (fun xs H Q => ∃ k, xs = [.bl k] ∧ Q (.int (if k then 1 else 0)) H) := fun pz s τ H xs us Q I r h =>
  call_int1 pz s τ H xs us Q I r (.inr h)
end
end FoA

set_option maxHeartbeats 4100000
/-! A hook whose facts are free Bools of the written part; defs at any address. -/
namespace FoZ
open PySem PySem.Spec PyProof.Rows L2
abbrev Fr1 := PySem.W.Frag
/-- what is looked at: all of the Bools, and the defs -/
def look (bs : List (Fr1 → Bool)) (ds : List He5.DefA) (K : Fr1) : Bool × List He.FnW :=
  ((bs.all fun b => b K) && ds.all fun d => d.ok K, ds.map fun d => He5.fnA K (d.at_ K))
def want (ds : List He5.DefA) : Bool × List He.FnW := (true, ds.map He5.DefA.val)
def Told (bs : List (Fr1 → Bool)) (ds : List He5.DefA) (K : Fr1) : Prop := look bs ds K = want ds
def lookG (n : Nat) (bs : List (Fr1 → Bool)) (ds : List He5.DefA) (g : Addr → Option Obj) : Bool × List He.FnW :=
  look bs ds (He.frG g (He5.asA g n))
def hook (n : Nat) (bs : List (Fr1 → Bool)) (ds : List He5.DefA) : PySem.W.Hook where
  α := Bool × List He.FnW
  obs := fun s => lookG n bs ds s.heap.get?
  val := fun _ => want ds
  says := fun _ h => ∃ K : Fr1, K.In h ∧ Told bs ds K
  of := fun _ _ e => ⟨_, He.frG_in, e⟩
  keeps := fun _ _ _ ⟨K, hKK, c⟩ k => ⟨K, PySem.W.Frag.In.keeps hKK k, c⟩
theorem lookG_eq {n : Nat} {bs : List (Fr1 → Bool)} {ds : List He5.DefA} {g : Addr → Option Obj} {s : Shared}
    (h : ∀ a, g a = s.heap.get? a) : lookG n bs ds g = (hook n bs ds).obs s := by
  have e : g = s.heap.get? := funext h; rw [e]
  rfl
section
variable {bs : List (Fr1 → Bool)} {ds : List He5.DefA} {K : Fr1}
theorem Told.bool (c : Told bs ds K) (i : Nat) {b : Fr1 → Bool} (h : bs[i]? = some b := by rfl) : b K = true := by
  have c0 : ((bs.all fun b => b K) && ds.all fun d => d.ok K) = true := congrArg Prod.fst c
  have c1 := (Bool.and_eq_true_iff.mp c0).1
  exact List.all_eq_true.mp c1 b (List.mem_of_getElem? h)
theorem Told.defn (c : Told bs ds K) (i : Nat) {d : He5.DefA} (h : ds[i]? = some d := by rfl) :
    ∃ fd, FunD K d.name d.qual d.params d.body d.scope (d.dvs K) (d.kws K) (d.at_ K) fd := by
  have c0 : ((bs.all fun b => b K) && ds.all fun d => d.ok K) = true := congrArg Prod.fst c
  have c1 := (Bool.and_eq_true_iff.mp c0).2
  have e : ds.map (fun d => He5.fnA K (d.at_ K)) = ds.map He5.DefA.val := congrArg Prod.snd c
  have e1 : (ds.map fun d => He5.fnA K (d.at_ K))[i]? = (ds.map He5.DefA.val)[i]? := by rw [e]
  rw [List.getElem?_map, List.getElem?_map, h] at e1
  exact He5.DefA.funD (Option.some.inj e1) (List.all_eq_true.mp c1 d (List.mem_of_getElem? h))
end
/-! ### further Bools -/
/-- the getter of a property m of the class that the name x stands for -/
def pg (K : Fr1) (x m : Str) : Addr := match PySem.W.recIn K (He.ma K (He.ga K x) m) "property" with
  | some (.ref g :: _) => g
  | _ => 0
def propB (x m : Str) (K : Fr1) : Bool :=
  He.eqO (PySem.W.findIn K (.ref (He.ga K x)) m) (some (some (.ref (He.ma K (He.ga K x) m)))) &&
  (He.eqO (PySem.W.specialIn K (.ref (He.ma K (He.ga K x) m)) "__get__") (some (some (.builtin "property.__get__"))) &&
  (decide (PySem.W.takesIn K (.ref (He.ma K (He.ga K x) m)) = some true) && (match PySem.W.recIn K (He.ma K (He.ga K x) m) "property" with
    | some (.ref _ :: _) => true
    | _ => false)))
theorem prop_ok {K : Fr1} {x m : Str} (h : propB x m K = true) : PropOf K (He.ga K x) m (He.ma K (He.ga K x) m) (pg K x m) := by
  obtain ⟨h1, h⟩ := He.ba h
  obtain ⟨h2, h⟩ := He.ba h
  obtain ⟨h3, h4⟩ := He.ba h
  refine ⟨He.eqO_ok h1, He.eqO_ok h2, of_decide_eq_true h3, ?_⟩
  unfold pg
  split at h4
  · rename_i g r e
    exact ⟨r, by rw [e]⟩
  · cases h4
def impB (x : Str) (id : String) (K : Fr1) : Bool := He.eqO (PySem.W.nsIn K mainGlobals x) (some (some (.builtin id)))
theorem imp_ok {K : Fr1} {h : Heap} {mg : Str → Option Value} (X : K.In h) (G : h.Ns mainGlobals mg) {x : Str} {id : String} (c : impB x id K = true) : mg x = some (.builtin id) :=
  PySem.W.mg_of X G (He.eqO_ok c)
def binB (x m r : Str) (K : Fr1) : Bool := PySem.W.selfFirst K (He.ga K x) && (He.eqO (PySem.W.findIn K (.ref (He.ga K x)) m) (some (some (.ref (He.ma K (He.ga K x) m)))) &&
  (PySem.W.isFn K (.ref (He.ma K (He.ga K x) m)) && (He.eqO (PySem.W.findIn K (.ref (He.ga K x)) r) (some none) && decide (PySem.W.subIn K (.type "int") (.ref (He.ga K x)) = some false))))
def tyNames : List String := ["NoneType", "bool", "int", "str", "list", "tuple", "dict"]
def cmpB (x m : Str) (K : Fr1) : Bool := He.eqO (PySem.W.findIn K (.ref (He.ga K x)) m) (some (some (.ref (He.ma K (He.ga K x) m)))) &&
  (PySem.W.isFn K (.ref (He.ma K (He.ga K x) m)) && tyNames.all fun T => decide (PySem.W.subIn K (.type T) (.ref (He.ga K x)) = some false))
/-- the binding of the law's one argument -/
theorem bind1 {K : Fr1} {x qual y : Str} {st : Stmt} {f : Addr} {fd : FuncData} (F : Fun K x qual st f fd) (s : Shared) (v : Value)
    (h : ∀ (kV doc pm : Value) (an : Option Addr) (cv ct : Value), bindArgs (PySem.W.fnOf x qual (defArgs st) (defBody st) (defScope st) .none kV doc pm an cv ct) ⟨[v], []⟩ = pure [(y, v)] := by intros; rfl) : BindsTo s fd ⟨[v], []⟩ [(y, v)] := by
  obtain ⟨oc, od, kV, doc, pm, an, cv, ct, osl, rfl, lk, hcd⟩ := F.ex
  exact .of_eq (h kV doc pm an cv ct)
end FoZ

set_option maxHeartbeats 4100000
namespace FoB
open PySem PySem.Spec PyProof.Rows L2 FoZ
section
variable {K : PySem.W.Frag} {x m r : Str}
theorem bin_raw {op : Operator} (h : binB x m r K = true) (hm : PySem.dunder op.info.2 = m) (hr : dunderR op.info.2 = r) : FoA.BinC K (He.ga K x) (He.ma K (He.ga K x) m) op := by
  obtain ⟨h1, h⟩ := He.ba h
  obtain ⟨h2, h⟩ := He.ba h
  obtain ⟨h3, h⟩ := He.ba h
  obtain ⟨h4, h5⟩ := He.ba h
  exact ⟨h1, by rw [hm]; exact He.eqO_ok h2, h3, by rw [hr]; exact He.eqO_ok h4, of_decide_eq_true h5⟩
theorem bin_add (h : binB x "__add__" "__radd__" K = true) : FoA.BinC K (He.ga K x) (He.ma K (He.ga K x) "__add__") .Add := bin_raw h (by kernel_rfl) (by kernel_rfl)
theorem bin_sub (h : binB x "__sub__" "__rsub__" K = true) : FoA.BinC K (He.ga K x) (He.ma K (He.ga K x) "__sub__") .Sub := bin_raw h (by kernel_rfl) (by kernel_rfl)
theorem bin_mul (h : binB x "__mul__" "__rmul__" K = true) : FoA.BinC K (He.ga K x) (He.ma K (He.ga K x) "__mul__") .Mult := bin_raw h (by kernel_rfl) (by kernel_rfl)
theorem cmp_raw {op : CmpOp} (h : cmpB x m K = true) (hm : (cmpInfo op).2.1 = m) : FoA.CmpC K (He.ga K x) (He.ma K (He.ga K x) m) op := by
  obtain ⟨h1, h⟩ := He.ba h
  obtain ⟨h2, h3⟩ := He.ba h
  exact ⟨by rw [hm]; exact He.eqO_ok h1, h2, fun T hT => of_decide_eq_true (List.all_eq_true.mp h3 T hT)⟩
theorem cmp_eq (h : cmpB x "__eq__" K = true) : FoA.CmpC K (He.ga K x) (He.ma K (He.ga K x) "__eq__") .Eq := cmp_raw h rfl
theorem cmp_lt (h : cmpB x "__lt__" K = true) : FoA.CmpC K (He.ga K x) (He.ma K (He.ga K x) "__lt__") .Lt := cmp_raw h rfl
theorem cmp_le (h : cmpB x "__le__" K = true) : FoA.CmpC K (He.ga K x) (He.ma K (He.ga K x) "__le__") .LtE := cmp_raw h rfl
end
section
variable {K : PySem.W.Frag} {x : Str}
/-! ### isinstance -/
/-- an object of x's class: what isinstance looks at; its class against int, bool, the class itself; the plain types against the class -/
def isiB (x : Str) (K : PySem.W.Frag) : Bool := He.eqO (PySem.W.findIn K (.ref (He.ga K x)) "__class__") (some (some (.builtin "object.__class__"))) &&
  (He.eqO (PySem.W.specialIn K (.builtin "object.__class__") "__get__") (some (some (.builtin "getset_descriptor.__get__"))) &&
  (decide (PySem.W.takesIn K (.builtin "object.__class__") = some true) && (decide (PySem.W.mroIn K (He.ga K x) (.type "object") = some true) &&
  (decide (PySem.W.kitOne K (.ref (He.ga K x)) (.type "int") = some false) && (decide (PySem.W.kitOne K (.ref (He.ga K x)) (.type "bool") = some false) &&
  tyNames.all fun T => decide (PySem.W.kitOne K (.type T) (.ref (He.ga K x)) = some false))))))
structure Isi (K : PySem.W.Frag) (D : Addr) : Prop where
  (ha : PySem.W.findIn K (.ref D) "__class__" = some (some (.builtin "object.__class__")))
  (hn : PySem.W.specialIn K (.builtin "object.__class__") "__get__" = some (some (.builtin "getset_descriptor.__get__")))
  (ht : PySem.W.takesIn K (.builtin "object.__class__") = some true)
  (hm : PySem.W.mroIn K D (.type "object") = some true)
  ki : PySem.W.kitOne K (.ref D) (.type "int") = some false
  kb : PySem.W.kitOne K (.ref D) (.type "bool") = some false
  kt : ∀ T ∈ tyNames, PySem.W.kitOne K (.type T) (.ref D) = some false
theorem isi_ok (h : isiB x K = true) : Isi K (He.ga K x) := by
  obtain ⟨h1, h⟩ := He.ba h
  obtain ⟨h2, h⟩ := He.ba h
  obtain ⟨h3, h⟩ := He.ba h
  obtain ⟨h4, h⟩ := He.ba h
  obtain ⟨h5, h⟩ := He.ba h
  obtain ⟨h6, h7⟩ := He.ba h
  exact ⟨He.eqO_ok h1, He.eqO_ok h2, of_decide_eq_true h3, of_decide_eq_true h4, of_decide_eq_true h5, of_decide_eq_true h6, fun T hT => of_decide_eq_true (List.all_eq_true.mp h7 T hT)⟩
theorem kit_self {K : PySem.W.Frag} {D : Addr} : PySem.W.kitOne K (.ref D) (.ref D) = some true := by
  unfold PySem.W.kitOne
  rw [if_pos (beq_self_eq_true (Value.ref D))]
/-- isinstance(e, D), e an object of D -/
theorem TyI {D a dx : Addr} {H : Hp} {fs : List (Str × V)} (i : Isi K D) (c : Cls K D) (e : H a = some (.ins D dx fs)) : TyX K H (.ref a) (.ref D) := .base (.ins e c i.ha i.hn i.ht i.hm)
/-! ### own errors -/
structure ErrC (K : PySem.W.Frag) (D : Addr) : Prop where
  ex : PySem.W.excIn K D He.veBase "ValueError.__new__" = true
  kp : PySem.W.keepIn K (.ref D) = true
  sb : PySem.W.subIn K (.ref D) (.type "BaseException") = some true
  ty : PySem.W.typeIn K (.ref D) = some (.type "type")
  me : PySem.W.exmOne K (.ref D) (.ref D) = some true
def errB (x : Str) (K : PySem.W.Frag) : Bool := (He.Fa.exc x).ok K && (He.Fa.exm x x true).ok K
theorem err_ok (h : errB x K = true) : ErrC K (He.ga K x) := by
  obtain ⟨h1, h2⟩ := He.ba h
  obtain ⟨a, b, c, d⟩ := He.exc_ok h1
  exact ⟨a, b, c, d, He.exm_ok h2⟩
/-- an error with an __init__ of its own -/
def oexB (x : Str) (f : Str) (K : PySem.W.Frag) : Bool := (match K.lookup (He.ga K x) with
    | some ⟨.type t, _, .cls cdt, slt⟩ => decide (t = "type") && ((match cdt.mro with
      | .ref D :: bm => decide (D = He.ga K x) && PySem.HandSPX.refsVE bm
      | _ => false) && (cdt.hasDict && (!cdt.hasDel && (match slt.toList with
      | [_, _, _, _, some (.builtin n), _] => decide (n = "ValueError.__new__")
      | _ => false))))
    | _ => false) &&
  (He.eqO (PySem.W.findIn K (.ref (He.ga K x)) "__setattr__") (some (some (.builtin "object.__setattr__"))) &&
  (decide (PySem.W.subIn K (.ref (He.ga K x)) (.type "BaseException") = some true) && (decide (PySem.W.typeIn K (.ref (He.ga K x)) = some (.type "type")) && (PySem.W.keepIn K (.ref (He.ga K x)) &&
  (He.eqO (PySem.W.findIn K (.ref (He.ga K x)) f) (some none) && ((He.Fa.exm x x true).ok K &&
  (He.eqO (PySem.W.findIn K (.ref (He.ga K x)) "__init__") (some (some (.ref (He.ma K (He.ga K x) "__init__")))) && (decide (PySem.W.typeIn K (.ref (He.ma K (He.ga K x) "__init__")) = some (.type "function")) &&
  (He.eqO (PySem.W.findIn K (.ref (He.ga K x)) "__getattribute__") (some (some (.builtin "BaseException.__getattribute__"))) && (He.eqO (PySem.W.findIn K (.ref (He.ga K x)) "__getattr__") (some none) && PySem.W.hasDictIn K (He.ga K x)))))))))))
structure OErr (K : PySem.W.Frag) (D fI : Addr) (f : Str) : Prop where
  ox : OexC K D
  no : PySem.W.findIn K (.ref D) f = some none
  me : PySem.W.exmOne K (.ref D) (.ref D) = some true
  iC : PySem.W.findIn K (.ref D) "__init__" = some (some (.ref fI))
  tI : PySem.W.typeIn K (.ref fI) = some (.type "function")
  ga : PySem.W.findIn K (.ref D) "__getattribute__" = some (some (.builtin "BaseException.__getattribute__"))
  gg : PySem.W.findIn K (.ref D) "__getattr__" = some none
  (hd : PySem.W.hasDictIn K D = true)
theorem oerr_ok {f : Str} (h : oexB x f K = true) : OErr K (He.ga K x) (He.ma K (He.ga K x) "__init__") f := by
  obtain ⟨h1, h⟩ := He.ba h
  obtain ⟨h2, h⟩ := He.ba h
  obtain ⟨h3, h⟩ := He.ba h
  obtain ⟨h4, h⟩ := He.ba h
  obtain ⟨h5, h⟩ := He.ba h
  obtain ⟨h6, h⟩ := He.ba h
  obtain ⟨h7, h⟩ := He.ba h
  obtain ⟨h8, h⟩ := He.ba h
  obtain ⟨h9, h⟩ := He.ba h
  obtain ⟨h10, h⟩ := He.ba h
  obtain ⟨h11, h12⟩ := He.ba h
  refine ⟨⟨?_, He.eqO_ok h2, of_decide_eq_true h3, of_decide_eq_true h4, h5⟩, He.eqO_ok h6, He.exm_ok h7, He.eqO_ok h8, of_decide_eq_true h9, He.eqO_ok h10, He.eqO_ok h11, h12⟩
  generalize He.ga K x = D at h1
  split at h1
  · rename_i t dd cdt slt lk
    obtain ⟨g1, g⟩ := He.ba h1
    obtain ⟨g2, g⟩ := He.ba g
    obtain ⟨g3, g⟩ := He.ba g
    obtain ⟨g4, g5⟩ := He.ba g
    have e1 : t = "type" := of_decide_eq_true g1
    subst e1
    split at g2
    · rename_i C' bm hm
      obtain ⟨q1, q2⟩ := He.ba g2
      have e2 : C' = D := of_decide_eq_true q1
      subst e2
      split at g5
      · rename_i k0 k1 k2 k3 n k5 hs
        have e3 : n = "ValueError.__new__" := of_decide_eq_true g5
        subst e3
        obtain ⟨nm, bs, mro, ns, qn, hd, sn, sub, ab, col, del⟩ := cdt
        dsimp only at hm g3 g4
        subst hm g3
        have e4 : del = false := by
          cases del
          · rfl
          · cases g4
        subst e4
        have hsl : slt = #[k0, k1, k2, k3, some (.builtin "ValueError.__new__"), k5] := by
          obtain ⟨l⟩ := slt
          simp only at hs
          rw [hs]
        subst hsl
        exact ⟨nm, qn, ns, bs, bm, sn, sub, ab, col, dd, k0, k1, k2, k3, k5, lk, q2⟩
      · cases g5
    · cases g2
  · cases h1
end
section
variable {X : Cx} {D : Addr}
/-- X() -/
theorem pmk_own0 {x : Str} {p pos : Pos} (e : ErrC X.K D) (gC : X.mg x = some (.ref D)) (hg : Gl X x) (hdq : (x == ("__debug__" : Str)) = false := by decide) :
    L2.PMk X (.Call (.Name x p) [] [] pos) (fun _ H Q => Q (.ref D) none H) := by
  intro pz s τ H Q I h
  refine wpAny_Call_Name_kw (ld_glob I hg gC ?_ hdq)
  refine PySem.W.callWith_K0 I.kIn e.kp ?_
  show wpAny _ _ (call (.ref D) []) _ _ _
  obtain ⟨bm, N, nm, qn, bs, hdct, sn, sub, ab, col, dd, k0, k1, k2, k3, k5, mN, hC, hN, hni, T⟩ := exc_obj I.kIn e.ex
  refine wpAny_call_exc_subT PySem.F.excBase_ValueError T hC hN hni (fun h' e' hm => ?_) (Nat.zero_le _)
  exact mk_of I hm (raises_own e.sb e.ty) h (I.hok.gone hm.new)
end
end FoB

set_option maxHeartbeats 4100000
/-! The head of a program that begins with imports: the opening and the top by one kernel run each. -/
noncomputable section
namespace FoI
open PySem PySem.W PySem.Calls PyProof.Rows HandSHeadRun
/-- the state behind the opening, its heap as a tree -/
def treeOf (s : Shared) (r : PySem.W.BT × Nat) : SharedT := ⟨r.1, r.2, s.heap.life, s.gens, s.drawn, s.toks, s.os⟩
theorem treeOf_abs {s : Shared} {t : PySem.W.BT} {n : Nat} (e : putAll s.heap.objs.toList .nil 0 = some (t, n)) : (treeOf s (t, n)).abs = s := by
  have h := putAll_heap e
  show (⟨absHeap t n s.heap.life, s.gens, s.drawn, s.toks, s.os⟩ : Shared) = s
  rw [h]
def endS (st : SharedT → Thread → Option (SharedT × Thread)) (M : Nat) (p : Program) (s0 : Shared) : Option SharedT := match putAll s0.heap.objs.toList .nil 0 with
  | some (t, n) => frNat n fun n0 => goF st n0 (s0.heap.nsMap mainGlobals "__annotations__") M (treeOf s0 (t, n0)) (topStub p)
  | none => none
theorem endS_ok {M : Nat} {p : Program} {w : World} {s0 : Shared} {s : SharedT} (h : endS (stepT (denote treeTable) p w) M p s0 = some s) :
    topRun treeTable p w s0.heap.objs.size (s0.heap.nsMap mainGlobals "__annotations__") M s0 (topStub p) = some s.abs := by
  unfold endS at h
  cases e : putAll s0.heap.objs.toList .nil 0 with
  | none =>
    rw [e] at h
    cases h
  | some r =>
    obtain ⟨t, n⟩ := r
    rw [e] at h
    have h1 : (frNat n fun n0 => goF (stepT (denote treeTable) p w) n0 (s0.heap.nsMap mainGlobals "__annotations__") M (treeOf s0 (t, n0)) (topStub p)) = some s := h
    rw [frNat_eq] at h1
    have q := goF_ok h1
    have en : s0.heap.objs.size = n := by
      have eh := putAll_heap e
      have z : (absHeap t n s0.heap.life).objs.size = s0.heap.objs.size := by rw [eh]
      rw [← z]
      exact absHeap_size t n _
    rw [treeOf_abs e] at q
    rw [en]
    exact q
/-- the whole run, from nothing -/
def endI (tb : String → Option Builtin) (st : SharedT → Thread → Option (SharedT × Thread)) (M : Nat) (p : Program) (w : World) : Option (Shared × SharedT) :=
  match fencedOpening tb p w M with
  | some s0 => match endS st M p s0 with
    | some s => some (s0, s)
    | none => none
  | none => none
def looksI (p : Program) (s0 : Shared) (s : Shared) : Bool := (s0.heap.isNs mainGlobals && s0.gens.size == 0) && (staticsOk (importedModules p.main.body) s0.heap s.heap && namesBound p s.heap && gensDone s && laidKept s0.heap s.heap)
theorem left_imp {p q : Program} {lse : List PySem.Str} {Xt : Shared → Bool} {α : Type} {Yf : Shared → α} {Ya : World → α} {M : Nat}
    (run : ∀ w : World, (endI treeTable (stepT (denote treeTable) p w) M p w).map (fun s => (looksI p s.1 s.2.abs, openSeen q lse (importedModules p.main.body) Xt true s.2.abs, Yf s.2.abs)) = some (true, openGood q lse, Ya w)) :
    LeftO p q lse Xt Yf Ya M true := fun w => by
  obtain ⟨⟨s0, s⟩, hs, hv⟩ := Option.map_eq_some_iff.mp (run w)
  obtain ⟨m1, m2, m3⟩ : _ ∧ _ ∧ _ := by simpa only [Prod.mk.injEq] using hv
  unfold endI at hs
  cases e0 : fencedOpening treeTable p w M with
  | none =>
    rw [e0] at hs
    cases hs
  | some z =>
    rw [e0] at hs
    dsimp only at hs
    cases e1 : endS (stepT (denote treeTable) p w) M p z with
    | none =>
      rw [e1] at hs
      cases hs
    | some y =>
      rw [e1] at hs
      dsimp only at hs
      obtain ⟨rfl, rfl⟩ : z = s0 ∧ y = s := by
        have := Option.some.inj hs
        exact Prod.mk.inj this
      obtain ⟨a, b⟩ := Bool.and_eq_true_iff.mp m1
      have r := endS_ok e1
      have t : topFrom treeTable p w M z = some y.abs := by
        unfold topFrom
        rw [a]
        show (topRun treeTable p w z.heap.objs.size (z.heap.nsMap mainGlobals "__annotations__") M z (topStub p)).bind _ = _
        rw [r]
        show (match staticsOk (importedModules p.main.body) z.heap y.abs.heap && namesBound p y.abs.heap && gensDone y.abs && laidKept z.heap y.abs.heap with | true => some y.abs | false => none) = _
        rw [b]
      unfold openEnds
      rw [e0]
      show (topFrom treeTable p w M z).map _ = _
      rw [t]
      exact congrArg some (Prod.ext m2 m3)
/-- the run's equation at a world, by the library's twins -/
def RunI (r : OpenRow) (q : Program) (H : Hook) (ob : SharedT → H.α) (M : Nat) (lse : List PySem.Str) (w : World) : Prop :=
  (endI tabQ (stepQ (denQ tabQ) r.prog w) M r.prog w).map (fun s => (looksI r.prog s.1 s.2.abs, seenQ q lse (importedModules r.prog.main.body) (fun s => xlAt q [] s && recOk r.toRowW.records s) s.2.abs, ob s.2)) = some (true, openGood q lse, H.val w)
theorem head_imp {r : OpenRow} {q : Program} {H : Hook} {ob : SharedT → H.α} {M : Nat} {lse : List PySem.Str} {d : DefRec} {kwq : List (PySem.Str × PySem.Expr)} (ho : ∀ s : SharedT, ob s = H.obs s.abs)
    (run : ∀ w, RunI r q H ob M lse w)
    (hdef : defOf q r.name = some (d, kwq)) (hp : r.prog.theDef r.name = some (d.params, d.body, d.scope)) (hk : kwWritten? d.params.kwonlyargs d.params.kw_defaults = some kwq) (hwr : (!r.writes || r.records.isEmpty) = true)
    (k1 : r.wellSaid = true)
      (ok : (chainsOk q && opensWell r.prog && (frees r.toRowW && r.within.isEmpty)) = true) (hb : r.prog.bare) (hw : r.toRowW.promised)
    (call : WalkO q lse (XL q []) H.says r.toRowW d kwq fun f vs => PySem.call f vs) : r.Holds := by
  have lft : LeftO r.prog q lse (fun s => xlAt q [] s && recOk r.toRowW.records s) H.obs H.val M true :=
    left_imp fun w => by
      have z := run w
      have eob : ob = fun s => H.obs s.abs := funext ho
      unfold RunI at z
      rw [eob] at z
      have e2 : endI treeTable (stepT (denote treeTable) r.prog w) M r.prog w = endI tabQ (stepQ (denQ tabQ) r.prog w) M r.prog w := by
        rw [tabQ_eq, stepQ_eq, denQ_eq]
      rw [e2]
      simp only [seenQ_eq]
      exact z
  exact holds_open (r := r) (q := q) (loose := lse) (XP := XL q []) (YP := H.says) (d := d) (kwd := kwq) lft H.of H.keeps (fun s z => xl_of s (Bool.and_eq_true_iff.mp z).1) XL.keeps hdef hp hk (fun s z => recFacts_of (Bool.and_eq_true_iff.mp z).2) hwr k1 ok hb hw call
/-- the run told in parts: a declaration each -/
theorem run_of {r : OpenRow} {q : Program} {H : Hook} {ob : SharedT → H.α} {M : Nat} {lse : List PySem.Str} {w : World}
    (h1 : (endI tabQ (stepQ (denQ tabQ) r.prog w) M r.prog w).map (fun s => looksI r.prog s.1 s.2.abs) = some true)
    (h2 : (endI tabQ (stepQ (denQ tabQ) r.prog w) M r.prog w).map (fun s => seenQ q lse (importedModules r.prog.main.body) (fun s => xlAt q [] s && recOk r.toRowW.records s) s.2.abs) = some (openGood q lse))
    (h3 : (endI tabQ (stepQ (denQ tabQ) r.prog w) M r.prog w).map (fun s => ob s.2) = some (H.val w)) : RunI r q H ob M lse w := by
  unfold RunI
  revert h1 h2 h3
  generalize endI tabQ (stepQ (denQ tabQ) r.prog w) M r.prog w = x
  intro h1 h2 h3
  cases x with
  | none => cases h1
  | some s =>
    have a1 := Option.some.inj h1
    have a2 := Option.some.inj h2
    have a3 := Option.some.inj h3
    exact congrArg some (Prod.ext a1 (Prod.ext a2 a3))
theorem looks_app {n : Nat} {b1 b2 : List (FoZ.Fr1 → Bool)} {d1 d2 : List He5.DefA} {g : Addr → Option Obj} (h1 : FoZ.lookG n b1 d1 g = FoZ.want d1) (h2 : FoZ.lookG n b2 d2 g = FoZ.want d2) : FoZ.lookG n (b1 ++ b2) (d1 ++ d2) g = FoZ.want (d1 ++ d2) := by
  have a1 := (Prod.mk.inj h1)
  have a2 := (Prod.mk.inj h2)
  refine Prod.ext ?_ ?_
  · show ((b1 ++ b2).all _ && (d1 ++ d2).all _) = true
    obtain ⟨x1, y1⟩ := Bool.and_eq_true_iff.mp a1.1
    obtain ⟨x2, y2⟩ := Bool.and_eq_true_iff.mp a2.1
    rw [List.all_append, List.all_append, x1, x2, y1, y2]
    rfl
  · show (d1 ++ d2).map _ = (d1 ++ d2).map _
    rw [List.map_append, List.map_append]
    exact (congr (congrArg _ a1.2) a2.2)
theorem looks_map {α : Type} {x : Option (α × SharedT)} {n : Nat} {b1 b2 : List (FoZ.Fr1 → Bool)} {d1 d2 : List He5.DefA} (h1 : x.map (fun s => FoZ.lookG n b1 d1 (getT s.2)) = some (FoZ.want d1)) (h2 : x.map (fun s => FoZ.lookG n b2 d2 (getT s.2)) = some (FoZ.want d2)) :
    x.map (fun s => FoZ.lookG n (b1 ++ b2) (d1 ++ d2) (getT s.2)) = some (FoZ.want (d1 ++ d2)) := by
  cases x with
  | none => cases h1
  | some s => exact congrArg some (looks_app (Option.some.inj h1) (Option.some.inj h2))
end FoI

set_option maxHeartbeats 4100000
/-! Calls by keywords alone; calls whose exceptions are wished for at the caller's slots. -/
namespace FoC
open PySem PySem.Spec PyProof.Rows L2
section
variable {X : Cx} {CX : CXT} {k n : Nat} {f C : Addr} {fd : FuncData} {ps ks : List Str} {sp : Sp} {E : XK} {x m : Str} {p pos apos : Pos} {e o : Expr} {es : List Expr} {kws : List Keyword} {t tk : TA} {ta te : TE} {g : List Value → List Value → List Value} {gV : List V → List V → List V}
/-- f(k = v, ..) -/
theorem pe_callN0 (F : FnOk X.prog X.w X.K X.mg X.base CX k f fd ps sp) (hr : Room k X.A) (hg : Gl X x) (hg2 : X.mg x = some (.ref f)) (hk : PySem.W.keepIn X.K (.ref f) = true) (hb : KBn X.K fd ps 0 ks g gV) (hx : Passes CX X E)
    (hkw : PK X kws tk) (hall : (backToKw pos (keywordEach kws X.env)).all (·.1.isSome) = true := by rfl) (hks : (backToKw pos (keywordEach kws X.env)).filterMap (·.1) = ks := by rfl)
    (hdq : (x == ("__debug__" : Str)) = false := by decide) (hpq : ((backTo pos (starEach [] X.env)).any (·.1) || (backToKw pos (keywordEach kws X.env)).any (·.1.isNone)) = false := by rfl) :
    PE X (.Call (.Name x p) [] kws pos) (tCallN 0 ks.length sp gV E tNil tk) := by
  refine ⟨fun pz s τ H Q I h => ?_⟩
  refine wpAny_Call_Name_kw (ld_glob I hg hg2 ?_ hdq)
  refine PySem.W.callWith_KW0 (h₀ := X.base) I.ok.mod.kin hk hall ?_ hpq
  refine thn (hkw.run pos pz s τ H _ I h) fun ws s2 ⟨zz, H2, J2, rk, l1, l2, q2⟩ => ⟨J2.kIn, ?_⟩
  rw [hks]
  exact run_fnN (us := []) (vs := []) F hr hb hx J2 .nil rk l1 l2 q2
/-- o.m(k = v, ..) -/
def tMethN (C : Addr) (m : Str) (nk : Nat) (sp : Sp) (gV : List V → List V → List V) (E : XK) (ta : TE) (tk : TA) : TE := fun τ H Q => ta τ H fun x H1 => ∃ a dx fs, x = .ref a ∧ H1 a = some (.ins C dx fs) ∧ fs.lookup m = none ∧
  tk τ H1 fun zz H2 => zz.length = nk ∧ sp (gV [x] zz) H2 Q E
theorem pe_methN0 {pl : Sem Bool} (he : PE X o ta) (c : Cls X.K C) (hg2 : Meth X.K C m f) (F : FnOk X.prog X.w X.K X.mg X.base CX k f fd ps sp) (hr : Room k X.A) (hb : KBn X.K fd ps 1 ks g gV) (hx : Passes CX X E) (hkw : PK X kws tk)
    (hall : (backToKw pos (keywordEach kws X.env)).all (·.1.isSome) = true := by rfl) (hks : (backToKw pos (keywordEach kws X.env)).filterMap (·.1) = ks := by rfl)
    (hpq : ((backTo pos (starEach [] X.env)).any (·.1) || (backToKw pos (keywordEach kws X.env)).any (·.1.isNone)) = false := by rfl)
    (ht : eval (.Call (.Attribute o m apos) [] kws pos) X.env = (do
      let ov ← eval o X.env
      standAt apos.atName
      let (f, first) ← holding [ov] (getMethod ov m pl)
      callWith pos f first (backTo pos (starEach [] X.env)) (backToKw pos (keywordEach kws X.env))) := by rfl) :
    PE X (.Call (.Attribute o m apos) [] kws pos) (tMethN C m ks.length sp gV E ta tk) := by
  refine ⟨fun pz s τ H Q I h => ?_⟩
  refine PySem.W.methodCall_KW (pl := pl) (thn (he.run pz s τ H _ I h) fun u s1 ⟨x, H1, J1, rx, a, dx, fs, ex, ea, l, q⟩ => ?_) ht
  subst ex
  obtain rfl : u = Value.ref a := rx
  refine getmeth_ok J1 ea c hg2 l ?_
  refine PySem.W.callWith_KW0 (first := [.ref a]) (h₀ := X.base) I.ok.mod.kin hg2.kp hall ?_ hpq
  refine thn (hkw.run pos pz s1 τ H1 _ J1 q) fun ws s2 ⟨zz, H2, J2, rk, l2, q2⟩ => ⟨J2.kIn, ?_⟩
  rw [hks]
  exact run_fnN (us := [.ref a]) (vs := [.ref a]) F hr hb hx J2 (.cons rfl .nil) rk rfl l2 q2
/-- how a def without defaults binds: n values and the keywords ks -/
theorem kbn {K : PySem.W.Frag} {x qual : Str} {st : Stmt} {f : Addr} {fd : FuncData} {ps ks : List Str} {n : Nat} (g : {α : Type} → List α → List α → List α) (F : Fun K x qual st f fd)
    (hrel : ∀ {vs zz : List V} {us ws : List Value}, Vals vs us → Vals zz ws → Vals (g vs zz) (g us ws))
    (h : ∀ (kV doc pm : Value) (an : Option Addr) (cv ct : Value) (us ws : List Value), us.length = n → ws.length = ks.length →
      bindArgs (PySem.W.fnOf x qual (defArgs st) (defBody st) (defScope st) .none kV doc pm an cv ct) ⟨us, ks.zip ws⟩ = pure (ps.zip (g us ws))) : KBn K fd ps n ks (fun us ws => g us ws) (fun vs zz => g vs zz) := by
  obtain ⟨oc, od, kV, doc, pm, an, cv, ct, ol, rfl, lk, hcd⟩ := F.ex
  exact ⟨fun s us ws _ l1 l2 => .of_eq (h kV doc pm an cv ct us ws l1 l2), fun r1 rr => hrel r1 rr⟩
end
section
variable {X : Cx} {CX : CXT} {k : Nat} {f C : Addr} {fd : FuncData} {ps : List Str} {sp : Sp} {dvs : List V} {ds : List Value} {E : L2.St → XK} {x m : Str} {p pos apos : Pos} {e o : Expr} {es : List Expr} {t : TA} {ta : TE}
/-- o.m(e, ..), what is raised wished for at the slots -/
def tMethS (C : Addr) (m : Str) (sp : Sp) (dvs : List V) (E : L2.St → XK) (ta : TE) (t : TA) : TE := fun τ H Q => ta τ H fun x H1 => ∃ a dx fs, x = .ref a ∧ H1 a = some (.ins C dx fs) ∧ fs.lookup m = none ∧
  t τ H1 fun vs H2 => sp (x :: (vs ++ dvs)) H2 Q (E τ)
theorem pe_methS {pl : Sem Bool} (he : PE X o ta) (c : Cls X.K C) (hg2 : Meth X.K C m f) (F : FnOk X.prog X.w X.K X.mg X.base CX k f fd ps sp) (hr : Room k X.A) (hb : Binds X.K fd ps ds) (hd : Vals dvs ds) (hx : ∀ τ, PassesAt CX X τ (E τ)) (ha : PA X (e :: es) t)
    (hst : starEach (e :: es) X.env = (false, eval e X.env) :: starEach es X.env := by rfl) (hpq : (backTo pos (starEach es X.env)).any (·.1) = false := by rfl)
    (ht : eval (.Call (.Attribute o m apos) (e :: es) [] pos) X.env = (do
      let ov ← eval o X.env
      standAt apos.atName
      let (f, first) ← holding [ov] (getMethod ov m pl)
      callWith pos f first (backTo pos (starEach (e :: es) X.env)) (backToKw pos (keywordEach [] X.env))) := by rfl) :
    PE X (.Call (.Attribute o m apos) (e :: es) [] pos) (tMethS C m sp dvs E ta t) := by
  refine ⟨fun pz s τ H Q I h => ?_⟩
  refine PySem.W.methodCall_KW (pl := pl) (thn (he.run pz s τ H _ I h) fun u s1 ⟨x, H1, J1, rx, a, dx, fs, ex, ea, l, q⟩ => ?_) ht
  subst ex
  obtain rfl : u = Value.ref a := rx
  refine getmeth_ok J1 ea c hg2 l ?_
  refine PySem.W.callWith_K (first := [.ref a]) (h₀ := X.base) I.ok.mod.kin hg2.kp (thn (ha.run pos pz s1 τ H1 _ J1 q) fun us s2 ⟨vs, H2, J2, r, q2⟩ => ⟨J2.kIn, ?_⟩) hst hpq
  exact run_fnSD (us := .ref a :: us) (vs := .ref a :: vs) F hr hb hd (hx τ) J2 (.cons rfl r) q2
/-- C(e, ..), what is raised wished for at the slots -/
def tMakeS (C : Addr) (sp : Sp) (dvs : List V) (E : L2.St → XK) (t : TA) : TE := fun τ H Q => t τ H fun vs H1 => ∀ x dx, H1 x = none → H1 dx = none → dx ≠ x →
  sp (.ref x :: (vs ++ dvs)) (upd (upd H1 dx (.own x)) x (.ins C dx [])) (fun v H2 => v = .non ∧ Q (.ref x) H2) (E τ)
theorem run_makeS {pz : List (Addr × Obj)} {τ : L2.St} {H : Hp} {s : Shared} {Q : VK} {us : List Value} {vs : List V} (M : Mk X.K C f) (F : FnOk X.prog X.w X.K X.mg X.base CX k f fd ps sp) (hr : Room (k + 1) X.A) (hb : Binds X.K fd ps ds) (hd : Vals dvs ds)
    (hx : PassesAt CX X τ (E τ)) (I : Inv X pz τ H s) (r : Vals vs us)
    (h : ∀ x dx, H x = none → H dx = none → dx ≠ x → sp (.ref x :: (vs ++ dvs)) (upd (upd H dx (.own x)) x (.ins C dx [])) (fun v H2 => v = .non ∧ Q (.ref x) H2) (E τ)) :
    wpAny (model X.prog X.w) X.A (call (.ref C) us) (EP X pz τ Q) X.xe s := by
  have hj := h (s.heap.objs.size + 1) s.heap.objs.size (I.hok.fresh (Nat.le_succ _)) (I.hok.fresh (Nat.le_refl _)) (Nat.ne_of_lt (Nat.lt_succ_self _)); have J2 := Inv.made (C := C) I
  have rr : Vals (V.ref (s.heap.objs.size + 1) :: (vs ++ dvs)) (Value.ref (s.heap.objs.size + 1) :: (us ++ ds)) := .cons rfl (r.append hd)
  have hn : (Value.ref (s.heap.objs.size + 1) :: us ++ ds).length = ps.length := by
    have e := rr.length
    rw [F.len _ _ _ _ hj] at e
    exact e.symm
  refine wpAny_call (make_map (f := f) I.kIn M.makes M.init (beq_iff_eq.mp M.fn) (codeAny_mono (F.run _ X.stack _ _ ⟨Value.ref (s.heap.objs.size + 1) :: us, []⟩ (Value.ref (s.heap.objs.size + 1) :: (us ++ ds)) _ _ (E τ) (hr.make C us [])
    (J2.env0.make C us []) (hb _ (Value.ref (s.heap.objs.size + 1) :: us) J2.kIn hn) rr hj) fun r s' hq' => ?_))
  cases r with
  | error e => exact hx pz _ _ e s' J2 hq'
  | ok fl =>
    cases fl with
    | ret u =>
      obtain ⟨v, H', I3, rv, ev, q9⟩ := J2.after hq'
      subst ev
      exact ⟨rv, ⟨V.ref (s.heap.objs.size + 1), H', I3, rfl, q9⟩⟩
    | next | brk | cont => exact False.elim hq'
theorem pe_makeS (M : Mk X.K C f) (F : FnOk X.prog X.w X.K X.mg X.base CX k f fd ps sp) (hr : Room (k + 1) X.A) (hg : Gl X x) (hg2 : X.mg x = some (.ref C)) (hb : Binds X.K fd ps ds) (hd : Vals dvs ds) (hx : ∀ τ, PassesAt CX X τ (E τ))
    (ha : PA X (e :: es) t) (hdq : (x == ("__debug__" : Str)) = false := by decide) (he : starEach (e :: es) X.env = (false, eval e X.env) :: starEach es X.env := by rfl) (hpq : (backTo pos (starEach es X.env)).any (·.1) = false := by rfl) :
    PE X (.Call (.Name x p) (e :: es) [] pos) (tMakeS C sp dvs E t) := by
  refine ⟨fun pz s τ H Q I h => ?_⟩
  refine wpAny_Call_Name_kw (ld_glob I hg hg2 ?_ hdq)
  refine PySem.W.callWith_K (h₀ := X.base) I.ok.mod.kin M.kp (thn (ha.run pos pz s τ H _ I h) fun us s1 ⟨vs, H1, J1, r, q⟩ => ⟨J1.kIn, ?_⟩) he hpq
  exact run_makeS M F hr hb hd (hx τ) J1 r q
end
/-! ### an own error's field, read where it is held -/
section
variable {X : Cx} {C fI : Addr} {f : Str}
/-- e.f, e the exception that the suite holds (at a; its class cls, its dict d) -/
def tExF (f : Str) (C : Addr) (a : Addr) (cls : Value) (d : Option Addr) (te : TE) : TE := fun τ H Q => te τ H fun x H1 => x = .ref a ∧ cls = .ref C ∧ ∃ (dd : Addr) (v : V) (fs : List (Str × V)), d = some dd ∧ H1 dd = some (.xd fs) ∧ fs.lookup f = some v ∧ Q v H1
theorem pe_exF {a : Addr} {oe : Obj} {cls : Value} {d : Option Addr} {e : Expr} {te : TE} {pos : Pos} (T : FoB.OErr X.K C fI f) (hz : Zc cls d oe) (hf : ∃ vs, oe.data = .fields vs) (hg2 : (a, oe) ∈ X.pn) (he : PE X e te)
    (hb : attributeBase e f X.env (eval e X.env) = eval e X.env := by rfl) :
    PE X (.Attribute e f pos) (tExF f C a cls d te) := by
  refine ⟨fun pz s τ H Q I h => ?_⟩
  refine attr_of hb (thn (he.run pz s τ H _ I h) fun u s1 hh => ?_)
  obtain ⟨x, H1, J1, rx, ex, ec, dd, v, fs, ed, ea, hl1, q⟩ := hh
  subst ex
  obtain rfl : u = Value.ref a := rx
  subst ec
  subst ed
  obtain ⟨ha, _⟩ := J1.pin (a, oe) (List.mem_append_left _ hg2)
  obtain ⟨vs, hd⟩ := hf
  have hx : ObjOk X.prog X.w H1 s1.heap dd (.xd fs) := J1.hok dd _ ea
  obtain ⟨mA, hns, hr⟩ := hx
  obtain ⟨od, ho, hn⟩ := lookIn_ns hns
  obtain ⟨u, hu, ru⟩ := RelO.some_of (v := v) (o := mA f) (by rw [← hl1]; exact hr f)
  have J : PySem.W.InstAt s1.heap a oe C (some od) := ⟨ha, hz.1, by unfold PySem.W.notCls; rw [hd] <;> rfl, by rw [hz.2]; exact ho⟩
  exact HandSPX.exc_get J1.kIn J T.ga T.gg T.ox.exC (PySem.W.findObj_own T.hd T.no rfl (by rw [hn, hu])) (handed_of ru) ⟨v, H1, J1.tok _, ru, q⟩
end
end FoC

set_option maxHeartbeats 4100000
/-! Classmethods that raise into a try, classmethods called by keywords alone, a class called by a local name. -/
namespace FoD
open PySem PySem.Spec PyProof.Rows L2 ClX
section
variable {X : Cx} {pz : List (Addr × Obj)} {τ : L2.St} {H : Hp} {s : Shared}
theorem run_cmS {CX : CXT} {k : Nat} {q g C : Addr} {sp : Sp} {fd : FuncData} {ps : List Str} {E : L2.St → XK} {Q : VK} {us : List Value} {vs : List V} (F : FnOk X.prog X.w X.K X.mg X.base CX k g fd ps sp) (hr : Room k X.A) (hb : Binds X.K fd ps []) (hx : PassesAt CX X τ (E τ))
    (I : Inv X ((q, PySem.W.methodObj (.ref g) (.ref C)) :: pz) τ H s) (r : Vals vs us) (h : sp (.ref C :: vs) H Q (E τ)) : wpAny (model X.prog X.w) X.A (call (.ref q) us) (EP X pz τ Q) X.xe s := by
  have rr : Vals (V.ref C :: vs) (Value.ref C :: us) := .cons rfl r
  have hn : (Value.ref C :: us).length = ps.length := by rw [← rr.length]; exact F.len _ _ _ _ h
  have b := hb s (Value.ref C :: us) I.kIn (by rw [List.append_nil]; exact hn)
  rw [List.append_nil] at b
  have z : wpAny (model X.prog X.w) X.A (call (.ref q) us) (EP X ((q, PySem.W.methodObj (.ref g) (.ref C)) :: pz) τ Q) X.xe s := by
    refine wpAny_call (PySem.W.method_call (pin_at I) (codeAny_mono (F.run X.A X.stack s H ⟨Value.ref C :: us, []⟩ (Value.ref C :: us) (V.ref C :: vs) Q (E τ) hr I.env0 b rr h) fun r s' hj => ?_))
    cases r with
    | error e => exact hx _ H s e s' I hj
    | ok fl =>
      cases fl with
      | ret u => exact I.after hj
      | next | brk | cont => exact False.elim hj
  exact thn z fun _ _ yy => unpinE yy
theorem run_cmN {CX : CXT} {k : Nat} {q g C : Addr} {sp : Sp} {fd : FuncData} {ps ks : List Str} {gf : List Value → List Value → List Value} {gV : List V → List V → List V} {E : XK} {Q : VK} {ws : List Value} {zs : List V} (F : FnOk X.prog X.w X.K X.mg X.base CX k g fd ps sp) (hr : Room k X.A) (hb : KBn X.K fd ps 1 ks gf gV) (hx : Passes CX X E)
    (I : Inv X ((q, PySem.W.methodObj (.ref g) (.ref C)) :: pz) τ H s) (rz : Vals zs ws) (l2 : zs.length = ks.length) (h : sp (gV [.ref C] zs) H Q E) : wpAny (model X.prog X.w) X.A (call (.ref q) [] (ks.zip ws)) (EP X pz τ Q) X.xe s := by
  have r1 : Vals [V.ref C] [Value.ref C] := .cons rfl .nil
  have rr := hb.rel r1 rz
  have z : wpAny (model X.prog X.w) X.A (call (.ref q) [] (ks.zip ws)) (EP X ((q, PySem.W.methodObj (.ref g) (.ref C)) :: pz) τ Q) X.xe s := by
    refine wpAny_call (PySem.W.method_call (pin_at I) (codeAny_mono (F.run X.A X.stack s H ⟨[Value.ref C], ks.zip ws⟩ (gf [Value.ref C] ws) _ Q E hr I.env0 (hb.to s [Value.ref C] ws I.kIn rfl (rz.length.symm.trans l2)) rr h) fun r s' hj => ?_))
    cases r with
    | error e => exact hx _ _ _ _ e s' I hj
    | ok fl =>
      cases fl with
      | ret u => exact I.after hj
      | next | brk | cont => exact False.elim hj
  exact thn z fun _ _ yy => unpinE yy
end
section
variable {X : Cx} {CX : CXT} {k : Nat} {C p g : Addr} {mc : Value} {sp : Sp} {fd : FuncData} {ps ks : List Str} {o e : Expr} {es : List Expr} {kws : List Keyword} {m : Str} {pos apos : Pos} {ta : TE} {t tk : TA} {pl : Sem Bool}
def tCMethS (C : Addr) (sp : Sp) (E : L2.St → XK) (ta : TE) (t : TA) : TE := fun τ H Q => ta τ H fun x H1 => x = .ref C ∧ t τ H1 fun vs H2 => sp (.ref C :: vs) H2 Q (E τ)
theorem pe_cmethS {E : L2.St → XK} (he : PE X o ta) (r : CRead X.K C mc) (c : CMet X.K C mc m p g) (F : FnOk X.prog X.w X.K X.mg X.base CX k g fd ps sp) (hr : Room k X.A) (hb : Binds X.K fd ps []) (hx : ∀ τ, PassesAt CX X τ (E τ)) (ha : PA X (e :: es) t)
    (hs2 : starEach (e :: es) X.env = (false, eval e X.env) :: starEach es X.env := by rfl) (hpq : (backTo pos (starEach es X.env)).any (·.1) = false := by rfl)
    (hev : eval (.Call (.Attribute o m apos) (e :: es) [] pos) X.env = (do
      let ov ← eval o X.env
      standAt apos.atName
      let (fn, fst) ← holding [ov] (getMethod ov m pl)
      callWith pos fn fst (backTo pos (starEach (e :: es) X.env)) (backToKw pos (keywordEach [] X.env))) := by rfl) :
    PE X (.Call (.Attribute o m apos) (e :: es) [] pos) (tCMethS C sp E ta t) := by
  refine ⟨fun pz s τ H Q I h => ?_⟩
  refine PySem.W.methodCall_KW (pl := pl) (thn (he.run pz s τ H _ I h) fun u s1 ⟨x, H1, I1, rx, ex, q⟩ => ?_) hev
  subst ex
  obtain rfl : u = Value.ref C := rx; refine getmethcm_ok I1 r c fun s2 I2 => ?_
  refine callwith_cm I2 (base_none I1 (Nat.le_refl _)) c.fi (thn (ha.run pos _ s2 τ H1 _ I2 q) fun us s3 ⟨vs, H2, I3, rv, q2⟩ => ⟨⟨pin_at I3, I3.kIn⟩, ?_⟩) hs2 hpq
  exact run_cmS F hr hb (hx τ) I3 rv q2
def tCMethN (C : Addr) (nk : Nat) (sp : Sp) (gV : List V → List V → List V) (E : XK) (ta : TE) (tk : TA) : TE := fun τ H Q => ta τ H fun x H1 => x = .ref C ∧ tk τ H1 fun zs H2 => zs.length = nk ∧ sp (gV [.ref C] zs) H2 Q E
theorem pe_cmethN0 {E : XK} {gf : List Value → List Value → List Value} {gV : List V → List V → List V} (he : PE X o ta) (r : CRead X.K C mc) (c : CMet X.K C mc m p g) (F : FnOk X.prog X.w X.K X.mg X.base CX k g fd ps sp) (hr : Room k X.A) (hb : KBn X.K fd ps 1 ks gf gV) (hx : Passes CX X E) (hkw : PK X kws tk)
    (hall : (backToKw pos (keywordEach kws X.env)).all (·.1.isSome) = true := by rfl) (hks : (backToKw pos (keywordEach kws X.env)).filterMap (·.1) = ks := by rfl)
    (hpq : ((backTo pos (starEach [] X.env)).any (·.1) || (backToKw pos (keywordEach kws X.env)).any (·.1.isNone)) = false := by rfl)
    (hev : eval (.Call (.Attribute o m apos) [] kws pos) X.env = (do
      let ov ← eval o X.env
      standAt apos.atName
      let (fn, fst) ← holding [ov] (getMethod ov m pl)
      callWith pos fn fst (backTo pos (starEach [] X.env)) (backToKw pos (keywordEach kws X.env))) := by rfl) :
    PE X (.Call (.Attribute o m apos) [] kws pos) (tCMethN C ks.length sp gV E ta tk) := by
  refine ⟨fun pz s τ H Q I h => ?_⟩
  refine PySem.W.methodCall_KW (pl := pl) (thn (he.run pz s τ H _ I h) fun u s1 ⟨x, H1, I1, rx, ex, q⟩ => ?_) hev
  subst ex
  obtain rfl : u = Value.ref C := rx; refine getmethcm_ok I1 r c fun s2 I2 => ?_
  refine PySem.W.callWith_of (P := PySem.W.MethP X.K s1.heap.objs.size g (.ref C)) hpq (PySem.W.keeps_M c.fi) (evalArgs_kw2_nil hall ?_)
  refine thn (hkw.run pos _ s2 τ H1 _ I2 q) fun ws s3 ⟨zs, H2, I3, rz, l2, q2⟩ => ⟨⟨pin_at I3, I3.kIn⟩, ?_⟩
  rw [hks]
  exact run_cmN F hr hb hx I3 rz l2 q2
end
/-! ### x(e, ..), x a local name that holds a class -/
section
variable {X : Cx} {CX : CXT} {k i : Nat} {f C : Addr} {fd : FuncData} {ps : List Str} {sp : Sp} {dvs : List V} {ds : List Value} {E : XK} {x : Str} {p pos : Pos} {e : Expr} {es : List Expr} {t : TA}
def tMakeL (i : Nat) (C : Addr) (sp : Sp) (dvs : List V) (E : XK) (t : TA) : TE := fun τ H Q => τ[i]? = some (some (.ref C)) ∧ tMake C sp dvs E t τ H Q
theorem pe_makeL (M : Mk X.K C f) (F : FnOk X.prog X.w X.K X.mg X.base CX k f fd ps sp) (hr : Room (k + 1) X.A) (hN : X.N[i]? = some x) (hv : Vis X.env.scope x) (hb : Binds X.K fd ps ds) (hd : Vals dvs ds) (hx : Passes CX X E) (ha : PA X (e :: es) t)
    (hdq : (x == ("__debug__" : Str)) = false := by decide) (hcq : (x == ("__classdict__" : Str)) = false := by decide)
    (hs2 : starEach (e :: es) X.env = (false, eval e X.env) :: starEach es X.env := by rfl) (hpq : (backTo pos (starEach es X.env)).any (·.1) = false := by rfl) : PE X (.Call (.Name x p) (e :: es) [] pos) (tMakeL i C sp dvs E t) := by
  refine ⟨fun pz s τ H Q I h => ?_⟩
  obtain ⟨hs, ht⟩ := h
  have look := (pe_var (pos := p) hN hv hdq hcq).run pz s τ H (fun v H1 => v = .ref C ∧ H1 = H) I ⟨.ref C, hs, rfl, rfl⟩
  refine wpAny_Call_Name_kw (thn look fun u s1 ⟨v, H1, I1, r1, q1⟩ => ?_)
  obtain ⟨rfl, rfl⟩ := q1
  cases r1
  refine PySem.W.callWith_K (h₀ := X.base) I.ok.mod.kin M.kp (thn (ha.run pos pz s1 τ _ _ I1 ht) fun us s2 ⟨vs, H2, I2, r, q⟩ => ⟨I2.kIn, ?_⟩) hs2 hpq
  exact run_make M F hr hb hd hx I2 r q
end
def creadB (x : Str) (K : PySem.W.Frag) : Bool := PySem.W.readsIn K (He.ga K x) (.type "type") && He.eqO (PySem.W.specialIn K (.ref (He.ga K x)) "__getattribute__") (some (some (.builtin "type.__getattribute__")))
theorem cread_ok {K : PySem.W.Frag} {x : Str} (h : creadB x K = true) : CRead K (He.ga K x) (.type "type") := by
  obtain ⟨h1, h2⟩ := He.ba h
  exact ⟨h1, He.eqO_ok h2⟩
def cmetB (x m : Str) (K : PySem.W.Frag) : Bool := He5.wrapB K (He.ga K x) "classmethod" "classmethod.__get__" m && PySem.W.fnIn K (He5.wf K (He.ga K x) "classmethod" m)
theorem cmet_ok {K : PySem.W.Frag} {x m : Str} (h : cmetB x m K = true) : CMet K (He.ga K x) (.type "type") m (He.ma K (He.ga K x) m) (He5.wf K (He.ga K x) "classmethod" m) := by
  obtain ⟨h1, h2⟩ := He.ba h
  exact He5.cmet_of h1 h2
end FoD

set_option maxHeartbeats 4100000
namespace Fo
open PySem PySem.Spec PyProof.Rows L2
def top (i : Nat) : Stmt := PySem.Challenge.pw_filterorders_k19_tables.main.body.getD i (.Pass ⟨0, 0, 0, 0⟩)
abbrev s_BadNumber_init : Stmt := inClass (top 4) 0
theorem sc_BadNumber_init : FnScope ["self", "given"] ["self", "given"] (defScope s_BadNumber_init) := ⟨rfl, rfl, rfl, by decide +kernel, rfl, by decide +kernel, by decide +kernel⟩
abbrev s_Ratio_init : Stmt := inClass (top 12) 0
theorem sc_Ratio_init : FnScope ["self", "top", "bottom", "shared"] ["self", "top", "bottom"] (defScope s_Ratio_init) := ⟨rfl, rfl, rfl, by decide +kernel, rfl, by decide +kernel, by decide +kernel⟩
abbrev s_Ratio_top : Stmt := inClass (top 12) 2
theorem sc_Ratio_top : FnScope ["self"] ["self"] (defScope s_Ratio_top) := ⟨rfl, rfl, rfl, by decide +kernel, rfl, by decide +kernel, by decide +kernel⟩
abbrev s_Ratio_bottom : Stmt := inClass (top 12) 3
theorem sc_Ratio_bottom : FnScope ["self"] ["self"] (defScope s_Ratio_bottom) := ⟨rfl, rfl, rfl, by decide +kernel, rfl, by decide +kernel, by decide +kernel⟩
abbrev s_Ratio_eq : Stmt := inClass (top 12) 4
theorem sc_Ratio_eq : FnScope ["self", "other"] ["self", "other"] (defScope s_Ratio_eq) := ⟨rfl, rfl, rfl, by decide +kernel, rfl, by decide +kernel, by decide +kernel⟩
abbrev s_Ratio_add : Stmt := inClass (top 12) 7
theorem sc_Ratio_add : FnScope ["self", "other", "right"] ["self", "other"] (defScope s_Ratio_add) := ⟨rfl, rfl, rfl, by decide +kernel, rfl, by decide +kernel, by decide +kernel⟩
abbrev s_Ratio_sub : Stmt := inClass (top 12) 8
theorem sc_Ratio_sub : FnScope ["self", "other", "right"] ["self", "other"] (defScope s_Ratio_sub) := ⟨rfl, rfl, rfl, by decide +kernel, rfl, by decide +kernel, by decide +kernel⟩
abbrev s_Ratio_mul : Stmt := inClass (top 12) 9
theorem sc_Ratio_mul : FnScope ["self", "other", "right"] ["self", "other"] (defScope s_Ratio_mul) := ⟨rfl, rfl, rfl, by decide +kernel, rfl, by decide +kernel, by decide +kernel⟩
abbrev s_Ratio_neg : Stmt := inClass (top 12) 10
theorem sc_Ratio_neg : FnScope ["self"] ["self"] (defScope s_Ratio_neg) := ⟨rfl, rfl, rfl, by decide +kernel, rfl, by decide +kernel, by decide +kernel⟩
abbrev s_is_whole : Stmt := top 13
theorem sc_is_whole : FnScope ["given"] ["given"] (defScope s_is_whole) := ⟨rfl, rfl, rfl, by decide +kernel, rfl, by decide +kernel, by decide +kernel⟩
abbrev s_is_number : Stmt := top 14
theorem sc_is_number : FnScope ["given"] ["given"] (defScope s_is_number) := ⟨rfl, rfl, rfl, by decide +kernel, rfl, by decide +kernel, by decide +kernel⟩
abbrev s_as_ratio : Stmt := top 15
theorem sc_as_ratio : FnScope ["given"] ["given"] (defScope s_as_ratio) := ⟨rfl, rfl, rfl, by decide +kernel, rfl, by decide +kernel, by decide +kernel⟩
abbrev s_shared_bottom : Stmt := top 20
theorem sc_shared_bottom : FnScope ["ratios", "bottom", "ratio"] ["ratios"] (defScope s_shared_bottom) := ⟨rfl, rfl, rfl, by decide +kernel, rfl, by decide +kernel, by decide +kernel⟩
abbrev s_multiplied : Stmt := top 21
theorem sc_multiplied : FnScope ["ratios", "bottom", "ratio"] ["ratios", "bottom"] (defScope s_multiplied) := ⟨rfl, rfl, rfl, by decide +kernel, rfl, by decide +kernel, by decide +kernel⟩
abbrev s_whole_inner : Stmt := top 23
theorem sc_whole_inner : FnScope ["one", "other", "total", "left", "right"] ["one", "other"] (defScope s_whole_inner) := ⟨rfl, rfl, rfl, by decide +kernel, rfl, by decide +kernel, by decide +kernel⟩
abbrev s_has_numbers : Stmt := top 25
theorem sc_has_numbers : FnScope ["given", "many", "item"] ["given", "many"] (defScope s_has_numbers) := ⟨rfl, rfl, rfl, by decide +kernel, rfl, by decide +kernel, by decide +kernel⟩
abbrev s_beam_of : Stmt := top 26
theorem sc_beam_of : FnScope ["given", "many", "item"] ["given", "many"] (defScope s_beam_of) := ⟨rfl, rfl, rfl, by decide +kernel, rfl, by decide +kernel, by decide +kernel⟩
abbrev s_whole_beam : Stmt := top 27
theorem sc_whole_beam : FnScope ["ratios", "bottom"] ["ratios"] (defScope s_whole_beam) := ⟨rfl, rfl, rfl, by decide +kernel, rfl, by decide +kernel, by decide +kernel⟩
abbrev s_inner_over : Stmt := top 28
theorem sc_inner_over : FnScope ["one", "other"] ["one", "other"] (defScope s_inner_over) := ⟨rfl, rfl, rfl, by decide +kernel, rfl, by decide +kernel, by decide +kernel⟩
abbrev s_inner : Stmt := top 29
theorem sc_inner : FnScope ["one", "other"] ["one", "other"] (defScope s_inner) := ⟨rfl, rfl, rfl, by decide +kernel, rfl, by decide +kernel, by decide +kernel⟩
abbrev s_Table_init : Stmt := inClass (top 32) 0
theorem sc_Table_init : FnScope ["self", "rows", "row", "item"] ["self", "rows"] (defScope s_Table_init) := ⟨rfl, rfl, rfl, by decide +kernel, rfl, by decide +kernel, by decide +kernel⟩
abbrev s_Table_unit : Stmt := inClass (top 32) 1
theorem sc_Table_unit : FnScope ["cls", "length", "row", "column"] ["cls", "length"] (defScope s_Table_unit) := ⟨rfl, rfl, rfl, by decide +kernel, rfl, by decide +kernel, by decide +kernel⟩
abbrev s_Table_rows : Stmt := inClass (top 32) 2
theorem sc_Table_rows : FnScope ["self"] ["self"] (defScope s_Table_rows) := ⟨rfl, rfl, rfl, by decide +kernel, rfl, by decide +kernel, by decide +kernel⟩
abbrev s_Table_len : Stmt := inClass (top 32) 3
theorem sc_Table_len : FnScope ["self"] ["self"] (defScope s_Table_len) := ⟨rfl, rfl, rfl, by decide +kernel, rfl, by decide +kernel, by decide +kernel⟩
abbrev s_Table_eq : Stmt := inClass (top 32) 4
theorem sc_Table_eq : FnScope ["self", "other"] ["self", "other"] (defScope s_Table_eq) := ⟨rfl, rfl, rfl, by decide +kernel, rfl, by decide +kernel, by decide +kernel⟩
abbrev s_Table_add : Stmt := inClass (top 32) 5
theorem sc_Table_add : FnScope ["self", "other", "pairs", "left", "right"] ["self", "other"] (defScope s_Table_add) := ⟨rfl, rfl, rfl, by decide +kernel, rfl, by decide +kernel, by decide +kernel⟩
abbrev s_Table_sub : Stmt := inClass (top 32) 6
theorem sc_Table_sub : FnScope ["self", "other", "pairs", "left", "right"] ["self", "other"] (defScope s_Table_sub) := ⟨rfl, rfl, rfl, by decide +kernel, rfl, by decide +kernel, by decide +kernel⟩
abbrev s_Table_mul : Stmt := inClass (top 32) 7
theorem sc_Table_mul : FnScope ["self", "other", "row", "rows", "column", "columns"] ["self", "other"] (defScope s_Table_mul) := ⟨rfl, rfl, rfl, by decide +kernel, rfl, by decide +kernel, by decide +kernel⟩
abbrev s_Table_mirror : Stmt := inClass (top 32) 8
theorem sc_Table_mirror : FnScope ["self"] ["self"] (defScope s_Table_mirror) := ⟨rfl, rfl, rfl, by decide +kernel, rfl, by decide +kernel, by decide +kernel⟩
abbrev s_Table_trace : Stmt := inClass (top 32) 9
theorem sc_Table_trace : FnScope ["self", "total", "at", "row"] ["self"] (defScope s_Table_trace) := ⟨rfl, rfl, rfl, by decide +kernel, rfl, by decide +kernel, by decide +kernel⟩
abbrev s_Table_sent : Stmt := inClass (top 32) 10
theorem sc_Table_sent : FnScope ["self", "beam", "numbers", "row"] ["self", "beam"] (defScope s_Table_sent) := ⟨rfl, rfl, rfl, by decide +kernel, rfl, by decide +kernel, by decide +kernel⟩
abbrev s_made_table : Stmt := top 33
theorem sc_made_table : FnScope ["rows", "table", "row"] ["rows"] (defScope s_made_table) := ⟨rfl, rfl, rfl, by decide +kernel, rfl, by decide +kernel, by decide +kernel⟩
abbrev s_check_lengths : Stmt := top 34
theorem sc_check_lengths : FnScope ["one", "other"] ["one", "other"] (defScope s_check_lengths) := ⟨rfl, rfl, rfl, by decide +kernel, rfl, by decide +kernel, by decide +kernel⟩
abbrev s_items_of_both : Stmt := top 35
theorem sc_items_of_both : FnScope ["one", "other", "row", "behind"] ["one", "other"] (defScope s_items_of_both) := ⟨rfl, rfl, rfl, by decide +kernel, rfl, by decide +kernel, by decide +kernel⟩
abbrev s_cell : Stmt := top 37
theorem sc_cell : FnScope ["_law_script", "_law_k"] ["_law_script", "_law_k"] (defScope s_cell) := ⟨rfl, rfl, rfl, by decide +kernel, rfl, by decide +kernel, by decide +kernel⟩
abbrev s_box : Stmt := top 38
theorem sc_box : FnScope ["_law_script", "_law_k"] ["_law_script", "_law_k"] (defScope s_box) := ⟨rfl, rfl, rfl, by decide +kernel, rfl, by decide +kernel, by decide +kernel⟩
abbrev s_take : Stmt := top 39
theorem sc_take : FnScope ["_law_box_here", "_law_many", "_law_digit", "_law_mixed"] ["_law_box_here", "_law_many"] (defScope s_take) := ⟨rfl, rfl, rfl, by decide +kernel, rfl, by decide +kernel, by decide +kernel⟩
abbrev s_frac : Stmt := top 40
theorem sc_frac : FnScope ["_law_up", "_law_down", "_law_one", "_law_other"] ["_law_up", "_law_down"] (defScope s_frac) := ⟨rfl, rfl, rfl, by decide +kernel, rfl, by decide +kernel, by decide +kernel⟩
abbrev s_plus : Stmt := top 41
theorem sc_plus : FnScope ["_law_x", "_law_y"] ["_law_x", "_law_y"] (defScope s_plus) := ⟨rfl, rfl, rfl, by decide +kernel, rfl, by decide +kernel, by decide +kernel⟩
abbrev s_times : Stmt := top 42
theorem sc_times : FnScope ["_law_x", "_law_y"] ["_law_x", "_law_y"] (defScope s_times) := ⟨rfl, rfl, rfl, by decide +kernel, rfl, by decide +kernel, by decide +kernel⟩
abbrev s_minus : Stmt := top 43
theorem sc_minus : FnScope ["_law_x", "_law_y"] ["_law_x", "_law_y"] (defScope s_minus) := ⟨rfl, rfl, rfl, by decide +kernel, rfl, by decide +kernel, by decide +kernel⟩
abbrev s_number : Stmt := top 45
theorem sc_number : FnScope ["_law_box_here", "_law_most", "_law_up"] ["_law_box_here", "_law_most"] (defScope s_number) := ⟨rfl, rfl, rfl, by decide +kernel, rfl, by decide +kernel, by decide +kernel⟩
abbrev s_handed : Stmt := top 46
theorem sc_handed : FnScope ["_law_x", "_law_box_here"] ["_law_x", "_law_box_here"] (defScope s_handed) := ⟨rfl, rfl, rfl, by decide +kernel, rfl, by decide +kernel, by decide +kernel⟩
abbrev s_told : Stmt := top 47
theorem sc_told : FnScope ["_law_amount"] ["_law_amount"] (defScope s_told) := ⟨rfl, rfl, rfl, by decide +kernel, rfl, by decide +kernel, by decide +kernel⟩
abbrev s_times_tables : Stmt := top 48
theorem sc_times_tables : FnScope ["_law_one", "_law_other", "_law_size", "_law_found", "_law_j", "_law_row", "_law_k", "_law_total", "_law_i"] ["_law_one", "_law_other"] (defScope s_times_tables) := ⟨rfl, rfl, rfl, by decide +kernel, rfl, by decide +kernel, by decide +kernel⟩
abbrev s_added : Stmt := top 49
theorem sc_added : FnScope ["_law_one", "_law_other", "_law_factor", "_law_found", "_law_j", "_law_k"] ["_law_one", "_law_other", "_law_factor"] (defScope s_added) := ⟨rfl, rfl, rfl, by decide +kernel, rfl, by decide +kernel, by decide +kernel⟩
abbrev s_unit : Stmt := top 50
theorem sc_unit : FnScope ["_law_size", "_law_j", "_law_k"] ["_law_size"] (defScope s_unit) := ⟨rfl, rfl, rfl, by decide +kernel, rfl, by decide +kernel, by decide +kernel⟩
abbrev s_flipped : Stmt := top 51
theorem sc_flipped : FnScope ["_law_rows_here", "_law_j", "_law_k"] ["_law_rows_here"] (defScope s_flipped) := ⟨rfl, rfl, rfl, by decide +kernel, rfl, by decide +kernel, by decide +kernel⟩
abbrev s_sent : Stmt := top 52
theorem sc_sent : FnScope ["_law_rows_here", "_law_beam", "_law_found", "_law_row", "_law_total", "_law_k"] ["_law_rows_here", "_law_beam"] (defScope s_sent) := ⟨rfl, rfl, rfl, by decide +kernel, rfl, by decide +kernel, by decide +kernel⟩
abbrev s_trace : Stmt := top 53
theorem sc_trace : FnScope ["_law_rows_here", "_law_found", "_law_k"] ["_law_rows_here"] (defScope s_trace) := ⟨rfl, rfl, rfl, by decide +kernel, rfl, by decide +kernel, by decide +kernel⟩
abbrev s_rows : Stmt := top 54
theorem sc_rows : FnScope ["_law_table_here", "_law_row", "_law_item"] ["_law_table_here"] (defScope s_rows) := ⟨rfl, rfl, rfl, by decide +kernel, rfl, by decide +kernel, by decide +kernel⟩
abbrev s_table : Stmt := top 55
theorem sc_table : FnScope ["_law_rows_here", "_law_row", "_law_item"] ["_law_rows_here"] (defScope s_table) := ⟨rfl, rfl, rfl, by decide +kernel, rfl, by decide +kernel, by decide +kernel⟩
abbrev s_drawn : Stmt := top 56
theorem sc_drawn : FnScope ["_law_box_here", "_law_size", "_law_found", "_law_j", "_law_k"] ["_law_box_here", "_law_size"] (defScope s_drawn) := ⟨rfl, rfl, rfl, by decide +kernel, rfl, by decide +kernel, by decide +kernel⟩
abbrev s_refused : Stmt := top 57
theorem sc_refused : FnScope ["_law_rows_here"] ["_law_rows_here"] (defScope s_refused) := ⟨rfl, rfl, rfl, by decide +kernel, rfl, by decide +kernel, by decide +kernel⟩
abbrev s_unlike : Stmt := top 58
theorem sc_unlike : FnScope ["_law_one", "_law_other", "_law_caught"] ["_law_one", "_law_other"] (defScope s_unlike) := ⟨rfl, rfl, rfl, by decide +kernel, rfl, by decide +kernel, by decide +kernel⟩
abbrev s_no_beam : Stmt := top 59
theorem sc_no_beam : FnScope ["_law_table_here", "_law_row"] ["_law_table_here", "_law_row"] (defScope s_no_beam) := ⟨rfl, rfl, rfl, by decide +kernel, rfl, by decide +kernel, by decide +kernel⟩
abbrev s_errors : Stmt := top 60
theorem sc_errors : FnScope ["_law_box_here", "_law_table_here", "_law_size", "_law_row", "_law_odd", "_law_k", "_law_good", "_law_at", "_law_wide", "_law_bent", "_law_short"] ["_law_box_here", "_law_table_here", "_law_size"] (defScope s_errors) := ⟨rfl, rfl, rfl, by decide +kernel, rfl, by decide +kernel, by decide +kernel⟩
abbrev s_law : Stmt := top 61
theorem sc_law : FnScope ["_law_script", "_law_k", "_law_box_here", "_law_size", "_law_first", "_law_second", "_law_row", "_law_x", "_law_handed_here", "_law_one", "_law_other", "_law_j", "_law_beam", "_law_sent_here"] ["_law_script"] (defScope s_law) := ⟨rfl, rfl, rfl, by decide +kernel, rfl, by decide +kernel, by decide +kernel⟩
structure Tx (K : PySem.W.Frag) (mg : Str → Option Value) : Type where
  fd_BadNumber_init : FuncData
  F_BadNumber_init : Fun K "__init__" "BadNumber.__init__" s_BadNumber_init (He.ma K (He.ga K "BadNumber") "__init__") fd_BadNumber_init
  b_BadNumber_init : Binds K fd_BadNumber_init ["self", "given"] []
  fd_Ratio_init : FuncData
  F_Ratio_init : FunD K "__init__" "Ratio.__init__" (defArgs s_Ratio_init) (defBody s_Ratio_init) (defScope s_Ratio_init) [V.int 1] [] (He.ma K (He.ga K "Ratio") "__init__") fd_Ratio_init
  fd_Ratio_top : FuncData
  F_Ratio_top : Fun K "top" "Ratio.top" s_Ratio_top (FoZ.pg K "Ratio" "top") fd_Ratio_top
  b_Ratio_top : Binds K fd_Ratio_top ["self"] []
  fd_Ratio_bottom : FuncData
  F_Ratio_bottom : Fun K "bottom" "Ratio.bottom" s_Ratio_bottom (FoZ.pg K "Ratio" "bottom") fd_Ratio_bottom
  b_Ratio_bottom : Binds K fd_Ratio_bottom ["self"] []
  fd_Ratio_eq : FuncData
  F_Ratio_eq : Fun K "__eq__" "Ratio.__eq__" s_Ratio_eq (He.ma K (He.ga K "Ratio") "__eq__") fd_Ratio_eq
  b_Ratio_eq : Binds K fd_Ratio_eq ["self", "other"] []
  fd_Ratio_add : FuncData
  F_Ratio_add : Fun K "__add__" "Ratio.__add__" s_Ratio_add (He.ma K (He.ga K "Ratio") "__add__") fd_Ratio_add
  b_Ratio_add : Binds K fd_Ratio_add ["self", "other"] []
  fd_Ratio_sub : FuncData
  F_Ratio_sub : Fun K "__sub__" "Ratio.__sub__" s_Ratio_sub (He.ma K (He.ga K "Ratio") "__sub__") fd_Ratio_sub
  b_Ratio_sub : Binds K fd_Ratio_sub ["self", "other"] []
  fd_Ratio_mul : FuncData
  F_Ratio_mul : Fun K "__mul__" "Ratio.__mul__" s_Ratio_mul (He.ma K (He.ga K "Ratio") "__mul__") fd_Ratio_mul
  b_Ratio_mul : Binds K fd_Ratio_mul ["self", "other"] []
  fd_Ratio_neg : FuncData
  F_Ratio_neg : Fun K "__neg__" "Ratio.__neg__" s_Ratio_neg (He.ma K (He.ga K "Ratio") "__neg__") fd_Ratio_neg
  b_Ratio_neg : Binds K fd_Ratio_neg ["self"] []
  fd_is_whole : FuncData
  F_is_whole : Fun K "is_whole" "is_whole" s_is_whole (He.ga K "is_whole") fd_is_whole
  b_is_whole : Binds K fd_is_whole ["given"] []
  g_is_whole : mg "is_whole" = some (.ref (He.ga K "is_whole"))
  fd_is_number : FuncData
  F_is_number : Fun K "is_number" "is_number" s_is_number (He.ga K "is_number") fd_is_number
  b_is_number : Binds K fd_is_number ["given"] []
  g_is_number : mg "is_number" = some (.ref (He.ga K "is_number"))
  fd_as_ratio : FuncData
  F_as_ratio : Fun K "as_ratio" "as_ratio" s_as_ratio (He.ga K "as_ratio") fd_as_ratio
  b_as_ratio : Binds K fd_as_ratio ["given"] []
  g_as_ratio : mg "as_ratio" = some (.ref (He.ga K "as_ratio"))
  fd_shared_bottom : FuncData
  F_shared_bottom : Fun K "shared_bottom" "shared_bottom" s_shared_bottom (He.ga K "shared_bottom") fd_shared_bottom
  b_shared_bottom : Binds K fd_shared_bottom ["ratios"] []
  g_shared_bottom : mg "shared_bottom" = some (.ref (He.ga K "shared_bottom"))
  fd_multiplied : FuncData
  F_multiplied : Fun K "multiplied" "multiplied" s_multiplied (He.ga K "multiplied") fd_multiplied
  b_multiplied : Binds K fd_multiplied ["ratios", "bottom"] []
  g_multiplied : mg "multiplied" = some (.ref (He.ga K "multiplied"))
  fd_whole_inner : FuncData
  F_whole_inner : Fun K "whole_inner" "whole_inner" s_whole_inner (He.ga K "whole_inner") fd_whole_inner
  b_whole_inner : Binds K fd_whole_inner ["one", "other"] []
  g_whole_inner : mg "whole_inner" = some (.ref (He.ga K "whole_inner"))
  fd_has_numbers : FuncData
  F_has_numbers : Fun K "has_numbers" "has_numbers" s_has_numbers (He.ga K "has_numbers") fd_has_numbers
  b_has_numbers : Binds K fd_has_numbers ["given", "many"] []
  g_has_numbers : mg "has_numbers" = some (.ref (He.ga K "has_numbers"))
  fd_beam_of : FuncData
  F_beam_of : Fun K "beam_of" "beam_of" s_beam_of (He.ga K "beam_of") fd_beam_of
  b_beam_of : Binds K fd_beam_of ["given", "many"] []
  g_beam_of : mg "beam_of" = some (.ref (He.ga K "beam_of"))
  fd_whole_beam : FuncData
  F_whole_beam : Fun K "whole_beam" "whole_beam" s_whole_beam (He.ga K "whole_beam") fd_whole_beam
  b_whole_beam : Binds K fd_whole_beam ["ratios"] []
  g_whole_beam : mg "whole_beam" = some (.ref (He.ga K "whole_beam"))
  fd_inner_over : FuncData
  F_inner_over : Fun K "inner_over" "inner_over" s_inner_over (He.ga K "inner_over") fd_inner_over
  b_inner_over : Binds K fd_inner_over ["one", "other"] []
  g_inner_over : mg "inner_over" = some (.ref (He.ga K "inner_over"))
  fd_inner : FuncData
  F_inner : Fun K "inner" "inner" s_inner (He.ga K "inner") fd_inner
  b_inner : Binds K fd_inner ["one", "other"] []
  g_inner : mg "inner" = some (.ref (He.ga K "inner"))
  fd_Table_init : FuncData
  F_Table_init : Fun K "__init__" "Table.__init__" s_Table_init (He.ma K (He.ga K "Table") "__init__") fd_Table_init
  b_Table_init : Binds K fd_Table_init ["self", "rows"] []
  fd_Table_unit : FuncData
  F_Table_unit : Fun K "unit" "Table.unit" s_Table_unit (He5.wf K (He.ga K "Table") "classmethod" "unit") fd_Table_unit
  b_Table_unit : Binds K fd_Table_unit ["cls", "length"] []
  fd_Table_rows : FuncData
  F_Table_rows : Fun K "rows" "Table.rows" s_Table_rows (He.ma K (He.ga K "Table") "rows") fd_Table_rows
  b_Table_rows : Binds K fd_Table_rows ["self"] []
  fd_Table_len : FuncData
  F_Table_len : Fun K "__len__" "Table.__len__" s_Table_len (He.ma K (He.ga K "Table") "__len__") fd_Table_len
  b_Table_len : Binds K fd_Table_len ["self"] []
  fd_Table_eq : FuncData
  F_Table_eq : Fun K "__eq__" "Table.__eq__" s_Table_eq (He.ma K (He.ga K "Table") "__eq__") fd_Table_eq
  b_Table_eq : Binds K fd_Table_eq ["self", "other"] []
  fd_Table_add : FuncData
  F_Table_add : Fun K "__add__" "Table.__add__" s_Table_add (He.ma K (He.ga K "Table") "__add__") fd_Table_add
  b_Table_add : Binds K fd_Table_add ["self", "other"] []
  fd_Table_sub : FuncData
  F_Table_sub : Fun K "__sub__" "Table.__sub__" s_Table_sub (He.ma K (He.ga K "Table") "__sub__") fd_Table_sub
  b_Table_sub : Binds K fd_Table_sub ["self", "other"] []
  fd_Table_mul : FuncData
  F_Table_mul : Fun K "__mul__" "Table.__mul__" s_Table_mul (He.ma K (He.ga K "Table") "__mul__") fd_Table_mul
  b_Table_mul : Binds K fd_Table_mul ["self", "other"] []
  fd_Table_mirror : FuncData
  F_Table_mirror : Fun K "mirror" "Table.mirror" s_Table_mirror (He.ma K (He.ga K "Table") "mirror") fd_Table_mirror
  b_Table_mirror : Binds K fd_Table_mirror ["self"] []
  fd_Table_trace : FuncData
  F_Table_trace : Fun K "trace" "Table.trace" s_Table_trace (He.ma K (He.ga K "Table") "trace") fd_Table_trace
  b_Table_trace : Binds K fd_Table_trace ["self"] []
  fd_Table_sent : FuncData
  F_Table_sent : Fun K "sent" "Table.sent" s_Table_sent (He.ma K (He.ga K "Table") "sent") fd_Table_sent
  b_Table_sent : Binds K fd_Table_sent ["self", "beam"] []
  fd_made_table : FuncData
  F_made_table : Fun K "made_table" "made_table" s_made_table (He.ga K "made_table") fd_made_table
  b_made_table : Binds K fd_made_table ["rows"] []
  g_made_table : mg "made_table" = some (.ref (He.ga K "made_table"))
  fd_check_lengths : FuncData
  F_check_lengths : Fun K "_check_lengths" "_check_lengths" s_check_lengths (He.ga K "_check_lengths") fd_check_lengths
  b_check_lengths : Binds K fd_check_lengths ["one", "other"] []
  g_check_lengths : mg "_check_lengths" = some (.ref (He.ga K "_check_lengths"))
  fd_items_of_both : FuncData
  F_items_of_both : Fun K "_items_of_both" "_items_of_both" s_items_of_both (He.ga K "_items_of_both") fd_items_of_both
  b_items_of_both : Binds K fd_items_of_both ["one", "other"] []
  g_items_of_both : mg "_items_of_both" = some (.ref (He.ga K "_items_of_both"))
  fd_cell : FuncData
  F_cell : Fun K "_law_cell" "_law_cell" s_cell (He.ga K "_law_cell") fd_cell
  b_cell : Binds K fd_cell ["_law_script", "_law_k"] []
  g_cell : mg "_law_cell" = some (.ref (He.ga K "_law_cell"))
  fd_box : FuncData
  F_box : Fun K "_law_box" "_law_box" s_box (He.ga K "_law_box") fd_box
  b_box : Binds K fd_box ["_law_script", "_law_k"] []
  g_box : mg "_law_box" = some (.ref (He.ga K "_law_box"))
  fd_take : FuncData
  F_take : Fun K "_law_take" "_law_take" s_take (He.ga K "_law_take") fd_take
  b_take : Binds K fd_take ["_law_box_here", "_law_many"] []
  g_take : mg "_law_take" = some (.ref (He.ga K "_law_take"))
  fd_frac : FuncData
  F_frac : Fun K "_law_frac" "_law_frac" s_frac (He.ga K "_law_frac") fd_frac
  b_frac : Binds K fd_frac ["_law_up", "_law_down"] []
  g_frac : mg "_law_frac" = some (.ref (He.ga K "_law_frac"))
  fd_plus : FuncData
  F_plus : Fun K "_law_plus" "_law_plus" s_plus (He.ga K "_law_plus") fd_plus
  b_plus : Binds K fd_plus ["_law_x", "_law_y"] []
  g_plus : mg "_law_plus" = some (.ref (He.ga K "_law_plus"))
  fd_times : FuncData
  F_times : Fun K "_law_times" "_law_times" s_times (He.ga K "_law_times") fd_times
  b_times : Binds K fd_times ["_law_x", "_law_y"] []
  g_times : mg "_law_times" = some (.ref (He.ga K "_law_times"))
  fd_minus : FuncData
  F_minus : Fun K "_law_minus" "_law_minus" s_minus (He.ga K "_law_minus") fd_minus
  b_minus : Binds K fd_minus ["_law_x", "_law_y"] []
  g_minus : mg "_law_minus" = some (.ref (He.ga K "_law_minus"))
  fd_number : FuncData
  F_number : Fun K "_law_number" "_law_number" s_number (He.ga K "_law_number") fd_number
  b_number : Binds K fd_number ["_law_box_here", "_law_most"] []
  g_number : mg "_law_number" = some (.ref (He.ga K "_law_number"))
  fd_handed : FuncData
  F_handed : Fun K "_law_handed" "_law_handed" s_handed (He.ga K "_law_handed") fd_handed
  b_handed : Binds K fd_handed ["_law_x", "_law_box_here"] []
  g_handed : mg "_law_handed" = some (.ref (He.ga K "_law_handed"))
  fd_told : FuncData
  F_told : Fun K "_law_told" "_law_told" s_told (He.ga K "_law_told") fd_told
  b_told : Binds K fd_told ["_law_amount"] []
  g_told : mg "_law_told" = some (.ref (He.ga K "_law_told"))
  fd_times_tables : FuncData
  F_times_tables : Fun K "_law_times_tables" "_law_times_tables" s_times_tables (He.ga K "_law_times_tables") fd_times_tables
  b_times_tables : Binds K fd_times_tables ["_law_one", "_law_other"] []
  g_times_tables : mg "_law_times_tables" = some (.ref (He.ga K "_law_times_tables"))
  fd_added : FuncData
  F_added : Fun K "_law_added" "_law_added" s_added (He.ga K "_law_added") fd_added
  b_added : Binds K fd_added ["_law_one", "_law_other", "_law_factor"] []
  g_added : mg "_law_added" = some (.ref (He.ga K "_law_added"))
  fd_unit : FuncData
  F_unit : Fun K "_law_unit" "_law_unit" s_unit (He.ga K "_law_unit") fd_unit
  b_unit : Binds K fd_unit ["_law_size"] []
  g_unit : mg "_law_unit" = some (.ref (He.ga K "_law_unit"))
  fd_flipped : FuncData
  F_flipped : Fun K "_law_flipped" "_law_flipped" s_flipped (He.ga K "_law_flipped") fd_flipped
  b_flipped : Binds K fd_flipped ["_law_rows_here"] []
  g_flipped : mg "_law_flipped" = some (.ref (He.ga K "_law_flipped"))
  fd_sent : FuncData
  F_sent : Fun K "_law_sent" "_law_sent" s_sent (He.ga K "_law_sent") fd_sent
  b_sent : Binds K fd_sent ["_law_rows_here", "_law_beam"] []
  g_sent : mg "_law_sent" = some (.ref (He.ga K "_law_sent"))
  fd_trace : FuncData
  F_trace : Fun K "_law_trace" "_law_trace" s_trace (He.ga K "_law_trace") fd_trace
  b_trace : Binds K fd_trace ["_law_rows_here"] []
  g_trace : mg "_law_trace" = some (.ref (He.ga K "_law_trace"))
  fd_rows : FuncData
  F_rows : Fun K "_law_rows" "_law_rows" s_rows (He.ga K "_law_rows") fd_rows
  b_rows : Binds K fd_rows ["_law_table_here"] []
  g_rows : mg "_law_rows" = some (.ref (He.ga K "_law_rows"))
  fd_table : FuncData
  F_table : Fun K "_law_table" "_law_table" s_table (He.ga K "_law_table") fd_table
  b_table : Binds K fd_table ["_law_rows_here"] []
  g_table : mg "_law_table" = some (.ref (He.ga K "_law_table"))
  fd_drawn : FuncData
  F_drawn : Fun K "_law_drawn" "_law_drawn" s_drawn (He.ga K "_law_drawn") fd_drawn
  b_drawn : Binds K fd_drawn ["_law_box_here", "_law_size"] []
  g_drawn : mg "_law_drawn" = some (.ref (He.ga K "_law_drawn"))
  fd_refused : FuncData
  F_refused : Fun K "_law_refused" "_law_refused" s_refused (He.ga K "_law_refused") fd_refused
  b_refused : Binds K fd_refused ["_law_rows_here"] []
  g_refused : mg "_law_refused" = some (.ref (He.ga K "_law_refused"))
  fd_unlike : FuncData
  F_unlike : Fun K "_law_unlike" "_law_unlike" s_unlike (He.ga K "_law_unlike") fd_unlike
  b_unlike : Binds K fd_unlike ["_law_one", "_law_other"] []
  g_unlike : mg "_law_unlike" = some (.ref (He.ga K "_law_unlike"))
  fd_no_beam : FuncData
  F_no_beam : Fun K "_law_no_beam" "_law_no_beam" s_no_beam (He.ga K "_law_no_beam") fd_no_beam
  b_no_beam : Binds K fd_no_beam ["_law_table_here", "_law_row"] []
  g_no_beam : mg "_law_no_beam" = some (.ref (He.ga K "_law_no_beam"))
  fd_errors : FuncData
  F_errors : Fun K "_law_errors" "_law_errors" s_errors (He.ga K "_law_errors") fd_errors
  b_errors : Binds K fd_errors ["_law_box_here", "_law_table_here", "_law_size"] []
  g_errors : mg "_law_errors" = some (.ref (He.ga K "_law_errors"))
  fd_law : FuncData
  F_law : Fun K "law" "law" s_law (He.ga K "law") fd_law
  b_law : Binds K fd_law ["_law_script"] []
  g_law : mg "law" = some (.ref (He.ga K "law"))
  z_abs : mg "abs" = none
  z_all : mg "all" = none
  z_bool : mg "bool" = none
  z_classmethod : mg "classmethod" = none
  z_divmod : mg "divmod" = none
  z_enumerate : mg "enumerate" = none
  z_int : mg "int" = none
  z_isinstance : mg "isinstance" = none
  z_len : mg "len" = none
  z_list : mg "list" = none
  z_max : mg "max" = none
  z_min : mg "min" = none
  z_property : mg "property" = none
  z_range : mg "range" = none
  z_str : mg "str" = none
  z_tuple : mg "tuple" = none
  z_zip : mg "zip" = none
  i_gcd : mg "gcd" = some (.builtin "math.gcd")
  i_lcm : mg "lcm" = some (.builtin "math.lcm")
  c_Ratio : mg "Ratio" = some (.ref (He.ga K "Ratio"))
  cl_R : Cls K (He.ga K "Ratio")
  nT_R : NoAttr K (He.ga K "Ratio") "_top"
  nB_R : NoAttr K (He.ga K "Ratio") "_bottom"
  mk_R : Mk K (He.ga K "Ratio") (He.ma K (He.ga K "Ratio") "__init__")
  p_top : PropOf K (He.ga K "Ratio") "top" (He.ma K (He.ga K "Ratio") "top") (FoZ.pg K "Ratio" "top")
  p_bottom : PropOf K (He.ga K "Ratio") "bottom" (He.ma K (He.ga K "Ratio") "bottom") (FoZ.pg K "Ratio" "bottom")
  bi_add : FoA.BinC K (He.ga K "Ratio") (He.ma K (He.ga K "Ratio") "__add__") .Add
  bi_sub : FoA.BinC K (He.ga K "Ratio") (He.ma K (He.ga K "Ratio") "__sub__") .Sub
  bi_mul : FoA.BinC K (He.ga K "Ratio") (He.ma K (He.ga K "Ratio") "__mul__") .Mult
  cm_eq : FoA.CmpC K (He.ga K "Ratio") (He.ma K (He.ga K "Ratio") "__eq__") .Eq
  m_neg : Meth K (He.ga K "Ratio") "__neg__" (He.ma K (He.ga K "Ratio") "__neg__")
  is_R : FoB.Isi K (He.ga K "Ratio")
  c_BadNumber : mg "BadNumber" = some (.ref (He.ga K "BadNumber"))
  e_BadNumber : FoB.OErr K (He.ga K "BadNumber") (He.ma K (He.ga K "BadNumber") "__init__") "given"
  c_Table : mg "Table" = some (.ref (He.ga K "Table"))
  cl_T : Cls K (He.ga K "Table")
  nR_T : NoAttr K (He.ga K "Table") "_rows"
  mk_T : Mk K (He.ga K "Table") (He.ma K (He.ga K "Table") "__init__")
  is_T : FoB.Isi K (He.ga K "Table")
  mT_rows : Meth K (He.ga K "Table") "rows" (He.ma K (He.ga K "Table") "rows")
  mT_mirror : Meth K (He.ga K "Table") "mirror" (He.ma K (He.ga K "Table") "mirror")
  mT_trace : Meth K (He.ga K "Table") "trace" (He.ma K (He.ga K "Table") "trace")
  mT_sent : Meth K (He.ga K "Table") "sent" (He.ma K (He.ga K "Table") "sent")
  mT_len : Meth K (He.ga K "Table") "__len__" (He.ma K (He.ga K "Table") "__len__")
  biT_add : FoA.BinC K (He.ga K "Table") (He.ma K (He.ga K "Table") "__add__") .Add
  biT_sub : FoA.BinC K (He.ga K "Table") (He.ma K (He.ga K "Table") "__sub__") .Sub
  biT_mul : FoA.BinC K (He.ga K "Table") (He.ma K (He.ga K "Table") "__mul__") .Mult
  cmT_eq : FoA.CmpC K (He.ga K "Table") (He.ma K (He.ga K "Table") "__eq__") .Eq
  noRT : PySem.W.subIn K (.ref (He.ga K "Ratio")) (.ref (He.ga K "Table")) = some false
  kRT : PySem.W.kitOne K (.ref (He.ga K "Ratio")) (.ref (He.ga K "Table")) = some false
  noTR : PySem.W.subIn K (.ref (He.ga K "Table")) (.ref (He.ga K "Ratio")) = some false
  kTR : PySem.W.kitOne K (.ref (He.ga K "Table")) (.ref (He.ga K "Ratio")) = some false
  k_LONGEST : ∃ t, mg "LONGEST" = some (.int 8 t)
  cr_T : ClX.CRead K (He.ga K "Table") (.type "type")
  cm_unit : ClX.CMet K (He.ga K "Table") (.type "type") "unit" (He.ma K (He.ga K "Table") "unit") (He5.wf K (He.ga K "Table") "classmethod" "unit")
  c_BadTable : mg "BadTable" = some (.ref (He.ga K "BadTable"))
  e_BadTable : FoB.ErrC K (He.ga K "BadTable")
  c_UnlikeTables : mg "UnlikeTables" = some (.ref (He.ga K "UnlikeTables"))
  e_UnlikeTables : FoB.ErrC K (He.ga K "UnlikeTables")
  c_BadBeam : mg "BadBeam" = some (.ref (He.ga K "BadBeam"))
  e_BadBeam : FoB.ErrC K (He.ga K "BadBeam")
end Fo

set_option maxHeartbeats 4100000
namespace Fo
open PySem PySem.Spec PyProof.Rows L2
def hb0 : List (PySem.W.Frag → Bool) := [(He.Fa.glo "is_whole").ok,
  (He.Fa.glo "is_number").ok,
  (He.Fa.glo "as_ratio").ok,
  (He.Fa.glo "shared_bottom").ok,
  (He.Fa.glo "multiplied").ok,
  (He.Fa.glo "whole_inner").ok,
  (He.Fa.glo "has_numbers").ok,
  (He.Fa.glo "beam_of").ok,
  (He.Fa.glo "whole_beam").ok,
  (He.Fa.glo "inner_over").ok,
  (He.Fa.glo "inner").ok,
  (He.Fa.glo "made_table").ok,
  (He.Fa.glo "_check_lengths").ok,
  (He.Fa.glo "_items_of_both").ok,
  (He.Fa.glo "_law_cell").ok,
  (He.Fa.glo "_law_box").ok,
  (He.Fa.glo "_law_take").ok,
  (He.Fa.glo "_law_frac").ok,
  (He.Fa.glo "_law_plus").ok,
  (He.Fa.glo "_law_times").ok,
  (He.Fa.glo "_law_minus").ok,
  (He.Fa.glo "_law_number").ok,
  (He.Fa.glo "_law_handed").ok,
  (He.Fa.glo "_law_told").ok,
  (He.Fa.glo "_law_times_tables").ok,
  (He.Fa.glo "_law_added").ok,
  (He.Fa.glo "_law_unit").ok,
  (He.Fa.glo "_law_flipped").ok,
  (He.Fa.glo "_law_sent").ok,
  (He.Fa.glo "_law_trace").ok,
  (He.Fa.glo "_law_rows").ok,
  (He.Fa.glo "_law_table").ok,
  (He.Fa.glo "_law_drawn").ok]
def hd0 : List He5.DefA := [⟨fun K => (He.ma K (He.ga K "BadNumber") "__init__"), "__init__", "BadNumber.__init__", defArgs s_BadNumber_init, defBody s_BadNumber_init, defScope s_BadNumber_init, [], []⟩,
  ⟨fun K => (He.ma K (He.ga K "Ratio") "__init__"), "__init__", "Ratio.__init__", defArgs s_Ratio_init, defBody s_Ratio_init, defScope s_Ratio_init, [.int 1], []⟩,
  ⟨fun K => (FoZ.pg K "Ratio" "top"), "top", "Ratio.top", defArgs s_Ratio_top, defBody s_Ratio_top, defScope s_Ratio_top, [], []⟩,
  ⟨fun K => (FoZ.pg K "Ratio" "bottom"), "bottom", "Ratio.bottom", defArgs s_Ratio_bottom, defBody s_Ratio_bottom, defScope s_Ratio_bottom, [], []⟩,
  ⟨fun K => (He.ma K (He.ga K "Ratio") "__eq__"), "__eq__", "Ratio.__eq__", defArgs s_Ratio_eq, defBody s_Ratio_eq, defScope s_Ratio_eq, [], []⟩,
  ⟨fun K => (He.ma K (He.ga K "Ratio") "__add__"), "__add__", "Ratio.__add__", defArgs s_Ratio_add, defBody s_Ratio_add, defScope s_Ratio_add, [], []⟩,
  ⟨fun K => (He.ma K (He.ga K "Ratio") "__sub__"), "__sub__", "Ratio.__sub__", defArgs s_Ratio_sub, defBody s_Ratio_sub, defScope s_Ratio_sub, [], []⟩,
  ⟨fun K => (He.ma K (He.ga K "Ratio") "__mul__"), "__mul__", "Ratio.__mul__", defArgs s_Ratio_mul, defBody s_Ratio_mul, defScope s_Ratio_mul, [], []⟩,
  ⟨fun K => (He.ma K (He.ga K "Ratio") "__neg__"), "__neg__", "Ratio.__neg__", defArgs s_Ratio_neg, defBody s_Ratio_neg, defScope s_Ratio_neg, [], []⟩,
  ⟨fun K => (He.ga K "is_whole"), "is_whole", "is_whole", defArgs s_is_whole, defBody s_is_whole, defScope s_is_whole, [], []⟩,
  ⟨fun K => (He.ga K "is_number"), "is_number", "is_number", defArgs s_is_number, defBody s_is_number, defScope s_is_number, [], []⟩,
  ⟨fun K => (He.ga K "as_ratio"), "as_ratio", "as_ratio", defArgs s_as_ratio, defBody s_as_ratio, defScope s_as_ratio, [], []⟩,
  ⟨fun K => (He.ga K "shared_bottom"), "shared_bottom", "shared_bottom", defArgs s_shared_bottom, defBody s_shared_bottom, defScope s_shared_bottom, [], []⟩,
  ⟨fun K => (He.ga K "multiplied"), "multiplied", "multiplied", defArgs s_multiplied, defBody s_multiplied, defScope s_multiplied, [], []⟩,
  ⟨fun K => (He.ga K "whole_inner"), "whole_inner", "whole_inner", defArgs s_whole_inner, defBody s_whole_inner, defScope s_whole_inner, [], []⟩,
  ⟨fun K => (He.ga K "has_numbers"), "has_numbers", "has_numbers", defArgs s_has_numbers, defBody s_has_numbers, defScope s_has_numbers, [], []⟩,
  ⟨fun K => (He.ga K "beam_of"), "beam_of", "beam_of", defArgs s_beam_of, defBody s_beam_of, defScope s_beam_of, [], []⟩,
  ⟨fun K => (He.ga K "whole_beam"), "whole_beam", "whole_beam", defArgs s_whole_beam, defBody s_whole_beam, defScope s_whole_beam, [], []⟩,
  ⟨fun K => (He.ga K "inner_over"), "inner_over", "inner_over", defArgs s_inner_over, defBody s_inner_over, defScope s_inner_over, [], []⟩,
  ⟨fun K => (He.ga K "inner"), "inner", "inner", defArgs s_inner, defBody s_inner, defScope s_inner, [], []⟩]
def hb1 : List (PySem.W.Frag → Bool) := [(He.Fa.glo "_law_refused").ok,
  (He.Fa.glo "_law_unlike").ok,
  (He.Fa.glo "_law_no_beam").ok,
  (He.Fa.glo "_law_errors").ok,
  (He.Fa.glo "law").ok,
  (He.Fa.free "abs").ok,
  (He.Fa.free "all").ok,
  (He.Fa.free "bool").ok,
  (He.Fa.free "classmethod").ok,
  (He.Fa.free "divmod").ok,
  (He.Fa.free "enumerate").ok,
  (He.Fa.free "int").ok,
  (He.Fa.free "isinstance").ok,
  (He.Fa.free "len").ok,
  (He.Fa.free "list").ok,
  (He.Fa.free "max").ok,
  (He.Fa.free "min").ok,
  (He.Fa.free "property").ok,
  (He.Fa.free "range").ok,
  (He.Fa.free "str").ok,
  (He.Fa.free "tuple").ok,
  (He.Fa.free "zip").ok,
  FoZ.impB "gcd" "math.gcd",
  FoZ.impB "lcm" "math.lcm",
  (He.Fa.glo "Ratio").ok,
  (He.Fa.cls "Ratio").ok,
  (He.Fa.noat "Ratio" "_top").ok,
  (He.Fa.noat "Ratio" "_bottom").ok,
  (He.Fa.mkr "Ratio").ok,
  FoZ.propB "Ratio" "top",
  FoZ.propB "Ratio" "bottom",
  FoZ.binB "Ratio" "__add__" "__radd__",
  FoZ.binB "Ratio" "__sub__" "__rsub__"]
def hd1 : List He5.DefA := [⟨fun K => (He.ma K (He.ga K "Table") "__init__"), "__init__", "Table.__init__", defArgs s_Table_init, defBody s_Table_init, defScope s_Table_init, [], []⟩,
  ⟨fun K => (He5.wf K (He.ga K "Table") "classmethod" "unit"), "unit", "Table.unit", defArgs s_Table_unit, defBody s_Table_unit, defScope s_Table_unit, [], []⟩,
  ⟨fun K => (He.ma K (He.ga K "Table") "rows"), "rows", "Table.rows", defArgs s_Table_rows, defBody s_Table_rows, defScope s_Table_rows, [], []⟩,
  ⟨fun K => (He.ma K (He.ga K "Table") "__len__"), "__len__", "Table.__len__", defArgs s_Table_len, defBody s_Table_len, defScope s_Table_len, [], []⟩,
  ⟨fun K => (He.ma K (He.ga K "Table") "__eq__"), "__eq__", "Table.__eq__", defArgs s_Table_eq, defBody s_Table_eq, defScope s_Table_eq, [], []⟩,
  ⟨fun K => (He.ma K (He.ga K "Table") "__add__"), "__add__", "Table.__add__", defArgs s_Table_add, defBody s_Table_add, defScope s_Table_add, [], []⟩,
  ⟨fun K => (He.ma K (He.ga K "Table") "__sub__"), "__sub__", "Table.__sub__", defArgs s_Table_sub, defBody s_Table_sub, defScope s_Table_sub, [], []⟩,
  ⟨fun K => (He.ma K (He.ga K "Table") "__mul__"), "__mul__", "Table.__mul__", defArgs s_Table_mul, defBody s_Table_mul, defScope s_Table_mul, [], []⟩,
  ⟨fun K => (He.ma K (He.ga K "Table") "mirror"), "mirror", "Table.mirror", defArgs s_Table_mirror, defBody s_Table_mirror, defScope s_Table_mirror, [], []⟩,
  ⟨fun K => (He.ma K (He.ga K "Table") "trace"), "trace", "Table.trace", defArgs s_Table_trace, defBody s_Table_trace, defScope s_Table_trace, [], []⟩,
  ⟨fun K => (He.ma K (He.ga K "Table") "sent"), "sent", "Table.sent", defArgs s_Table_sent, defBody s_Table_sent, defScope s_Table_sent, [], []⟩,
  ⟨fun K => (He.ga K "made_table"), "made_table", "made_table", defArgs s_made_table, defBody s_made_table, defScope s_made_table, [], []⟩,
  ⟨fun K => (He.ga K "_check_lengths"), "_check_lengths", "_check_lengths", defArgs s_check_lengths, defBody s_check_lengths, defScope s_check_lengths, [], []⟩,
  ⟨fun K => (He.ga K "_items_of_both"), "_items_of_both", "_items_of_both", defArgs s_items_of_both, defBody s_items_of_both, defScope s_items_of_both, [], []⟩,
  ⟨fun K => (He.ga K "_law_cell"), "_law_cell", "_law_cell", defArgs s_cell, defBody s_cell, defScope s_cell, [], []⟩,
  ⟨fun K => (He.ga K "_law_box"), "_law_box", "_law_box", defArgs s_box, defBody s_box, defScope s_box, [], []⟩,
  ⟨fun K => (He.ga K "_law_take"), "_law_take", "_law_take", defArgs s_take, defBody s_take, defScope s_take, [], []⟩,
  ⟨fun K => (He.ga K "_law_frac"), "_law_frac", "_law_frac", defArgs s_frac, defBody s_frac, defScope s_frac, [], []⟩,
  ⟨fun K => (He.ga K "_law_plus"), "_law_plus", "_law_plus", defArgs s_plus, defBody s_plus, defScope s_plus, [], []⟩,
  ⟨fun K => (He.ga K "_law_times"), "_law_times", "_law_times", defArgs s_times, defBody s_times, defScope s_times, [], []⟩]
def hb2 : List (PySem.W.Frag → Bool) := [FoZ.binB "Ratio" "__mul__" "__rmul__",
  FoZ.cmpB "Ratio" "__eq__",
  (He.Fa.meth "Ratio" "__neg__").ok,
  FoB.isiB "Ratio",
  (He.Fa.glo "BadNumber").ok,
  FoB.oexB "BadNumber" "given",
  (He.Fa.glo "Table").ok,
  (He.Fa.cls "Table").ok,
  (He.Fa.noat "Table" "_rows").ok,
  (He.Fa.mkr "Table").ok,
  FoB.isiB "Table",
  (He.Fa.meth "Table" "rows").ok,
  (He.Fa.meth "Table" "mirror").ok,
  (He.Fa.meth "Table" "trace").ok,
  (He.Fa.meth "Table" "sent").ok,
  (He.Fa.meth "Table" "__len__").ok,
  FoZ.binB "Table" "__add__" "__radd__",
  FoZ.binB "Table" "__sub__" "__rsub__",
  FoZ.binB "Table" "__mul__" "__rmul__",
  FoZ.cmpB "Table" "__eq__",
  (fun K => decide (PySem.W.subIn K (.ref (He.ga K "Ratio")) (.ref (He.ga K "Table")) = some false)),
  (fun K => decide (PySem.W.kitOne K (.ref (He.ga K "Ratio")) (.ref (He.ga K "Table")) = some false)),
  (fun K => decide (PySem.W.subIn K (.ref (He.ga K "Table")) (.ref (He.ga K "Ratio")) = some false)),
  (fun K => decide (PySem.W.kitOne K (.ref (He.ga K "Table")) (.ref (He.ga K "Ratio")) = some false)),
  (He.Fa.int "LONGEST" 8).ok,
  FoD.creadB "Table",
  FoD.cmetB "Table" "unit",
  (He.Fa.glo "BadTable").ok,
  FoB.errB "BadTable",
  (He.Fa.glo "UnlikeTables").ok,
  FoB.errB "UnlikeTables",
  (He.Fa.glo "BadBeam").ok,
  FoB.errB "BadBeam"]
def hd2 : List He5.DefA := [⟨fun K => (He.ga K "_law_minus"), "_law_minus", "_law_minus", defArgs s_minus, defBody s_minus, defScope s_minus, [], []⟩,
  ⟨fun K => (He.ga K "_law_number"), "_law_number", "_law_number", defArgs s_number, defBody s_number, defScope s_number, [], []⟩,
  ⟨fun K => (He.ga K "_law_handed"), "_law_handed", "_law_handed", defArgs s_handed, defBody s_handed, defScope s_handed, [], []⟩,
  ⟨fun K => (He.ga K "_law_told"), "_law_told", "_law_told", defArgs s_told, defBody s_told, defScope s_told, [], []⟩,
  ⟨fun K => (He.ga K "_law_times_tables"), "_law_times_tables", "_law_times_tables", defArgs s_times_tables, defBody s_times_tables, defScope s_times_tables, [], []⟩,
  ⟨fun K => (He.ga K "_law_added"), "_law_added", "_law_added", defArgs s_added, defBody s_added, defScope s_added, [], []⟩,
  ⟨fun K => (He.ga K "_law_unit"), "_law_unit", "_law_unit", defArgs s_unit, defBody s_unit, defScope s_unit, [], []⟩,
  ⟨fun K => (He.ga K "_law_flipped"), "_law_flipped", "_law_flipped", defArgs s_flipped, defBody s_flipped, defScope s_flipped, [], []⟩,
  ⟨fun K => (He.ga K "_law_sent"), "_law_sent", "_law_sent", defArgs s_sent, defBody s_sent, defScope s_sent, [], []⟩,
  ⟨fun K => (He.ga K "_law_trace"), "_law_trace", "_law_trace", defArgs s_trace, defBody s_trace, defScope s_trace, [], []⟩,
  ⟨fun K => (He.ga K "_law_rows"), "_law_rows", "_law_rows", defArgs s_rows, defBody s_rows, defScope s_rows, [], []⟩,
  ⟨fun K => (He.ga K "_law_table"), "_law_table", "_law_table", defArgs s_table, defBody s_table, defScope s_table, [], []⟩,
  ⟨fun K => (He.ga K "_law_drawn"), "_law_drawn", "_law_drawn", defArgs s_drawn, defBody s_drawn, defScope s_drawn, [], []⟩,
  ⟨fun K => (He.ga K "_law_refused"), "_law_refused", "_law_refused", defArgs s_refused, defBody s_refused, defScope s_refused, [], []⟩,
  ⟨fun K => (He.ga K "_law_unlike"), "_law_unlike", "_law_unlike", defArgs s_unlike, defBody s_unlike, defScope s_unlike, [], []⟩,
  ⟨fun K => (He.ga K "_law_no_beam"), "_law_no_beam", "_law_no_beam", defArgs s_no_beam, defBody s_no_beam, defScope s_no_beam, [], []⟩,
  ⟨fun K => (He.ga K "_law_errors"), "_law_errors", "_law_errors", defArgs s_errors, defBody s_errors, defScope s_errors, [], []⟩,
  ⟨fun K => (He.ga K "law"), "law", "law", defArgs s_law, defBody s_law, defScope s_law, [], []⟩]
def hb : List (PySem.W.Frag → Bool) := hb0 ++ (hb1 ++ hb2)
def hd : List He5.DefA := hd0 ++ (hd1 ++ hd2)
abbrev R : PySem.W.OpenRow := PySem.W.OpenLaw.row PySem.Challenge.rw_filterorders_k19_tables
abbrev hk : PySem.W.Hook := FoZ.hook 6 hb hd
def ob (s : PySem.W.SharedT) : Bool × List He.FnW := FoZ.lookG 6 hb hd (HandSHeadRun.getT s)
theorem ob_eq (s : PySem.W.SharedT) : ob s = hk.obs s.abs := FoZ.lookG_eq (HandSHeadRun.getT_eq s)
def loose : List PySem.Str := (["gcd", "lcm", "FilterError", "ByZero", "BadNumber", "BadText", "BadTable", "UnlikeTables", "BadBeam", "PIECE_DIGITS", "PIECE", "Ratio", "is_whole", "is_number", "as_ratio", "_has_only_digits", "_decimal", "_integer_of", "shared_bottom", "multiplied", "whole_inner", "has_numbers", "beam_of", "whole_beam", "inner_over", "inner", "LONGEST", "Table", "made_table", "_check_lengths"] : List PySem.Str) ++ (["_items_of_both", "_law_cell", "_law_box", "_law_take", "_law_frac", "_law_plus", "_law_times", "_law_minus", "_law_less", "_law_number", "_law_handed", "_law_told", "_law_times_tables", "_law_added", "_law_unit", "_law_flipped", "_law_sent", "_law_trace", "_law_rows", "_law_table", "_law_drawn", "_law_refused", "_law_unlike", "_law_no_beam", "_law_errors"] : List PySem.Str)
theorem run1 (w : World) : (FoI.endI HandSHeadRun.tabQ (HandSHeadRun.stepQ (HandSHeadRun.denQ HandSHeadRun.tabQ) R.prog w) 20000 R.prog w).map (fun s => FoI.looksI R.prog s.1 s.2.abs) = some true := by
  kernel_rfl
theorem run2 (w : World) : (FoI.endI HandSHeadRun.tabQ (HandSHeadRun.stepQ (HandSHeadRun.denQ HandSHeadRun.tabQ) R.prog w) 20000 R.prog w).map (fun s => HandSHeadRun.seenQ (PySem.W.view R.prog [61]) loose (PySem.importedModules R.prog.main.body) (fun s => PySem.W.xlAt (PySem.W.view R.prog [61]) [] s && PySem.W.recOk R.toRowW.records s) s.2.abs) = some (PySem.W.openGood (PySem.W.view R.prog [61]) loose) := by
  kernel_rfl
theorem look0 (w : World) : (FoI.endI HandSHeadRun.tabQ (HandSHeadRun.stepQ (HandSHeadRun.denQ HandSHeadRun.tabQ) R.prog w) 20000 R.prog w).map (fun s => FoZ.lookG 6 hb0 hd0 (HandSHeadRun.getT s.2)) = some (FoZ.want hd0) := by
  kernel_rfl
theorem look1 (w : World) : (FoI.endI HandSHeadRun.tabQ (HandSHeadRun.stepQ (HandSHeadRun.denQ HandSHeadRun.tabQ) R.prog w) 20000 R.prog w).map (fun s => FoZ.lookG 6 hb1 hd1 (HandSHeadRun.getT s.2)) = some (FoZ.want hd1) := by
  kernel_rfl
theorem look2 (w : World) : (FoI.endI HandSHeadRun.tabQ (HandSHeadRun.stepQ (HandSHeadRun.denQ HandSHeadRun.tabQ) R.prog w) 20000 R.prog w).map (fun s => FoZ.lookG 6 hb2 hd2 (HandSHeadRun.getT s.2)) = some (FoZ.want hd2) := by
  kernel_rfl
theorem run3 (w : World) : (FoI.endI HandSHeadRun.tabQ (HandSHeadRun.stepQ (HandSHeadRun.denQ HandSHeadRun.tabQ) R.prog w) 20000 R.prog w).map (fun s => ob s.2) = some (hk.val w) := (FoI.looks_map (look0 w) (FoI.looks_map (look1 w) (look2 w)))
theorem run (w : World) : FoI.RunI R (PySem.W.view R.prog [61]) hk ob 20000 loose w := FoI.run_of (run1 w) (run2 w) (run3 w)
theorem facts {K : PySem.W.Frag} {h : Heap} {mg : Str → Option Value} (X : K.In h) (G : h.Ns mainGlobals mg) (c : FoZ.Told hb hd K) : Nonempty (Tx K mg) := by
  obtain ⟨fd0, F0⟩ := c.defn 0
  obtain ⟨fd1, F1⟩ := c.defn 1
  obtain ⟨fd2, F2⟩ := c.defn 2
  obtain ⟨fd3, F3⟩ := c.defn 3
  obtain ⟨fd4, F4⟩ := c.defn 4
  obtain ⟨fd5, F5⟩ := c.defn 5
  obtain ⟨fd6, F6⟩ := c.defn 6
  obtain ⟨fd7, F7⟩ := c.defn 7
  obtain ⟨fd8, F8⟩ := c.defn 8
  obtain ⟨fd9, F9⟩ := c.defn 9
  obtain ⟨fd10, F10⟩ := c.defn 10
  obtain ⟨fd11, F11⟩ := c.defn 11
  obtain ⟨fd12, F12⟩ := c.defn 12
  obtain ⟨fd13, F13⟩ := c.defn 13
  obtain ⟨fd14, F14⟩ := c.defn 14
  obtain ⟨fd15, F15⟩ := c.defn 15
  obtain ⟨fd16, F16⟩ := c.defn 16
  obtain ⟨fd17, F17⟩ := c.defn 17
  obtain ⟨fd18, F18⟩ := c.defn 18
  obtain ⟨fd19, F19⟩ := c.defn 19
  obtain ⟨fd20, F20⟩ := c.defn 20
  obtain ⟨fd21, F21⟩ := c.defn 21
  obtain ⟨fd22, F22⟩ := c.defn 22
  obtain ⟨fd23, F23⟩ := c.defn 23
  obtain ⟨fd24, F24⟩ := c.defn 24
  obtain ⟨fd25, F25⟩ := c.defn 25
  obtain ⟨fd26, F26⟩ := c.defn 26
  obtain ⟨fd27, F27⟩ := c.defn 27
  obtain ⟨fd28, F28⟩ := c.defn 28
  obtain ⟨fd29, F29⟩ := c.defn 29
  obtain ⟨fd30, F30⟩ := c.defn 30
  obtain ⟨fd31, F31⟩ := c.defn 31
  obtain ⟨fd32, F32⟩ := c.defn 32
  obtain ⟨fd33, F33⟩ := c.defn 33
  obtain ⟨fd34, F34⟩ := c.defn 34
  obtain ⟨fd35, F35⟩ := c.defn 35
  obtain ⟨fd36, F36⟩ := c.defn 36
  obtain ⟨fd37, F37⟩ := c.defn 37
  obtain ⟨fd38, F38⟩ := c.defn 38
  obtain ⟨fd39, F39⟩ := c.defn 39
  obtain ⟨fd40, F40⟩ := c.defn 40
  obtain ⟨fd41, F41⟩ := c.defn 41
  obtain ⟨fd42, F42⟩ := c.defn 42
  obtain ⟨fd43, F43⟩ := c.defn 43
  obtain ⟨fd44, F44⟩ := c.defn 44
  obtain ⟨fd45, F45⟩ := c.defn 45
  obtain ⟨fd46, F46⟩ := c.defn 46
  obtain ⟨fd47, F47⟩ := c.defn 47
  obtain ⟨fd48, F48⟩ := c.defn 48
  obtain ⟨fd49, F49⟩ := c.defn 49
  obtain ⟨fd50, F50⟩ := c.defn 50
  obtain ⟨fd51, F51⟩ := c.defn 51
  obtain ⟨fd52, F52⟩ := c.defn 52
  obtain ⟨fd53, F53⟩ := c.defn 53
  obtain ⟨fd54, F54⟩ := c.defn 54
  obtain ⟨fd55, F55⟩ := c.defn 55
  obtain ⟨fd56, F56⟩ := c.defn 56
  obtain ⟨fd57, F57⟩ := c.defn 57
  exact ⟨⟨fd0,
    He5.fun_of (st := s_BadNumber_init) F0,
    ((He5.fun_of (st := s_BadNumber_init) F0).binds (ps := ["self", "given"]) fun _ _ _ _ _ _ us hl => match us, hl with | [_, _], _ => rfl),
    fd1,
    F1,
    fd2,
    He5.fun_of (st := s_Ratio_top) F2,
    ((He5.fun_of (st := s_Ratio_top) F2).binds (ps := ["self"]) fun _ _ _ _ _ _ us hl => match us, hl with | [_], _ => rfl),
    fd3,
    He5.fun_of (st := s_Ratio_bottom) F3,
    ((He5.fun_of (st := s_Ratio_bottom) F3).binds (ps := ["self"]) fun _ _ _ _ _ _ us hl => match us, hl with | [_], _ => rfl),
    fd4,
    He5.fun_of (st := s_Ratio_eq) F4,
    ((He5.fun_of (st := s_Ratio_eq) F4).binds (ps := ["self", "other"]) fun _ _ _ _ _ _ us hl => match us, hl with | [_, _], _ => rfl),
    fd5,
    He5.fun_of (st := s_Ratio_add) F5,
    ((He5.fun_of (st := s_Ratio_add) F5).binds (ps := ["self", "other"]) fun _ _ _ _ _ _ us hl => match us, hl with | [_, _], _ => rfl),
    fd6,
    He5.fun_of (st := s_Ratio_sub) F6,
    ((He5.fun_of (st := s_Ratio_sub) F6).binds (ps := ["self", "other"]) fun _ _ _ _ _ _ us hl => match us, hl with | [_, _], _ => rfl),
    fd7,
    He5.fun_of (st := s_Ratio_mul) F7,
    ((He5.fun_of (st := s_Ratio_mul) F7).binds (ps := ["self", "other"]) fun _ _ _ _ _ _ us hl => match us, hl with | [_, _], _ => rfl),
    fd8,
    He5.fun_of (st := s_Ratio_neg) F8,
    ((He5.fun_of (st := s_Ratio_neg) F8).binds (ps := ["self"]) fun _ _ _ _ _ _ us hl => match us, hl with | [_], _ => rfl),
    fd9,
    He5.fun_of (st := s_is_whole) F9,
    ((He5.fun_of (st := s_is_whole) F9).binds (ps := ["given"]) fun _ _ _ _ _ _ us hl => match us, hl with | [_], _ => rfl),
    He.glo_ok X G (c.bool 0),
    fd10,
    He5.fun_of (st := s_is_number) F10,
    ((He5.fun_of (st := s_is_number) F10).binds (ps := ["given"]) fun _ _ _ _ _ _ us hl => match us, hl with | [_], _ => rfl),
    He.glo_ok X G (c.bool 1),
    fd11,
    He5.fun_of (st := s_as_ratio) F11,
    ((He5.fun_of (st := s_as_ratio) F11).binds (ps := ["given"]) fun _ _ _ _ _ _ us hl => match us, hl with | [_], _ => rfl),
    He.glo_ok X G (c.bool 2),
    fd12,
    He5.fun_of (st := s_shared_bottom) F12,
    ((He5.fun_of (st := s_shared_bottom) F12).binds (ps := ["ratios"]) fun _ _ _ _ _ _ us hl => match us, hl with | [_], _ => rfl),
    He.glo_ok X G (c.bool 3),
    fd13,
    He5.fun_of (st := s_multiplied) F13,
    ((He5.fun_of (st := s_multiplied) F13).binds (ps := ["ratios", "bottom"]) fun _ _ _ _ _ _ us hl => match us, hl with | [_, _], _ => rfl),
    He.glo_ok X G (c.bool 4),
    fd14,
    He5.fun_of (st := s_whole_inner) F14,
    ((He5.fun_of (st := s_whole_inner) F14).binds (ps := ["one", "other"]) fun _ _ _ _ _ _ us hl => match us, hl with | [_, _], _ => rfl),
    He.glo_ok X G (c.bool 5),
    fd15,
    He5.fun_of (st := s_has_numbers) F15,
    ((He5.fun_of (st := s_has_numbers) F15).binds (ps := ["given", "many"]) fun _ _ _ _ _ _ us hl => match us, hl with | [_, _], _ => rfl),
    He.glo_ok X G (c.bool 6),
    fd16,
    He5.fun_of (st := s_beam_of) F16,
    ((He5.fun_of (st := s_beam_of) F16).binds (ps := ["given", "many"]) fun _ _ _ _ _ _ us hl => match us, hl with | [_, _], _ => rfl),
    He.glo_ok X G (c.bool 7),
    fd17,
    He5.fun_of (st := s_whole_beam) F17,
    ((He5.fun_of (st := s_whole_beam) F17).binds (ps := ["ratios"]) fun _ _ _ _ _ _ us hl => match us, hl with | [_], _ => rfl),
    He.glo_ok X G (c.bool 8),
    fd18,
    He5.fun_of (st := s_inner_over) F18,
    ((He5.fun_of (st := s_inner_over) F18).binds (ps := ["one", "other"]) fun _ _ _ _ _ _ us hl => match us, hl with | [_, _], _ => rfl),
    He.glo_ok X G (c.bool 9),
    fd19,
    He5.fun_of (st := s_inner) F19,
    ((He5.fun_of (st := s_inner) F19).binds (ps := ["one", "other"]) fun _ _ _ _ _ _ us hl => match us, hl with | [_, _], _ => rfl),
    He.glo_ok X G (c.bool 10),
    fd20,
    He5.fun_of (st := s_Table_init) F20,
    ((He5.fun_of (st := s_Table_init) F20).binds (ps := ["self", "rows"]) fun _ _ _ _ _ _ us hl => match us, hl with | [_, _], _ => rfl),
    fd21,
    He5.fun_of (st := s_Table_unit) F21,
    ((He5.fun_of (st := s_Table_unit) F21).binds (ps := ["cls", "length"]) fun _ _ _ _ _ _ us hl => match us, hl with | [_, _], _ => rfl),
    fd22,
    He5.fun_of (st := s_Table_rows) F22,
    ((He5.fun_of (st := s_Table_rows) F22).binds (ps := ["self"]) fun _ _ _ _ _ _ us hl => match us, hl with | [_], _ => rfl),
    fd23,
    He5.fun_of (st := s_Table_len) F23,
    ((He5.fun_of (st := s_Table_len) F23).binds (ps := ["self"]) fun _ _ _ _ _ _ us hl => match us, hl with | [_], _ => rfl),
    fd24,
    He5.fun_of (st := s_Table_eq) F24,
    ((He5.fun_of (st := s_Table_eq) F24).binds (ps := ["self", "other"]) fun _ _ _ _ _ _ us hl => match us, hl with | [_, _], _ => rfl),
    fd25,
    He5.fun_of (st := s_Table_add) F25,
    ((He5.fun_of (st := s_Table_add) F25).binds (ps := ["self", "other"]) fun _ _ _ _ _ _ us hl => match us, hl with | [_, _], _ => rfl),
    fd26,
    He5.fun_of (st := s_Table_sub) F26,
    ((He5.fun_of (st := s_Table_sub) F26).binds (ps := ["self", "other"]) fun _ _ _ _ _ _ us hl => match us, hl with | [_, _], _ => rfl),
    fd27,
    He5.fun_of (st := s_Table_mul) F27,
    ((He5.fun_of (st := s_Table_mul) F27).binds (ps := ["self", "other"]) fun _ _ _ _ _ _ us hl => match us, hl with | [_, _], _ => rfl),
    fd28,
    He5.fun_of (st := s_Table_mirror) F28,
    ((He5.fun_of (st := s_Table_mirror) F28).binds (ps := ["self"]) fun _ _ _ _ _ _ us hl => match us, hl with | [_], _ => rfl),
    fd29,
    He5.fun_of (st := s_Table_trace) F29,
    ((He5.fun_of (st := s_Table_trace) F29).binds (ps := ["self"]) fun _ _ _ _ _ _ us hl => match us, hl with | [_], _ => rfl),
    fd30,
    He5.fun_of (st := s_Table_sent) F30,
    ((He5.fun_of (st := s_Table_sent) F30).binds (ps := ["self", "beam"]) fun _ _ _ _ _ _ us hl => match us, hl with | [_, _], _ => rfl),
    fd31,
    He5.fun_of (st := s_made_table) F31,
    ((He5.fun_of (st := s_made_table) F31).binds (ps := ["rows"]) fun _ _ _ _ _ _ us hl => match us, hl with | [_], _ => rfl),
    He.glo_ok X G (c.bool 11),
    fd32,
    He5.fun_of (st := s_check_lengths) F32,
    ((He5.fun_of (st := s_check_lengths) F32).binds (ps := ["one", "other"]) fun _ _ _ _ _ _ us hl => match us, hl with | [_, _], _ => rfl),
    He.glo_ok X G (c.bool 12),
    fd33,
    He5.fun_of (st := s_items_of_both) F33,
    ((He5.fun_of (st := s_items_of_both) F33).binds (ps := ["one", "other"]) fun _ _ _ _ _ _ us hl => match us, hl with | [_, _], _ => rfl),
    He.glo_ok X G (c.bool 13),
    fd34,
    He5.fun_of (st := s_cell) F34,
    ((He5.fun_of (st := s_cell) F34).binds (ps := ["_law_script", "_law_k"]) fun _ _ _ _ _ _ us hl => match us, hl with | [_, _], _ => rfl),
    He.glo_ok X G (c.bool 14),
    fd35,
    He5.fun_of (st := s_box) F35,
    ((He5.fun_of (st := s_box) F35).binds (ps := ["_law_script", "_law_k"]) fun _ _ _ _ _ _ us hl => match us, hl with | [_, _], _ => rfl),
    He.glo_ok X G (c.bool 15),
    fd36,
    He5.fun_of (st := s_take) F36,
    ((He5.fun_of (st := s_take) F36).binds (ps := ["_law_box_here", "_law_many"]) fun _ _ _ _ _ _ us hl => match us, hl with | [_, _], _ => rfl),
    He.glo_ok X G (c.bool 16),
    fd37,
    He5.fun_of (st := s_frac) F37,
    ((He5.fun_of (st := s_frac) F37).binds (ps := ["_law_up", "_law_down"]) fun _ _ _ _ _ _ us hl => match us, hl with | [_, _], _ => rfl),
    He.glo_ok X G (c.bool 17),
    fd38,
    He5.fun_of (st := s_plus) F38,
    ((He5.fun_of (st := s_plus) F38).binds (ps := ["_law_x", "_law_y"]) fun _ _ _ _ _ _ us hl => match us, hl with | [_, _], _ => rfl),
    He.glo_ok X G (c.bool 18),
    fd39,
    He5.fun_of (st := s_times) F39,
    ((He5.fun_of (st := s_times) F39).binds (ps := ["_law_x", "_law_y"]) fun _ _ _ _ _ _ us hl => match us, hl with | [_, _], _ => rfl),
    He.glo_ok X G (c.bool 19),
    fd40,
    He5.fun_of (st := s_minus) F40,
    ((He5.fun_of (st := s_minus) F40).binds (ps := ["_law_x", "_law_y"]) fun _ _ _ _ _ _ us hl => match us, hl with | [_, _], _ => rfl),
    He.glo_ok X G (c.bool 20),
    fd41,
    He5.fun_of (st := s_number) F41,
    ((He5.fun_of (st := s_number) F41).binds (ps := ["_law_box_here", "_law_most"]) fun _ _ _ _ _ _ us hl => match us, hl with | [_, _], _ => rfl),
    He.glo_ok X G (c.bool 21),
    fd42,
    He5.fun_of (st := s_handed) F42,
    ((He5.fun_of (st := s_handed) F42).binds (ps := ["_law_x", "_law_box_here"]) fun _ _ _ _ _ _ us hl => match us, hl with | [_, _], _ => rfl),
    He.glo_ok X G (c.bool 22),
    fd43,
    He5.fun_of (st := s_told) F43,
    ((He5.fun_of (st := s_told) F43).binds (ps := ["_law_amount"]) fun _ _ _ _ _ _ us hl => match us, hl with | [_], _ => rfl),
    He.glo_ok X G (c.bool 23),
    fd44,
    He5.fun_of (st := s_times_tables) F44,
    ((He5.fun_of (st := s_times_tables) F44).binds (ps := ["_law_one", "_law_other"]) fun _ _ _ _ _ _ us hl => match us, hl with | [_, _], _ => rfl),
    He.glo_ok X G (c.bool 24),
    fd45,
    He5.fun_of (st := s_added) F45,
    ((He5.fun_of (st := s_added) F45).binds (ps := ["_law_one", "_law_other", "_law_factor"]) fun _ _ _ _ _ _ us hl => match us, hl with | [_, _, _], _ => rfl),
    He.glo_ok X G (c.bool 25),
    fd46,
    He5.fun_of (st := s_unit) F46,
    ((He5.fun_of (st := s_unit) F46).binds (ps := ["_law_size"]) fun _ _ _ _ _ _ us hl => match us, hl with | [_], _ => rfl),
    He.glo_ok X G (c.bool 26),
    fd47,
    He5.fun_of (st := s_flipped) F47,
    ((He5.fun_of (st := s_flipped) F47).binds (ps := ["_law_rows_here"]) fun _ _ _ _ _ _ us hl => match us, hl with | [_], _ => rfl),
    He.glo_ok X G (c.bool 27),
    fd48,
    He5.fun_of (st := s_sent) F48,
    ((He5.fun_of (st := s_sent) F48).binds (ps := ["_law_rows_here", "_law_beam"]) fun _ _ _ _ _ _ us hl => match us, hl with | [_, _], _ => rfl),
    He.glo_ok X G (c.bool 28),
    fd49,
    He5.fun_of (st := s_trace) F49,
    ((He5.fun_of (st := s_trace) F49).binds (ps := ["_law_rows_here"]) fun _ _ _ _ _ _ us hl => match us, hl with | [_], _ => rfl),
    He.glo_ok X G (c.bool 29),
    fd50,
    He5.fun_of (st := s_rows) F50,
    ((He5.fun_of (st := s_rows) F50).binds (ps := ["_law_table_here"]) fun _ _ _ _ _ _ us hl => match us, hl with | [_], _ => rfl),
    He.glo_ok X G (c.bool 30),
    fd51,
    He5.fun_of (st := s_table) F51,
    ((He5.fun_of (st := s_table) F51).binds (ps := ["_law_rows_here"]) fun _ _ _ _ _ _ us hl => match us, hl with | [_], _ => rfl),
    He.glo_ok X G (c.bool 31),
    fd52,
    He5.fun_of (st := s_drawn) F52,
    ((He5.fun_of (st := s_drawn) F52).binds (ps := ["_law_box_here", "_law_size"]) fun _ _ _ _ _ _ us hl => match us, hl with | [_, _], _ => rfl),
    He.glo_ok X G (c.bool 32),
    fd53,
    He5.fun_of (st := s_refused) F53,
    ((He5.fun_of (st := s_refused) F53).binds (ps := ["_law_rows_here"]) fun _ _ _ _ _ _ us hl => match us, hl with | [_], _ => rfl),
    He.glo_ok X G (c.bool 33),
    fd54,
    He5.fun_of (st := s_unlike) F54,
    ((He5.fun_of (st := s_unlike) F54).binds (ps := ["_law_one", "_law_other"]) fun _ _ _ _ _ _ us hl => match us, hl with | [_, _], _ => rfl),
    He.glo_ok X G (c.bool 34),
    fd55,
    He5.fun_of (st := s_no_beam) F55,
    ((He5.fun_of (st := s_no_beam) F55).binds (ps := ["_law_table_here", "_law_row"]) fun _ _ _ _ _ _ us hl => match us, hl with | [_, _], _ => rfl),
    He.glo_ok X G (c.bool 35),
    fd56,
    He5.fun_of (st := s_errors) F56,
    ((He5.fun_of (st := s_errors) F56).binds (ps := ["_law_box_here", "_law_table_here", "_law_size"]) fun _ _ _ _ _ _ us hl => match us, hl with | [_, _, _], _ => rfl),
    He.glo_ok X G (c.bool 36),
    fd57,
    He5.fun_of (st := s_law) F57,
    ((He5.fun_of (st := s_law) F57).binds (ps := ["_law_script"]) fun _ _ _ _ _ _ us hl => match us, hl with | [_], _ => rfl),
    He.glo_ok X G (c.bool 37),
    He.free_ok X G (c.bool 38),
    He.free_ok X G (c.bool 39),
    He.free_ok X G (c.bool 40),
    He.free_ok X G (c.bool 41),
    He.free_ok X G (c.bool 42),
    He.free_ok X G (c.bool 43),
    He.free_ok X G (c.bool 44),
    He.free_ok X G (c.bool 45),
    He.free_ok X G (c.bool 46),
    He.free_ok X G (c.bool 47),
    He.free_ok X G (c.bool 48),
    He.free_ok X G (c.bool 49),
    He.free_ok X G (c.bool 50),
    He.free_ok X G (c.bool 51),
    He.free_ok X G (c.bool 52),
    He.free_ok X G (c.bool 53),
    He.free_ok X G (c.bool 54),
    FoZ.imp_ok X G (c.bool 55),
    FoZ.imp_ok X G (c.bool 56),
    He.glo_ok X G (c.bool 57),
    He.cls_ok (c.bool 58),
    He.noat_ok (c.bool 59),
    He.noat_ok (c.bool 60),
    He.mkr_ok (c.bool 61),
    FoZ.prop_ok (c.bool 62),
    FoZ.prop_ok (c.bool 63),
    FoB.bin_add (c.bool 64),
    FoB.bin_sub (c.bool 65),
    FoB.bin_mul (c.bool 66),
    FoB.cmp_eq (c.bool 67),
    He.meth_ok (c.bool 68),
    FoB.isi_ok (c.bool 69),
    He.glo_ok X G (c.bool 70),
    FoB.oerr_ok (c.bool 71),
    He.glo_ok X G (c.bool 72),
    He.cls_ok (c.bool 73),
    He.noat_ok (c.bool 74),
    He.mkr_ok (c.bool 75),
    FoB.isi_ok (c.bool 76),
    He.meth_ok (c.bool 77),
    He.meth_ok (c.bool 78),
    He.meth_ok (c.bool 79),
    He.meth_ok (c.bool 80),
    He.meth_ok (c.bool 81),
    FoB.bin_add (c.bool 82),
    FoB.bin_sub (c.bool 83),
    FoB.bin_mul (c.bool 84),
    FoB.cmp_eq (c.bool 85),
    of_decide_eq_true (c.bool 86),
    of_decide_eq_true (c.bool 87),
    of_decide_eq_true (c.bool 88),
    of_decide_eq_true (c.bool 89),
    He.int_ok X G (c.bool 90),
    FoD.cread_ok (c.bool 91),
    FoD.cmet_ok (c.bool 92),
    He.glo_ok X G (c.bool 93),
    FoB.err_ok (c.bool 94),
    He.glo_ok X G (c.bool 95),
    FoB.err_ok (c.bool 96),
    He.glo_ok X G (c.bool 97),
    FoB.err_ok (c.bool 98)⟩⟩
end Fo

set_option maxHeartbeats 4100000
/-! repr of scalars, and of lists and tuples of scalars, whatever is under way below. -/
namespace FoR
open PySem PySem.Spec PyProof.Rows L2
/-- what stands below may be taken as known -/
theorem wpAny_guards {α : Type} {M : Model} {A : Around} {t : Sem α} {Q : α → Shared → Prop} {E : Value → Shared → Prop} {s : Shared} (h : ∀ g, wpAny M { A with guards := some g } t Q E s) : wpAny M A t Q E s :=
  fun Γ p hΓ => h (Γ.code.guards ++ guardsOf Γ.below) Γ p ⟨hΓ.1, hΓ.2.1, hΓ.2.2.1, fun g hgd => Option.some.inj hgd, hΓ.2.2.2.2⟩
abbrev gd (X : Cx) (g : List Code) : Cx := { X with A := { X.A with guards := some g } }
section
variable {X : Cx} {pz : List (Addr × Obj)} {τ : L2.St} {H : Hp} {s : Shared} {g : List Code}
theorem ok_gd (okx : X.Ok) : (gd X g).Ok :=
  ⟨okx.mod, okx.kind, okx.glob, okx.blt, okx.above, okx.inj, okx.has, okx.cab, okx.hd, okx.frames, okx.stk, okx.exf, okx.bs, okx.bsz, okx.noex, okx.exfs, okx.funs, okx.frf⟩
theorem inv_gd (I : Inv X pz τ H s) : Inv (gd X g) pz τ H s :=
  ⟨ok_gd I.ok, I.os, I.bare, I.base, I.loc, I.cell, I.free, I.freeC, I.pin, I.hok, I.len⟩
theorem inv_of {okx : X.Ok} (I : Inv (gd X g) pz τ H s) : Inv X pz τ H s :=
  ⟨okx, I.os, I.bare, I.base, I.loc, I.cell, I.free, I.freeC, I.pin, I.hok, I.len⟩
theorem pe_gd {e : Expr} {t : List Code → TE} (h : ∀ g, PE (gd X g) e (t g)) : PE X e (fun τ H Q => ∀ g, t g τ H Q) := by
  refine ⟨fun pz s τ H Q I q => wpAny_guards fun g => ?_⟩
  refine wpAny_mono ((h g).run pz s τ H Q (inv_gd I) (q g)) (fun u s' z => ?_) fun _ _ z => z
  obtain ⟨v, H', I', r, q'⟩ := z
  exact ⟨v, H', inv_of (okx := I.ok) I', r, q'⟩
end
/-! ### texts -/
def scText : V → Str
  | .non => "None"
  | .bl b => if b then "True" else "False"
  | .int i => toString i
  | .str x => reprText x
  | _ => "?"
inductive Sc : V → Prop where
  | non : Sc .non
  | bl (b : Bool) : Sc (.bl b)
  | int (i : Int) (h : i.natAbs.log2 < 1920) : Sc (.int i)
  | str (x : Str) (h : (reprText x).length ≤ sizeLine) : Sc (.str x)
def lstF (self : Value) : Code × Pos → Bool := fun
  | (.builtin "list.__repr__.loop" ⟨v :: _, _⟩, _) => Builtin.List.listSameRef v self
  | _ => false
theorem lstF_cons (self : Value) (id : String) (v : Value) (rest : List Value) (kw : List (Str × Value)) (p : Pos) : lstF self (.builtin id ⟨v :: rest, kw⟩, p) = (decide (id = "list.__repr__.loop") && Builtin.List.listSameRef v self) := by
  by_cases h : id = "list.__repr__.loop"
  · subst h
    simp [lstF]
  · simp only [h, decide_false, Bool.false_and]
    unfold lstF
    split <;> simp_all
theorem lstF_nil (self : Value) (id : String) (kw : List (Str × Value)) (p : Pos) : lstF self (.builtin id ⟨[], kw⟩, p) = false := by
  unfold lstF
  split <;> simp_all
theorem lstF_pos (self : Value) (c : Code) (p : Pos) : lstF self (c, p) = lstF self (c, default) := by
  cases c with
  | builtin id args =>
    obtain ⟨pos, kw⟩ := args
    cases pos with
    | nil => rw [lstF_nil, lstF_nil]
    | cons v rest => rw [lstF_cons, lstF_cons]
  | _ => rfl
theorem lstF_off (self : Value) (c : Code) (p : Pos) (hcc : c.isGuard = false) : lstF self (c, p) = false := by
  cases c with
  | builtin id args =>
    obtain ⟨pos, kw⟩ := args
    cases pos with
    | nil => exact lstF_nil _ _ _ _
    | cons v rest =>
      simp [Code.isGuard, guardIds] at hcc
      rw [lstF_cons]
      simp [hcc]
  | _ => rfl
def way (f : Code × Pos → Bool) (g : List Code) : Bool := g.any fun c => f (c, default)
/-- what repr tells, g what is under way below -/
def seqText (g : List Code) (a : Addr) : HO → Str
  | .lst xs => if xs = [] then "[]" else if way (lstF (.ref a)) g then "[...]" else listText (xs.map scText)
  | .tup xs => if way (tupGuardF (.ref a)) g then "(...)" else tupleText (xs.map scText)
  | .dK _ => if way (dictGuardF (.ref a)) g then "{...}" else "{}"
  | _ => "?"
def repText (g : List Code) (H : Hp) : V → Str
  | .ref a => match H a with
    | some o => seqText g a o
    | none => "?"
  | v => scText v
inductive Sho (H : Hp) : V → Prop where
  | sc {v : V} (h : Sc v) : Sho H v
  | lst {a : Addr} {xs : List V} (e : H a = some (.lst xs)) (h : ∀ y ∈ xs, Sc y) (z : (listText (xs.map scText)).length ≤ sizeLine) : Sho H (.ref a)
  | tup {a : Addr} {xs : List V} (e : H a = some (.tup xs)) (h : ∀ y ∈ xs, Sc y) (z : (tupleText (xs.map scText)).length ≤ sizeLine) : Sho H (.ref a)
  | dic {a : Addr} (e : H a = some (.dK [])) : Sho H (.ref a)
theorem sc_is {prog : Program} {w : World} {v : V} {u : Value} (h : Sc v) (r : RelV v u) : ReprIs prog w u (scText v) := by
  cases h with
  | non => cases r; exact ReprIs.none
  | bl b => cases r; exact ReprIs.bool b
  | int i z => obtain ⟨t, rfl⟩ := r; exact ReprIs.int t z
  | str x z => obtain ⟨t, rfl⟩ := r; exact ReprIs.str x t z
theorem sc_all {prog : Program} {w : World} : ∀ {l : List V} {its : List Value}, Vals l its → (∀ y ∈ l, Sc y) → ReprAll prog w its (l.map scText)
  | [], _, r, _ => by
    cases r
    exact .nil
  | y :: l, _, r, h => by
    cases r with
    | cons r1 r2 => exact .cons (sc_is (h y List.mem_cons_self) r1) (sc_all r2 fun z hz => h z (List.mem_cons_of_mem _ hz))
theorem all_item {prog : Program} {w : World} : ∀ {l : List V} {its : List Value}, Vals l its → (∀ y ∈ l, Sc y) → ∀ (i : Nat) (y : Value), its.toArray[i]? = some y → ∃ t, (l.map scText)[i]? = some t ∧ ReprIs prog w y t
  | _, _, .nil, _, i, y, e => by simp at e
  | x :: l, _, .cons r1 r2, h, 0, y, e => by
    simp at e
    subst e
    exact ⟨_, rfl, sc_is (h x List.mem_cons_self) r1⟩
  | x :: l, _, .cons r1 r2, h, i + 1, y, e => by
    obtain ⟨t, e1, e2⟩ := all_item r2 (fun z hz => h z (List.mem_cons_of_mem _ hz)) i y (by simpa using e)
    exact ⟨t, by simpa using e1, e2⟩
section
variable {prog : Program} {w : World} {A : Around} {E : Value → Shared → Prop} {s : Shared} {a : Addr} {o : Obj} {g : List Code}
theorem list_in {x : Value} {l : List Value} {n : Nat} {Q : Value → Shared → Prop} (hTy : s.TypeIs (.ref a) "list") (hgd : A.guards = some g) (hrun : way (lstF (.ref a)) g = true) (hat : s.heap.get? a = some o) (hd : o.data = .seq (x :: l).toArray n)
    (hQ : ∀ u tk, Q (.str "[...]" u) { s with toks := tk }) : wpAny (model prog w) A (call (.builtin "list.__repr__") [.ref a]) Q E s := by
  refine wpAny_call (codeAny_call_builtin_own (Code.quiet_builtin _ (by decide +kernel)) F.entry_list_repr (F.slot_list_repr.check _ _ _ _ _ _ _ _ hTy (F.args_list_repr_1 _) ?_))
  intro Γ p hcc hΓ
  show Sem.wp (model prog w) Γ (Builtin.listReprAt 0 ⟨[.ref a], []⟩) _ _ p s
  unfold Builtin.listReprAt
  have e : Γ.below.any (lstF (.ref a)) = true := by
    rw [PySem.any_eq_guards (lstF_off _) (lstF_pos _), hΓ.2.2.2.1 g hgd]
    exact hrun
  simp [slotArgs, Builtin.List.listItems, seqItems?, Sem.wp_load_of (h := hat), hd, stack]
  show Sem.wp (model prog w) Γ (if (Γ.below.any (lstF (.ref a))) = true then _ else _) _ _ p s
  rw [if_pos e]
  simp [rule, retStr, ret]
  exact (PySem.wpAny_mkStr (A := A.under Γ.code) (hQ _ _) (by decide +kernel)) Γ p hΓ.in
theorem dict_in {n : Nat} {Q : Value → Shared → Prop} (hs : (a == sysModules) = false) (hgd : A.guards = some g) (hat : s.heap.get? a = some o) (hcc : o.cls = .type "dict") (hd : o.data = .dict #[] n)
    (hQ : ∀ u tk, Q (.str (if way (dictGuardF (.ref a)) g then "{...}" else "{}") u) { s with toks := tk }) : wpAny (model prog w) A (call (.builtin "dict.__repr__") [.ref a]) Q E s := by
  have hTy : s.TypeIs (.ref a) "dict" := ⟨o, hat, hcc⟩
  refine wpAny_call (codeAny_call_builtin_own (Code.quiet_builtin _ (by decide +kernel)) F.entry_dict_repr (F.slot_dict_repr.check _ _ _ _ _ _ _ _ hTy (F.args_dict_repr_1 _) ?_))
  show wpOwn (model prog w) A _ (Builtin.dictReprAt 0 ⟨[.ref a], []⟩) _ _ s
  unfold Builtin.dictReprAt
  refine wpOwn_bind (wpOwn_of_wpAny ?_); unfold Builtin.Dict.dictSlotNone
  refine wpAny_bind (wpAny_notOrdered_dict hTy ?_); show wpAny _ _ (pure (Value.ref a)) _ _ s
  refine wpAny_pure ?_
  rw [dictReprRunning_eq]
  refine wpOwn_bind (wpOwn_stackTailAny hgd (dictGuardF_off _) (dictGuardF_pos _) ?_)
  show wpOwn _ _ _ (if way (dictGuardF (.ref a)) g = true then _ else _) _ _ s
  cases hw : way (dictGuardF (.ref a)) g with
  | true =>
    rw [hw] at hQ
    rw [if_pos rfl]
    refine wpOwn_of_wpAny (wpAny_bind (wpAny_rule (wpAny_bind (wpAny_mkStr (wpAny_pure ?_) (by decide +kernel)))))
    exact hQ _ _
  | false =>
    rw [hw] at hQ
    rw [if_neg Bool.false_ne_true]; refine wpOwn_of_wpAny ?_
    show wpAny _ _ (Builtin.Dict.addrOf (.ref a) >>= _) _ _ s; refine wpAny_bind (wpAny_pure ?_)
    show wpAny _ _ (Builtin.Dict.showsAll a >>= _) _ _ s; unfold Builtin.Dict.showsAll
    rw [if_neg (by rw [hs]; exact Bool.false_ne_true)]
    refine wpAny_bind (wpAny_pure ?_); refine wpAny_bind (wpAny_dictEpoch hat hd ?_)
    refine wpAny_bind (wpAny_dictEntries hat hd ?_)
    refine wpAny_bind ?_
    show wpAny _ _ (forIn [0:0] _ _) _ _ s
    rw [Std.Legacy.Range.forIn_eq_forIn_range']; simp only [Std.Legacy.Range.size, Nat.sub_zero, Nat.add_sub_cancel, Nat.div_one, List.range'_zero]
    refine wpAny_pure ?_
    refine wpAny_bind (wpAny_mkStr (wpAny_pure ?_) (by decide +kernel)); exact hQ _ _
theorem tup_in {items : Array Value} {n : Nat} {ts : List Str} {Q : Value → Shared → Prop} (hTy : s.TypeIs (.ref a) "tuple") (hgd : A.guards = some g) (hat : s.heap.get? a = some o) (hd : o.data = .seq items n) (hTp : ReprAll prog w items.toList ts)
    (hsz : (tupleText ts).length ≤ sizeLine) (hQ : ∀ u tk, Q (.str (if way (tupGuardF (.ref a)) g then "(...)" else tupleText ts) u) { s with toks := tk }) : wpAny (model prog w) A (call (.builtin "tuple.__repr__") [.ref a]) Q E s := by
  refine wpAny_call (codeAny_call_builtin_own (Code.quiet_builtin _ (by decide +kernel)) F.entry_tuple_repr (F.slot_tuple_repr.check _ _ _ _ _ _ _ _ hTy (F.args_tuple_repr_1 _) ?_))
  show wpOwn (model prog w) A _ (Builtin.tupleReprAt 0 ⟨[.ref a], []⟩) _ _ s
  rw [tuple_repr_tree, tupleReprUnderWay_eq]; refine wpOwn_bind (wpOwn_stackTailAny hgd (tupGuardF_off _) (tupGuardF_pos _) ?_)
  show wpOwn _ _ _ (if way (tupGuardF (.ref a)) g = true then _ else _) _ _ s
  cases hw : way (tupGuardF (.ref a)) g with
  | true =>
    rw [hw] at hQ
    rw [if_pos rfl]
    refine wpOwn_of_wpAny (wpAny_bind (wpAny_rule (wpAny_bind (wpAny_mkStr (wpAny_pure ?_) (by decide +kernel)))))
    exact hQ _ _
  | false =>
    rw [hw] at hQ
    rw [if_neg Bool.false_ne_true]; exact wpOwn_of_wpAny (wpAny_tupleReprRest hat hd hTp (fun u tk => hQ u tk) (by omega))
end
theorem seq_lst {g : List Code} {a : Addr} {y : V} {ys : List V} : seqText g a (.lst (y :: ys)) = if way (lstF (.ref a)) g then ("[...]" : Str) else listText ((y :: ys).map scText) := by
  show (if (y :: ys) = [] then ("[]" : Str) else if way (lstF (.ref a)) g then ("[...]" : Str) else listText ((y :: ys).map scText)) = _
  rw [if_neg (by simp)]
section
variable {X : Cx} {g : List Code}
theorem call_rep (hgd : X.A.guards = some g) (hu : X.A.units + 1 < cLine) : CallR X (.builtin "repr") (fun xs H Q => ∃ v, xs = [v] ∧ Sho H v ∧ Q (.str (repText g H v)) H) := by
  intro pz s τ H xs us Q I r h
  obtain ⟨v, rfl, hs, q⟩ := h
  obtain ⟨u, rfl, rv0⟩ := vals1 r
  cases hs with
  | sc hv =>
    cases hv with
    | non =>
      cases rv0
      exact PySem.P.repr_of_none ⟨.str _, H, I.tok _, ⟨_, rfl⟩, q⟩
    | bl b =>
      cases rv0
      exact PySem.P.repr_of_bool ⟨.str _, H, I.tok _, ⟨_, rfl⟩, q⟩
    | int i z =>
      obtain ⟨t, rfl⟩ := rv0
      exact PySem.P.repr_of_int z ⟨.str _, H, I.tok _, ⟨_, rfl⟩, q⟩
    | str x z =>
      obtain ⟨t, rfl⟩ := rv0
      exact PySem.P.repr_of_str ⟨.str _, H, I.tok _, ⟨_, rfl⟩, q⟩ z
  | @lst a ys e hy z =>
    cases rv0
    obtain ⟨_, its, n, rv, ho⟩ := (show ObjOk X.prog X.w H s.heap a (.lst ys) from I.hok a _ e)
    have hTp : s.TypeIs (.ref a) "list" := ⟨_, ho, rfl⟩
    have qt : repText g H (.ref a) = seqText g a (.lst ys) := by
      show (match H a with | some o => seqText g a o | none => "?") = _
      rw [e]
    rw [qt] at q
    refine call_repr_slot hu hTp F.slot_list_repr.toG ?_
    cases rv with
    | nil => exact call_list_repr_empty hTp ho rfl ⟨_, _, rfl, .str _, H, I.tok _, ⟨_, rfl⟩, q⟩
    | @cons y u0 ys us r1 r2 =>
      rw [seq_lst] at q
      cases hw : way (lstF (.ref a)) g with
      | true =>
        rw [hw, if_pos rfl] at q
        exact list_in (A := X.A.in1) hTp hgd hw ho rfl fun u tk => ⟨_, _, rfl, .str _, H, I.tok _, ⟨_, rfl⟩, q⟩
      | false =>
        rw [hw, if_neg Bool.false_ne_true] at q
        refine call_list_repr (A := X.A.in1) (ts := (y :: ys).map scText) hTp hgd (fun v rest kw hm => ?_) ho rfl (by simpa using (Vals.length r2)) (fun i x hx => all_item (.cons r1 r2) hy i x hx)
          (fun h' u tk hk => ⟨_, _, rfl, .str _, H, I.kept hk, ⟨_, rfl⟩, q⟩) z
        have z1 := List.any_eq_false.mp (show (g.any fun c => lstF (.ref a) (c, default)) = false from hw) _ hm
        rw [lstF_cons] at z1
        simpa using z1
  | @tup a ys e hy z =>
    cases rv0
    obtain ⟨_, its, rv, o, ho, hcc, n, hd⟩ := (show ObjOk X.prog X.w H s.heap a (.tup ys) from I.hok a _ e)
    have hTp : s.TypeIs (.ref a) "tuple" := ⟨_, ho, hcc⟩
    have qt : repText g H (.ref a) = seqText g a (.tup ys) := by
      show (match H a with | some o => seqText g a o | none => "?") = _
      rw [e]
    rw [qt] at q
    refine call_repr_slot hu hTp F.slot_tuple_repr ?_
    exact tup_in (A := X.A.in1) hTp hgd ho hd (sc_all rv hy) z fun u tk => ⟨_, _, rfl, .str _, H, I.tok _, ⟨_, rfl⟩, q⟩
  | @dic a e =>
    cases rv0
    obtain ⟨_, hs, vs, kv, o, es, ep, ho, hx, hd, hk, hp, hn⟩ := (show ObjOk X.prog X.w H s.heap a (.dK []) from I.hok a _ e)
    cases kv
    have e0 : es = #[] := by
      cases es with
      | mk l =>
        cases hp
        rfl
    subst e0
    have hTp : s.TypeIs (.ref a) "dict" := ⟨_, ho, hx.1⟩
    have qt : repText g H (.ref a) = seqText g a (.dK []) := by
      show (match H a with | some o => seqText g a o | none => "?") = _
      rw [e]
    rw [qt] at q
    refine call_repr_slot hu hTp F.slot_dict_repr ?_
    exact dict_in (A := X.A.in1) hs hgd ho hx.1 hd fun u tk => ⟨_, _, rfl, .str _, H, I.tok _, ⟨_, rfl⟩, q⟩
end
end FoR

set_option maxHeartbeats 4100000
/-! a != b where the class has an own __eq__ alone. -/
namespace FoN
open PySem PySem.Spec PyProof.Rows L2
section
variable {prog : Program} {w : World} {A : Around} {E : Value → Shared → Prop} {s : Shared} {K : PySem.W.Frag} {x C f : Addr} {ox : Obj} {od : Option Obj} {b : Value}
/-- object.__ne__ asks __eq__ -/
theorem ne_entry {Q : Fin → Shared → Prop} (hcl : A.units < cLine) (kin : K.In s.heap) (I : PySem.W.InstAt s.heap x ox C od) (he : PySem.W.findIn K (.ref C) "__eq__" = some (some (.ref f))) (hf : PySem.W.isFn K (.ref f) = true)
    (h : wpAny (model prog w) A (call (.ref f) [.ref x, b]) (fun v s' => ∃ c, v = .bool c ∧ Q (.done (.ret (.bool (!c)))) s') E s) : wpAny (model prog w) A (Builtin.«object.__ne__» ⟨[.ref x, b], []⟩) Q E s := by
  have ask : wpAny (model prog w) A (callSpecialIfBound? (.ref x) (Str.ofString "__eq__") [b]) (fun r s' => ∃ c, r = some (.bool c) ∧ Q (.done (.ret (.bool (!c)))) s') E s := by
    refine PySem.W.ifBound_K kin I he hf (wpAny_mono h (fun v s' z => ?_) fun _ _ z => z)
    obtain ⟨c, rfl, q⟩ := z
    exact ⟨c, rfl, q⟩
  unfold Builtin.«object.__ne__»; repeat (first
    | with_reducible refine wpAny_cRoomFor hcl ?_
    | (refine wpAny_bind (m := callSpecialIfBound? (.ref x) (Str.ofString "__eq__") [b]) (wpAny_mono ask (fun r s' z => ?_) fun _ _ z => z); obtain ⟨c, rfl, q⟩ := z)
    | exact q
    | exact wpAny_pure q
    | (refine wpAny_bind (m := truthy (.bool _)) (wpAny_truthy_bool ?_))
    | wp_step)
theorem try_ne {Q : Value → Shared → Prop} (hcl : A.units + 1 < cLine) (kin : K.In s.heap) (I : PySem.W.InstAt s.heap x ox C od) (hm : PySem.W.mroIn K C (.type "object") = some true) (hn : PySem.W.findIn K (.ref C) "__ne__" = some (some (.builtin "object.__ne__")))
    (he : PySem.W.findIn K (.ref C) "__eq__" = some (some (.ref f))) (hf : PySem.W.isFn K (.ref f) = true)
    (h : wpAny (model prog w) A.in1 (call (.ref f) [.ref x, b]) (fun v s' => ∃ c, v = .bool c ∧ Q (.bool (!c)) s') E s) : wpAny (model prog w) A (tryCompare (.ref x) "__ne__" b) (fun r s' => ∃ v, r = some v ∧ Q v s') E s := by
  have go : wpAny (model prog w) A (call (.builtin "object.__ne__") [.ref x, b]) (fun v s' => ∃ c, v = .bool c ∧ Q v s') E s := by
    refine wpAny_call (codeAny_call_builtin F.cmp_object.ne.plain F.cmpEntry_ne (PySem.W.check_slot F.cmpKind_ne F.cmpSplit_ne (I.type.andThen (PySem.W.looks_mroIn kin hm)) (F.cmpArgs_ne _ _) ?_))
    refine ne_entry (A := A.in1) hcl kin I he hf (wpAny_mono h (fun v s' z => ?_) fun _ _ z => z)
    obtain ⟨c, rfl, q⟩ := z
    exact ⟨c, rfl, _, rfl, q⟩
  have back : wpAny (model prog w) A (call (.builtin "object.__ne__") ([.ref x] ++ [b]) >>= fun v => pure (some v)) (fun r s' => ∃ c, r = some (.bool c) ∧ Q (.bool c) s') E s := by
    refine wpAny_bind (wpAny_mono go (fun v s' z => ?_) fun _ _ z => z)
    obtain ⟨c, rfl, q⟩ := z
    exact wpAny_pure ⟨c, rfl, q⟩
  unfold tryCompare
  have ask : wpAny (model prog w) A (callSpecialIfBound? (.ref x) "__ne__" [b]) (fun r s' => ∃ c, r = some (.bool c) ∧ Q (.bool c) s') E s := by
    unfold callSpecialIfBound? bindSpecialIfBound?
    refine wpAny_holding (wpAny_bind (wpAny_bind (wpAny_bind (I.type.here ((PySem.W.looks_findIn kin hn).here ?_)))))
    refine wpAny_bind (wpAny_askSetting (wpAny_ite ?_)); split
    · exact wpAny_bind (wpAny_of_eq (F.cmp_object.ne.bind _) (wpAny_pure (by exact back)))
    · exact wpAny_tryCatch (wpAny_bind (wpAny_of_eq (F.cmp_object.ne.bind _) (wpAny_pure (by exact back))))
  refine wpAny_bind (wpAny_mono ask (fun r s' z => ?_) fun _ _ z => z)
  obtain ⟨c, rfl, q⟩ := z
  exact wpAny_pure ⟨_, rfl, q⟩
end
section
variable {X : Cx} {CX : CXT} {k : Nat} {f C : Addr} {fd : FuncData} {ps : List Str} {sp : Sp} {E : XK}
structure NeC (K : PySem.W.Frag) (C : Addr) : Prop where
  ne : PySem.W.findIn K (.ref C) "__ne__" = some (some (.builtin "object.__ne__"))
  ob : PySem.W.mroIn K C (.type "object") = some true
def neB (x : Str) (K : PySem.W.Frag) : Bool := He.eqO (PySem.W.findIn K (.ref (He.ga K x)) "__ne__") (some (some (.builtin "object.__ne__"))) && decide (PySem.W.mroIn K (He.ga K x) (.type "object") = some true)
theorem ne_ok {K : PySem.W.Frag} {x : Str} (h : neB x K = true) : NeC K (He.ga K x) := by
  obtain ⟨h1, h2⟩ := He.ba h
  exact ⟨He.eqO_ok h1, of_decide_eq_true h2⟩
/-- the callee runs a unit deeper -/
theorem run_in1 {pz : List (Addr × Obj)} {τ : L2.St} {H : Hp} {s : Shared} {Q : VK} {us : List Value} {vs : List V} (F : FnOk X.prog X.w X.K X.mg X.base CX k f fd ps sp) (hr : Room (k + 1) X.A) (hb : Binds X.K fd ps []) (hx : Passes CX X E)
    (I : Inv X pz τ H s) (r : Vals vs us) (h : sp vs H Q E) : wpAny (model X.prog X.w) X.A.in1 (call (.ref f) us) (EP X pz τ Q) X.xe s := by
  have hn : us.length = ps.length := by rw [← r.length]; exact F.len _ _ _ _ h
  have b := hb s us I.kIn (by rw [List.append_nil]; exact hn)
  rw [List.append_nil] at b
  have hr1 : Room k X.A.in1 := ⟨hr.hd, by have := hr.dp; show X.A.depth + 3 * k + 5 < _; omega, by have := hr.un; show X.A.units + 1 + 16 * k + 200 < _; omega⟩
  refine wpAny_call (codeAny_mono (F.run X.A.in1 X.stack s H ⟨us, []⟩ us vs Q E hr1 I.env0.in1 b r h) fun r s' hj => ?_)
  cases r with
  | error e => exact hx pz τ H s e s' I hj
  | ok fl =>
    cases fl with
    | ret u => exact I.after hj
    | next => exact False.elim hj
    | brk => exact False.elim hj
    | cont => exact False.elim hj
def rNe (C : Addr) (sp : Sp) (E : XK) : R2 := fun x y H Q => ∃ a dx fs i, x = .ref a ∧ H a = some (.ins C dx fs) ∧ y = .int i ∧ sp [x, y] H (fun v H' => ∃ b, v = .bl b ∧ Q (.bl (!b)) H') E
theorem op_neC (F : FnOk X.prog X.w X.K X.mg X.base CX k f fd ps sp) (hr : Room (k + 1) X.A) (hb : Binds X.K fd ps []) (hx : Passes CX X E) (B : FoA.CmpC X.K C f .Eq) (N : NeC X.K C) : OpR X (compareOp .NotEq) (rNe C sp E) := by
  intro pz s τ H x y v u Q I ra ry h
  obtain ⟨a, dx, fs, i, rfl, ea, rfl, q⟩ := h
  cases ra
  obtain ⟨t, rfl⟩ := ry
  obtain ⟨mA, Jx, _⟩ := ins_get I.hok ea
  obtain ⟨od, Jx, _⟩ := Jx.look
  have hcl : X.A.units + 1 < cLine := hu_of hr
  have kin := I.kIn
  have one : wpAny (model X.prog X.w) X.A (tryCompare (.ref a) "__ne__" (.int i t)) (fun r s' => ∃ z, r = some z ∧ EP X pz τ Q z s') X.xe s := by
    refine FoN.try_ne hcl kin Jx N.ob N.ne B.at_ B.fn ?_
    refine wpAny_mono (run_in1 (us := [.ref a, .int i t]) (vs := [.ref a, .int i]) F hr hb hx I (.cons rfl (.cons ⟨t, rfl⟩ .nil)) q) (fun r s' z => ?_) fun _ _ z => z
    obtain ⟨v, H', I', rv, b, rfl, q'⟩ := z
    cases rv
    exact ⟨b, rfl, .bl (!b), H', I', rfl, q'⟩
  show wpAny _ _ (richCompare .NotEq (.ref a) (.int i t)) _ _ _
  have sub := B.nt "int" (by simp)
  unfold richCompare
  simp only [oneThing_ref]
  refine wpAny_holding ?_
  refine wpAny_bind (wpAny_cRoomFor (Nat.lt_of_succ_lt hcl) ?_)
  refine wpAny_bind (Jx.type.here ?_)
  refine wpAny_bind ((PySem.W.Looks.of_pure (rfl : typeOf (.int i t) = pure (.type "int"))).here ?_)
  rw [if_pos (by simp)]
  refine wpAny_bind ((PySem.W.looks_subIn kin sub).here ?_)
  rw [if_neg Bool.false_ne_true]; refine wpAny_bind (wpAny_mono one (fun r s' z => ?_) fun _ _ z => z)
  obtain ⟨v, rfl, q'⟩ := z
  exact wpAny_pure q'
end
section
variable {K : PySem.W.Frag}
theorem int_add : PySem.W.findIn K (.type "int") (PySem.dunder (Operator.info .Add).2) = some (some (.builtin "int.__add__")) := by kernel_rfl
theorem int_addR : PySem.W.findIn K (.type "int") (dunderR (Operator.info .Add).2) = some (some (.builtin "int.__radd__")) := by kernel_rfl
theorem int_sub : PySem.W.findIn K (.type "int") (PySem.dunder (Operator.info .Sub).2) = some (some (.builtin "int.__sub__")) := by kernel_rfl
theorem int_subR : PySem.W.findIn K (.type "int") (dunderR (Operator.info .Sub).2) = some (some (.builtin "int.__rsub__")) := by kernel_rfl
theorem int_mul : PySem.W.findIn K (.type "int") (PySem.dunder (Operator.info .Mult).2) = some (some (.builtin "int.__mul__")) := by kernel_rfl
theorem int_mulR : PySem.W.findIn K (.type "int") (dunderR (Operator.info .Mult).2) = some (some (.builtin "int.__rmul__")) := by kernel_rfl
end
end FoN

set_option maxHeartbeats 4100000
/-! math.lcm of greater whole numbers. -/
namespace FoL
open PySem PySem.Spec PyProof.Rows L2 PySem.W
theorem log_div {n k : Nat} (h : n < 2 ^ k) (l : k ≤ 13000) : ¬ n.log2 / 30 + 1 > 450 := by
  have z : n.log2 ≤ k := by
    by_cases h0 : n = 0
    · subst h0
      rw [Nat.log2_zero]
      exact Nat.zero_le _
    · exact Nat.le_of_lt ((Nat.log2_lt h0).mpr h)
  omega
/-- lcm(a, b), a and b of at most 6,000 bits -/
def rLcm : List V → Hp → VK → Prop := fun vs H Q => ∃ a b : Int, vs = [.int a, .int b] ∧ a.natAbs < 2 ^ 6000 ∧ b.natAbs < 2 ^ 6000 ∧ Q (.int ((Nat.lcm a.natAbs b.natAbs : Nat) : Int)) H
theorem cr_lcm {X : Cx} : CallR X (.builtin "math.lcm") rLcm := by
  intro pz s τ H vs us Q I r h
  obtain ⟨a, b, rfl, ha, hb, q⟩ := h
  obtain ⟨t, u, rfl⟩ := Vals.int2 r
  have e : (Nat.lcm 1 a.natAbs).lcm b.natAbs = Nat.lcm a.natAbs b.natAbs := by rw [Nat.lcm_one_left]
  have p1 : 1 < 2 ^ 6000 := Nat.one_lt_two_pow (by decide)
  have hm : Nat.lcm a.natAbs b.natAbs < 2 ^ 12000 := by
    have z : Nat.lcm a.natAbs b.natAbs ≤ a.natAbs * b.natAbs := by
      unfold Nat.lcm
      exact Nat.div_le_self _ _
    have z2 : a.natAbs * b.natAbs < 2 ^ 6000 * 2 ^ 6000 := Nat.mul_lt_mul'' ha hb
    rw [← Nat.pow_add] at z2
    exact Nat.lt_of_le_of_lt z z2
  have m1 : max 1 a.natAbs < 2 ^ 6000 := Nat.max_lt.mpr ⟨p1, ha⟩
  have m2 : max a.natAbs b.natAbs < 2 ^ 6000 := Nat.max_lt.mpr ⟨ha, hb⟩
  have hsz : ((((Nat.lcm 1 a.natAbs).lcm b.natAbs : Nat) : Int)).natAbs.log2 < bitsLine := by
    rw [e, Int.natAbs_natCast]
    have z : (Nat.lcm a.natAbs b.natAbs).log2 ≤ 12000 := by
      by_cases h0 : Nat.lcm a.natAbs b.natAbs = 0
      · rw [h0, Nat.log2_zero]
        exact Nat.zero_le _
      · exact Nat.le_of_lt ((Nat.log2_lt h0).mpr hm)
    exact Nat.lt_of_le_of_lt z (by decide +kernel)
  refine call_function_meets MGF.kind_lcm MGF.plain_lcm MGF.entry_lcm (MGF.args_lcm _ _) (mg_run_lcm a t b u (log_div m1 (by decide)) (log_div m2 (by decide)) hsz).meets ?_
  rw [e]
  exact ⟨.int _, H, I.tok _, ⟨_, rfl⟩, q⟩
section
variable {X : Cx} {CX : CXT} {k : Nat} {f C D : Addr} {fd : FuncData} {ps : List Str} {sp : Sp} {E : XK}
/-- len(a), a of an own class with its own __len__ -/
def rLenO (C : Addr) (sp : Sp) (E : XK) : List V → Hp → VK → Prop := fun xs H Q => ∃ a dx fs, xs = [.ref a] ∧ H a = some (.ins C dx fs) ∧ sp [.ref a] H (fun v H' => ∃ n : Nat, v = .int n ∧ (n : Int) < 2 ^ 63 ∧ Q (.int n) H') E
theorem call_lenO (F : FnOk X.prog X.w X.K X.mg X.base CX k f fd ps sp) (hr : Room (k + 1) X.A) (hb : Binds X.K fd ps []) (hx : Passes CX X E) (h1 : PySem.W.findIn X.K (.ref C) "__len__" = some (some (.ref f))) (h2 : PySem.W.isFn X.K (.ref f) = true) :
    CallR X (.builtin "len") (rLenO C sp E) := by
  intro pz s τ H xs us Q I r h
  obtain ⟨a, dx, fs, rfl, ea, q⟩ := h
  obtain ⟨u, rfl, ru⟩ := vals1 r
  cases ru
  obtain ⟨mA, J, _⟩ := ins_get I.hok ea
  obtain ⟨od, J, _⟩ := J.look
  obtain ⟨m, hF⟩ := I.fr
  refine PySem.W.len_K hF I.ok.mod.kin J h1 h2 ?_
  refine wpAny_mono (FoN.run_in1 (us := [.ref a]) (vs := [.ref a]) F hr hb hx I (.cons rfl .nil) q) (fun v s' z => ?_) fun _ _ z => z
  obtain ⟨y, H', I', rv, n, rfl, n1, q'⟩ := z
  obtain ⟨t, rfl⟩ := rv
  exact ⟨⟨by omega, n1⟩, .int n, H', I'.tok _, ⟨_, rfl⟩, q'⟩
/-- a == b by an own method, b an object of another own class -/
def rCmpO (C D : Addr) (sp : Sp) (E : XK) : R2 := fun x y H Q => ∃ a dx fs b dy gs, x = .ref a ∧ H a = some (.ins C dx fs) ∧ y = .ref b ∧ H b = some (.ins D dy gs) ∧ sp [x, y] H Q E
theorem op_ownO {op : CmpOp} (F : FnOk X.prog X.w X.K X.mg X.base CX k f fd ps sp) (hr : Room k X.A) (hb : Binds X.K fd ps []) (hx : Passes CX X E) (B : FoA.CmpC X.K C f op) (no : PySem.W.subIn X.K (.ref D) (.ref C) = some false)
    (ho : ∀ v u : Value, compareOp op v u = richCompare op v u) : OpR X (compareOp op) (rCmpO C D sp E) := by
  intro pz s τ H x y v u Q I rx ry h
  obtain ⟨a, dx, fs, b, dy, gs, rfl, ea, rfl, eb, q⟩ := h
  cases rx
  cases ry
  rw [ho]
  obtain ⟨mA, J, _⟩ := ins_get I.hok ea
  obtain ⟨od, J, _⟩ := J.look
  obtain ⟨mB, J', _⟩ := ins_get I.hok eb
  obtain ⟨od', J', _⟩ := J'.look
  obtain ⟨m, hF⟩ := I.fr
  have go := run_fn (us := [.ref a, .ref b]) (vs := [.ref a, .ref b]) (dvs := []) F hr hb .nil hx I (.cons rfl (.cons rfl .nil)) (by simpa using q)
  have nf : PySem.W.notFirst X.K C (.ref D) = true := by
    unfold PySem.W.notFirst
    rw [no]
    exact Bool.or_eq_true_iff.mpr (.inr (beq_self_eq_true _))
  exact PySem.W.cmp_K hr.units0 hF I.ok.mod.kin J J'.type nf B.at_ B.fn (wpAny_mono go (fun r s' z => FoA.back_ok z) fun _ _ z => z)
end
end FoL

set_option maxHeartbeats 4100000
/-! xs[::-1] of a list. -/
namespace FoV
open PySem PySem.Spec PyProof.Rows L2
theorem fm_congr {α β : Type} {f k : α → Option β} : ∀ {l : List α}, (∀ x ∈ l, f x = k x) → l.filterMap f = l.filterMap k
  | [], _ => rfl
  | x :: l, h => by
    rw [List.filterMap_cons, List.filterMap_cons, h x List.mem_cons_self, fm_congr fun y hy => h y (List.mem_cons_of_mem _ hy)]
theorem all_items {α : Type} : ∀ ys : List α, (List.range ys.length).filterMap (fun i => ys[i]?) = ys
  | [] => rfl
  | y :: ys => by
    rw [List.length_cons, List.range_succ_eq_map, List.filterMap_cons, List.filterMap_map]
    exact congrArg (y :: ·) (all_items ys)
theorem back_items {α : Type} (its : List α) : (List.range its.length).filterMap (fun i => its[its.length - 1 - i]?) = its.reverse := by
  have e : (List.range its.length).filterMap (fun i => its[its.length - 1 - i]?) = (List.range its.length).filterMap (fun i => its.reverse[i]?) := by
    refine fm_congr fun i hi => ?_
    exact (List.getElem?_reverse (List.mem_range.mp hi)).symm
  rw [e]
  have z := all_items its.reverse
  rw [List.length_reverse] at z
  exact z
theorem pick_back (its : List Value) : slicePick its.toArray none none (some (-1)) = its.reverse.toArray := by
  unfold slicePick
  have e : sliceBounds none none (some (-1)) its.toArray.size = (((its.length : Nat) : Int) - 1, -1, -1) := by
    simp [sliceBounds]
  rw [e]
  show (List.filterMap _ (sliceRange (((its.length : Nat) : Int) - 1) (-1) (-1))).toArray = _
  congr 1
  have e2 : sliceRange (((its.length : Nat) : Int) - 1) (-1) (-1) = (List.range its.length).map fun i => its.length - 1 - i := by
    unfold sliceRange
    have c : (if (-1 : Int) > 0 then (if ((its.length : Nat) : Int) - 1 < -1 then (-1 - (((its.length : Nat) : Int) - 1) + -1 - 1) / -1 else 0) else (if ((its.length : Nat) : Int) - 1 > -1 then (((its.length : Nat) : Int) - 1 - -1 - -1 - 1) / (- -1) else 0)).toNat = its.length := by
      rw [if_neg (by decide)]
      split
      · rw [show (- -1 : Int) = 1 by decide, Int.ediv_one]
        omega
      · omega
    show (List.range (if (-1 : Int) > 0 then (if ((its.length : Nat) : Int) - 1 < -1 then (-1 - (((its.length : Nat) : Int) - 1) + -1 - 1) / -1 else 0) else (if ((its.length : Nat) : Int) - 1 > -1 then (((its.length : Nat) : Int) - 1 - -1 - -1 - 1) / (- -1) else 0)).toNat).map _ = _
    rw [c]
    refine List.map_congr_left fun i hi => ?_
    have := List.mem_range.mp hi
    omega
  rw [e2, List.filterMap_map]
  have z := back_items its
  refine Eq.trans (fm_congr fun i hi => ?_) z
  simp
def tRevL (K : PySem.W.Frag) (te ts : TE) : TE := fun τ H Q => te τ H fun x H1 => ts τ H1 fun y H2 => y = .int (-1) ∧ ∃ a xs, x = .ref a ∧ SqL K H2 a xs ∧ ∀ p, H2 p = none → Q (.ref p) (upd H2 p (.lst xs.reverse))
section
variable {X : Cx} {e st : Expr} {te ts : TE} {p2 pos : Pos}
theorem pe_revL (he : PE X e te) (hs : PE X st ts) : PE X (.Subscript e (.Slice none none (some st) p2) pos) (tRevL X.K te ts) := by
  refine ⟨fun pz s τ H Q I h => ?_⟩
  refine Subscript_ (thn (he.run pz s τ H _ I h) fun v s1 ⟨x, H1, I1, r1, q1⟩ => ?_)
  refine wpAny_Slice ?_
  rw [evalPart_none, evalPart_some]
  refine wpAny_pure (wpAny_pure (thn (hs.run pz s1 τ H1 _ I1 q1) fun w s3 ⟨y, H3, I3, ry, ey, a, xs, ex, hx, q⟩ => ?_))
  subst ey ex
  cases r1
  obtain ⟨t, rfl⟩ := ry
  have I4 : Inv X pz τ H3 { s3 with heap := s3.heap.push { cls := .type "slice", data := .fields #[Value.none, Value.none, .int (-1) t] } } := I3.kept (t' := s3.toks) fun b ob z => Heap.get?_push_of_some _ z
  obtain ⟨its, r, ht, hz⟩ := I4.list hx
  have hn := r.length
  have got : wpAny (model X.prog X.w) X.A (getItem (.ref a) (.ref s3.heap.objs.size)) (EP X pz τ Q) X.xe { s3 with heap := s3.heap.push { cls := .type "slice", data := .fields #[Value.none, Value.none, .int (-1) t] } } := by
    refine wpAny_getItem_list_slice ht.isList (Heap.IsSliceOf.new ..) .none .none (.int (-1) t) (by simp) ?_ (by rw [List.size_toArray] <;> omega)
    rw [pick_back]
    refine ⟨.ref _, _, I4.laid (t' := s3.toks) (o := .lst xs.reverse) (fun b ob z => Heap.get?_push_of_some _ z) (Nat.le_refl _) ?_, rfl, q _ (I4.hok.fresh (Nat.le_refl _))⟩
    exact ⟨by rw [List.length_reverse]; exact hz, its.reverse, 0, r.reverse, Heap.get?_push_size _ rfl⟩
  exact tail_any (ops := [.ref a, .ref s3.heap.objs.size]) ht.isList.typeIs slot_list_getitem.lookup got (by with_unfolding_all rfl)
end
/-- a comprehension over a text's signs -/
theorem lc_str {z : Str} {g : TG} {tt : TT} {te : TE} {vs : List Nat} {τ : L2.St} {H1 : Hp} {D : Addr} {Qd : Hp → Prop} (Pv : Nat → Hp → Prop) (h0 : Pv 0 (upd H1 D (.lst [])))
    (hs : ∀ i c H, z.cps[i]? = some c → Pv i H → g (.str ⟨#[c]⟩) (wipe τ vs) H fun σ2 H2 => wipe σ2 vs = wipe τ vs ∧ tt σ2 H2 fun b H3 =>
      if b = true then te σ2 H3 fun y H4 => ∃ acc, H4 D = some (.lst acc) ∧ acc.length < sizeLine ∧ Pv (i + 1) (upd H4 D (.lst (acc ++ [y]))) else Pv (i + 1) H3) (hd : ∀ H, Pv z.cps.size H → Qd H)  : ∃ W : Nat → Nat → Hp → Prop, (∃ m, W 0 m (upd H1 D (.lst []))) ∧ ∀ i m H, W i m H →
      ((Its z).stop i H ∧ Qd H) ∨ ((Its z).go i H ∧ ∃ Nx : Hp → Prop, (∀ H', Nx H' → ∃ m', m' < m ∧ W (i + 1) m' H') ∧ ∀ x H', (Its z).yld i H x H' → g x (wipe τ vs) H' fun σ2 H2 => wipe σ2 vs = wipe τ vs ∧ tt σ2 H2 fun b H3 => if b = true then te σ2 H3 fun y H4 => ∃ acc, H4 D = some (.lst acc) ∧ acc.length < sizeLine ∧ Nx (upd H4 D (.lst (acc ++ [y]))) else Nx H3) := by
  refine ⟨fun i m H => m = z.cps.size - i ∧ i ≤ z.cps.size ∧ Pv i H, ⟨z.cps.size, by simp, Nat.zero_le _, h0⟩, ?_⟩
  rintro i m H ⟨rfl, hi, p⟩
  by_cases lt : i < z.cps.size
  · refine .inr ⟨lt, Pv (i + 1), fun H' p' => ⟨z.cps.size - (i + 1), by omega, rfl, lt, p'⟩, fun x H' y => ?_⟩
    obtain ⟨e, c, ec, ex⟩ := y
    subst e ex
    exact hs i c _ ec p
  · have e : i = z.cps.size := by omega
    subst e
    exact .inl ⟨Nat.le_refl z.cps.size, hd H p⟩
/-- a list of one-sign texts -/
def chs (l : List Nat) : List PyData := l.map fun c => .str ⟨#[c]⟩
theorem sign_ok : ∀ c : Nat, c < 128 → PyData.canLay0 (.str ⟨#[c]⟩) = true := by decide +kernel
theorem chs_lay : ∀ l : List Nat, (∀ c ∈ l, c < 128) → PyData.canLayAll0 (chs l) = true ∧ PyData.depthAll (chs l) = 0
  | [], _ => ⟨rfl, rfl⟩
  | c :: l, h => by
    obtain ⟨h1, h2⟩ := chs_lay l fun d hd => h d (List.mem_cons_of_mem _ hd)
    constructor
    · show (PyData.canLay0 (.str ⟨#[c]⟩) && PyData.canLayAll0 (chs l)) = true
      rw [sign_ok c (h c List.mem_cons_self), h1]
      rfl
    · show max 0 (PyData.depthAll (chs l)) = 0
      rw [h2]
      rfl
theorem chs_shaped (l : List Nat) (h : ∀ c ∈ l, c < 128) : SeqAt.shaped (.list (chs l)) = true := by
  obtain ⟨h1, h2⟩ := chs_lay l h
  show (PyData.canLayAll0 (chs l) && decide (PyData.depthAll (chs l) + 1 ≤ 64)) = true
  rw [h1, h2]
  rfl
theorem chs_nil (l : List Nat) : PyData.eqv (.list (chs l)) (.list []) = decide (l = []) := by
  cases l with
  | nil => rfl
  | cons c r => rfl
theorem chs_dp {K : PySem.W.Frag} {H : Hp} : ∀ l : List Nat, DpAll K H (l.map fun c => V.str ⟨#[c]⟩) (chs l)
  | [] => .nil
  | c :: l => .cons (.str _) (chs_dp l)
end FoV

/-! Fractions as rational numbers; lists of them without zeros at the end; products of polynomials. Plain mathematics. -/
namespace FoQ
open FoM
/-! ### lowest terms -/
theorem den_pos (r : Rat) : (0 : Int) < r.den := by
  have := r.den_pos
  omega
theorem den_ne (r : Rat) : (r.den : Int) ≠ 0 := by
  have := den_pos r
  omega
theorem fr_rat {u d : Int} (h : d ≠ 0) : frN u d = (Rat.divInt u d).num ∧ frD u d = ((Rat.divInt u d).den : Int) := by
  have e : Rat.divInt (Rat.divInt u d).num (Rat.divInt u d).den = Rat.divInt u d := Rat.num_divInt_den _
  rw [Rat.divInt_eq_divInt_iff (den_ne _) h] at e
  have z := fr_eq (u := u) (d := d) (u' := (Rat.divInt u d).num) (d' := ((Rat.divInt u d).den : Int)) h (den_ne _) (by rw [e])
  have w := fr_low (a := (Rat.divInt u d).num) (b := ((Rat.divInt u d).den : Int)) (den_pos _) (by simpa using (Rat.divInt u d).reduced)
  rw [w.1, w.2] at z
  exact z
theorem fr_of {u d : Int} {r : Rat} (h : d ≠ 0) (e : Rat.divInt u d = r) : frN u d = r.num ∧ frD u d = (r.den : Int) := by
  rw [← e]
  exact fr_rat h
theorem q_add (x z : Rat) : Rat.divInt (x.num * z.den + z.num * x.den) (x.den * z.den) = x + z := by
  rw [← Rat.divInt_add_divInt _ _ (den_ne x) (den_ne z), Rat.num_divInt_den, Rat.num_divInt_den]
theorem q_sub (x z : Rat) : Rat.divInt (x.num * z.den - z.num * x.den) (x.den * z.den) = x - z := by
  rw [← Rat.divInt_sub_divInt _ _ (den_ne x) (den_ne z), Rat.num_divInt_den, Rat.num_divInt_den]
theorem q_mul (x z : Rat) : Rat.divInt (x.num * z.num) (x.den * z.den) = x * z := by
  rw [← Rat.divInt_mul_divInt, Rat.num_divInt_den, Rat.num_divInt_den]
theorem q_neg (x : Rat) : Rat.divInt (-x.num) x.den = -x := by
  rw [← Rat.neg_divInt, Rat.num_divInt_den]
theorem q_div (x z : Rat) : Rat.divInt (x.num * z.den) (x.den * z.num) = x / z := by
  rw [Rat.divInt_eq_div, Rat.intCast_mul, Rat.intCast_mul]
  have e1 : x = (x.num : Rat) / (x.den : Int) := by
    rw [← Rat.divInt_eq_div, Rat.num_divInt_den]
  have e2 : z = (z.num : Rat) / (z.den : Int) := by
    rw [← Rat.divInt_eq_div, Rat.num_divInt_den]
  have d1 : ((x.den : Int) : Rat) ≠ 0 := by
    intro h
    exact den_ne x (by exact_mod_cast h)
  have d2 : ((z.den : Int) : Rat) ≠ 0 := by
    intro h
    exact den_ne z (by exact_mod_cast h)
  generalize ((x.den : Int) : Rat) = xd at *
  generalize ((z.den : Int) : Rat) = zd at *
  generalize (x.num : Rat) = xn at *
  generalize (z.num : Rat) = zn at *
  subst e1 e2
  grind
theorem q_int (n : Int) : Rat.divInt n 1 = (n : Rat) := by
  rw [Rat.divInt_eq_div]
  show (n : Rat) / ((1 : Int) : Rat) = n
  rw [show ((1 : Int) : Rat) = 1 from rfl]
  grind
theorem q_eq_iff (x z : Rat) : (x.num = z.num ∧ (x.den : Int) = z.den) ↔ x = z := ⟨fun h => Rat.ext h.1 (by have := h.2; omega), fun h => by subst h; exact ⟨rfl, rfl⟩⟩
theorem q_lt (x z : Rat) : x < z ↔ x.num * z.den < z.num * x.den := Rat.lt_iff x z
theorem q_le (x z : Rat) : x ≤ z ↔ x.num * z.den ≤ z.num * x.den := Rat.le_iff x z
theorem num0 {x : Rat} : x.num = 0 ↔ x = 0 := Rat.num_eq_zero
/-! ### sizes -/
def SzR (n : Nat) (r : Rat) : Prop := Sz n r.num ∧ Sz n r.den
theorem SzR.mono {n m : Nat} {r : Rat} (h : SzR n r) (l : n ≤ m) : SzR m r := ⟨h.1.mono l, h.2.mono l⟩
theorem SzR.divInt {n : Nat} {u d : Int} (hd : d ≠ 0) (h : Sz n u) (g : Sz n d) : SzR n (Rat.divInt u d) := by
  obtain ⟨e1, e2⟩ := fr_rat (u := u) hd
  refine ⟨?_, ?_⟩
  · rw [← e1]
    exact h.le (frN_le hd)
  · rw [← e2]
    exact g.le (frD_le hd)
theorem SzR.add {n m : Nat} {x z : Rat} (h : SzR n x) (g : SzR m z) : SzR (n + m + 1) (x + z) := by
  rw [← q_add]
  refine SzR.divInt (Int.mul_ne_zero (den_ne x) (den_ne z)) ((h.1.mul g.2).add ?_) ((h.2.mul g.2).mono (Nat.le_succ _))
  have := g.1.mul h.2
  rw [Nat.add_comm] at this
  exact this
theorem SzR.sub {n m : Nat} {x z : Rat} (h : SzR n x) (g : SzR m z) : SzR (n + m + 1) (x - z) := by
  rw [← q_sub]
  refine SzR.divInt (Int.mul_ne_zero (den_ne x) (den_ne z)) ((h.1.mul g.2).sub ?_) ((h.2.mul g.2).mono (Nat.le_succ _))
  have := g.1.mul h.2
  rw [Nat.add_comm] at this
  exact this
theorem SzR.mul {n m : Nat} {x z : Rat} (h : SzR n x) (g : SzR m z) : SzR (n + m) (x * z) := by
  rw [← q_mul]
  exact SzR.divInt (Int.mul_ne_zero (den_ne x) (den_ne z)) (h.1.mul g.1) (h.2.mul g.2)
theorem SzR.neg {n : Nat} {x : Rat} (h : SzR n x) : SzR n (-x) := by
  rw [← q_neg]
  exact SzR.divInt (den_ne x) h.1.neg h.2
theorem SzR.int {n : Nat} {i : Int} (h : Sz n i) (l : 0 < n) : SzR n (i : Rat) := by
  refine ⟨by rw [Rat.num_intCast]; exact h, ?_⟩
  rw [Rat.den_intCast]
  show (1 : Nat) < 2 ^ n
  exact Nat.one_lt_two_pow (by omega)
theorem SzR.zero {n : Nat} (l : 0 < n) : SzR n 0 := SzR.int (i := 0) (by unfold Sz; exact Nat.two_pow_pos n) l
/-! ### lists without zeros at the end -/
def co (l : List Rat) (n : Nat) : Rat := l.getD n 0
theorem co_nil (n : Nat) : co [] n = 0 := by simp [co]
theorem co_zero (x : Rat) (l : List Rat) : co (x :: l) 0 = x := by simp [co]
theorem co_succ (x : Rat) (l : List Rat) (n : Nat) : co (x :: l) (n + 1) = co l n := by simp [co]
theorem co_some {l : List Rat} {n : Nat} {x : Rat} (h : l[n]? = some x) : co l n = x := by simp [co, List.getD, h]
theorem co_lt {l : List Rat} {n : Nat} (h : n < l.length) : l[n]? = some (co l n) := by simp [co, List.getD, List.getElem?_eq_getElem h]
theorem co_ge {l : List Rat} {n : Nat} (h : l.length ≤ n) : co l n = 0 := by simp [co, List.getD, List.getElem?_eq_none h]
def trim : List Rat → List Rat
  | [] => []
  | x :: l => if x = 0 ∧ trim l = [] then [] else x :: trim l
theorem trim_co : ∀ (l : List Rat) (n : Nat), co (trim l) n = co l n
  | [], _ => rfl
  | x :: l, n => by
    unfold trim
    split
    · rename_i h
      cases n with
      | zero => rw [co_nil, co_zero, h.1]
      | succ n => rw [co_nil, co_succ, ← trim_co l n, h.2, co_nil]
    · cases n with
      | zero => rw [co_zero, co_zero]
      | succ n => rw [co_succ, co_succ, trim_co l n]
theorem trim_nil : ∀ {l : List Rat}, (∀ n, co l n = 0) → trim l = []
  | [], _ => rfl
  | x :: l, h => by
    unfold trim
    rw [if_pos ⟨by have := h 0; rwa [co_zero] at this, trim_nil fun n => by have := h (n + 1); rwa [co_succ] at this⟩]
theorem trim_ext : ∀ {l l' : List Rat}, (∀ n, co l n = co l' n) → trim l = trim l'
  | [], l', h => (trim_nil fun n => by rw [← h n, co_nil]).symm
  | x :: l, [], h => trim_nil fun n => by rw [h n, co_nil]
  | x :: l, y :: l', h => by
    have e0 := h 0
    rw [co_zero, co_zero] at e0
    have e1 := trim_ext (l := l) (l' := l') fun n => by have := h (n + 1); rwa [co_succ, co_succ] at this
    unfold trim
    rw [e0, e1]
theorem trim_self : ∀ {l : List Rat}, (l = [] ∨ co l (l.length - 1) ≠ 0) → trim l = l
  | [], _ => rfl
  | x :: l, h => by
    have h := h.resolve_left (by simp)
    unfold trim
    cases l with
    | nil =>
      rw [if_neg (fun z => h (by simpa [co] using z.1))]
      rfl
    | cons y l =>
      have e := trim_self (l := y :: l) (.inr (by
        have : co (x :: y :: l) ((x :: y :: l).length - 1) = co (y :: l) ((y :: l).length - 1) := by
          show co (x :: y :: l) (l.length + 1) = co (y :: l) l.length
          rw [co_succ]
        rw [← this]
        exact h))
      rw [if_neg (fun z => by rw [e] at z; exact absurd z.2 (by simp)), e]
theorem co_take (l : List Rat) (k n : Nat) : co (l.take k) n = if n < k then co l n else 0 := by
  by_cases h : n < k
  · rw [if_pos h]
    simp [co, List.getD, List.getElem?_take, h]
  · rw [if_neg h]
    simp [co, List.getD, List.getElem?_take, h]
/-- what a loop from the end leaves -/
theorem trim_take {l : List Rat} {k : Nat} (hk : k ≤ l.length) (hz : ∀ n, k ≤ n → co l n = 0) (hl : k = 0 ∨ co l (k - 1) ≠ 0) : trim l = l.take k := by
  have e : trim l = trim (l.take k) := trim_ext fun n => by
    rw [co_take]
    split
    · rfl
    · exact hz n (by omega)
  rw [e]
  refine trim_self ?_
  rcases hl with rfl | hl
  · exact .inl (by simp)
  · by_cases h0 : k = 0
    · subst h0
      exact .inl (by simp)
    refine .inr ?_
    rw [List.length_take, Nat.min_eq_left hk, co_take, if_pos (by omega)]
    exact hl
theorem trim_idem (l : List Rat) : trim (trim l) = trim l := trim_ext (trim_co l)
theorem trim_len : ∀ l : List Rat, (trim l).length ≤ l.length
  | [] => Nat.le_refl _
  | x :: l => by
    unfold trim
    split
    · simp
    · simp only [List.length_cons]
      have := trim_len l
      omega
theorem trim_eq (l : List Rat) : trim l = l.take (trim l).length := by
  refine List.ext_getElem? fun n => ?_
  rw [List.getElem?_take]
  by_cases h : n < (trim l).length
  · rw [if_pos h, co_lt h, trim_co]
    have := trim_len l
    rw [co_lt (by omega)]
  · rw [if_neg h, List.getElem?_eq_none (by omega)]
theorem trim_mem {l : List Rat} {x : Rat} (h : x ∈ trim l) : x ∈ l := by
  rw [trim_eq] at h
  exact List.mem_of_mem_take h
theorem trim_last {l : List Rat} : trim l = [] ∨ co l ((trim l).length - 1) ≠ 0 := by
  induction l with
  | nil => exact .inl rfl
  | cons x l ih =>
    unfold trim
    split
    · exact .inl rfl
    · rename_i h
      refine .inr ?_
      simp only [List.length_cons, Nat.add_sub_cancel]
      cases e : trim l with
      | nil =>
        rw [List.length_nil, co_zero]
        exact fun z => h ⟨z, e⟩
      | cons y r =>
        rw [List.length_cons, co_succ]
        have z := ih.resolve_left (by rw [e]; simp)
        rw [e] at z
        exact z
/-! ### products -/
/-- the n-th coefficient of the product, from the first j coefficients of f -/
def S (f g : Nat → Rat) : Nat → Nat → Rat
  | 0, _ => 0
  | j + 1, n => S f g j n + (if j ≤ n then f j * g (n - j) else 0)
/-- and the first k products of the next one -/
def SP (f g : Nat → Rat) (j k n : Nat) : Rat := S f g j n + (if j ≤ n ∧ n - j < k then f j * g (n - j) else 0)
theorem SP_zero (f g : Nat → Rat) (j n : Nat) : SP f g j 0 n = S f g j n := by
  unfold SP
  rw [if_neg (by omega)]
  grind
theorem SP_done {f g : Nat → Rat} {j k n : Nat} (h : ∀ m, k ≤ m → g m = 0) : SP f g j k n = S f g (j + 1) n := by
  unfold SP
  show _ = S f g j n + _
  congr 1
  by_cases h1 : j ≤ n
  · rw [if_pos h1]
    by_cases h2 : n - j < k
    · rw [if_pos ⟨h1, h2⟩]
    · rw [if_neg (fun z => h2 z.2), h _ (by omega)]
      grind
  · rw [if_neg h1, if_neg (fun z => h1 z.1)]
theorem SP_here (f g : Nat → Rat) (j k : Nat) : SP f g j (k + 1) (j + k) = SP f g j k (j + k) + f j * g k := by
  unfold SP
  rw [if_pos ⟨by omega, by omega⟩, if_neg (by omega)]
  rw [show j + k - j = k by omega]
  grind
theorem SP_else {f g : Nat → Rat} {j k n : Nat} (h : n ≠ j + k) : SP f g j (k + 1) n = SP f g j k n := by
  unfold SP
  congr 1
  by_cases h1 : j ≤ n ∧ n - j < k
  · rw [if_pos h1, if_pos ⟨h1.1, by omega⟩]
  · rw [if_neg h1, if_neg (by omega)]
theorem S_more {f g : Nat → Rat} {j n : Nat} (h : ∀ i, j ≤ i → f i = 0) : ∀ k, S f g (j + k) n = S f g j n
  | 0 => rfl
  | k + 1 => by
    show S f g (j + k) n + (if j + k ≤ n then f (j + k) * g (n - (j + k)) else 0) = _
    rw [S_more h k, h (j + k) (by omega)]
    split <;> grind
theorem S_congr {f g f' g' : Nat → Rat} (h1 : ∀ i, f i = f' i) (h2 : ∀ i, g i = g' i) : ∀ j n, S f g j n = S f' g' j n
  | 0, _ => rfl
  | j + 1, n => by
    show S f g j n + _ = S f' g' j n + _
    rw [S_congr h1 h2 j n, h1 j, h2 (n - j)]
theorem S_far {f g : Nat → Rat} {m : Nat} (hg : ∀ i, m ≤ i → g i = 0) : ∀ j n, j + m ≤ n + 1 → S f g j n = 0
  | 0, _, _ => rfl
  | j + 1, n, h => by
    show S f g j n + _ = 0
    rw [S_far hg j n (by omega)]
    split
    · rw [hg (n - j) (by omega)]
      grind
    · grind
/-- the product's coefficients -/
def prod (xs ys : List Rat) : List Rat := trim ((List.range (xs.length + ys.length)).map (S (co xs) (co ys) xs.length))
theorem co_map {f : Nat → Rat} {m n : Nat} : co ((List.range m).map f) n = if n < m then f n else 0 := by
  by_cases h : n < m
  · rw [if_pos h]
    simp [co, List.getD, h]
  · rw [if_neg h]
    simp [co, List.getD, h]
theorem prod_co (xs ys : List Rat) (n : Nat) : co (prod xs ys) n = S (co xs) (co ys) xs.length n := by
  unfold prod
  rw [trim_co, co_map]
  split
  · rfl
  · rw [S_far (m := ys.length) (fun i hi => co_ge hi) _ _ (by omega)]
/-- a list that holds them all -/
theorem prod_of {xs ys us vs l : List Rat} (hx : ∀ n, co xs n = co us n) (hy : ∀ n, co ys n = co vs n) (h : ∀ n, co l n = S (co us) (co vs) us.length n) : trim l = prod xs ys := by
  unfold prod
  refine trim_ext fun n => ?_
  rw [h n, co_map]
  have e : S (co us) (co vs) us.length n = S (co xs) (co ys) xs.length n := by
    rw [S_congr (fun i => (hx i).symm) (fun i => (hy i).symm)]
    rcases Nat.le_total xs.length us.length with z | z
    · have := S_more (f := co xs) (g := co ys) (j := xs.length) (n := n) (fun i hi => co_ge hi) (us.length - xs.length)
      rw [show xs.length + (us.length - xs.length) = us.length by omega] at this
      exact this
    · have := S_more (f := co xs) (g := co ys) (j := us.length) (n := n) (fun i hi => by rw [hx]; exact co_ge hi) (xs.length - us.length)
      rw [show us.length + (xs.length - us.length) = xs.length by omega] at this
      exact this.symm
  rw [e]
  split
  · rfl
  · exact S_far (m := ys.length) (fun i hi => co_ge hi) _ _ (by omega)
end FoQ

/-! Common denominators; products by whole numbers; values of polynomials. Plain mathematics. -/
namespace FoQ
open FoM
def AllSz' (n : Nat) (l : List Rat) : Prop := ∀ i, SzR n (co l i)
/-! ### one denominator for all -/
def lcmD (l : List Rat) : Nat := l.foldl (fun b r => Nat.lcm b r.den) 1
theorem lcmD_snoc (l : List Rat) (r : Rat) : lcmD (l ++ [r]) = Nat.lcm (lcmD l) r.den := by
  unfold lcmD
  rw [List.foldl_append]
  rfl
theorem take_snoc {l : List Rat} {i : Nat} (h : i < l.length) : l.take (i + 1) = l.take i ++ [co l i] := by
  rw [List.take_add_one, co_lt h]
  rfl
theorem lcmD_take {l : List Rat} {i : Nat} (h : i < l.length) : lcmD (l.take (i + 1)) = Nat.lcm (lcmD (l.take i)) (co l i).den := by
  rw [take_snoc h, lcmD_snoc]
theorem lcmD_ind {l : List Rat} {p : Nat → Prop} (h0 : p 1) (hs : ∀ i b, i < l.length → p b → p (Nat.lcm b (co l i).den)) : ∀ i, i ≤ l.length → p (lcmD (l.take i))
  | 0, _ => by simpa [lcmD] using h0
  | i + 1, h => by
    rw [lcmD_take (by omega)]
    exact hs i _ (by omega) (lcmD_ind h0 hs i (by omega))
theorem lcmD_pos (l : List Rat) : 0 < lcmD l := by
  have := lcmD_ind (l := l) (p := fun b => 0 < b) (by decide) (fun i b _ hb => Nat.lcm_pos hb (co l i).den_pos) l.length (Nat.le_refl _)
  rwa [List.take_length] at this
theorem lcmD_pos' (l : List Rat) (i : Nat) : 0 < lcmD (l.take i) := lcmD_pos _
theorem lcmD_dvd {l : List Rat} {i : Nat} (h : i < l.length) : (co l i).den ∣ lcmD l := by
  have key : ∀ k, k ≤ l.length → i < k → (co l i).den ∣ lcmD (l.take k) := by
    intro k
    induction k with
    | zero => intro _ h; omega
    | succ k ih =>
      intro hk hi
      rw [lcmD_take (by omega)]
      by_cases c : i = k
      · subst c
        exact Nat.dvd_lcm_right _ _
      · exact Nat.dvd_trans (ih (by omega) (by omega)) (Nat.dvd_lcm_left _ _)
  have := key l.length (Nat.le_refl _) h
  rwa [List.take_length] at this
theorem lcm_sz {n m a b : Nat} (h : Sz n (a : Int)) (g : Sz m (b : Int)) : Sz (n + m) ((Nat.lcm a b : Nat) : Int) := by
  have z : Nat.lcm a b ≤ a * b := by
    unfold Nat.lcm
    exact Nat.div_le_self _ _
  refine Sz.le (h.mul g) ?_
  rw [Int.natAbs_natCast, ← Int.natCast_mul, Int.natAbs_natCast]
  exact z
theorem lcmD_sz {n : Nat} {l : List Rat} (h : ∀ i, SzR n (co l i)) : ∀ i, i ≤ l.length → Sz (n * i + 1) ((lcmD (l.take i) : Nat) : Int)
  | 0, _ => by
    simp [lcmD, Sz]
  | i + 1, hi => by
    rw [lcmD_take (by omega)]
    have := lcm_sz (lcmD_sz h i (by omega)) (h i).2
    rw [show n * i + 1 + n = n * (i + 1) + 1 by rw [Nat.mul_add]; omega] at this
    exact this
/-- a fraction, times a whole number that its denominator divides -/
theorem whole_eq {r : Rat} {M : Nat} (h : r.den ∣ M) : ((r.num * ((M : Int).fdiv (r.den : Int)) : Int) : Rat) = r * (M : Int) := by
  obtain ⟨k, rfl⟩ := h
  have e : (((r.den * k : Nat) : Int)).fdiv (r.den : Int) = (k : Int) := by
    rw [Int.natCast_mul, Int.mul_comm]
    exact Int.mul_fdiv_cancel _ (den_ne r)
  rw [e]
  have e1 : r = (r.num : Rat) / ((r.den : Int) : Rat) := by
    rw [← Rat.divInt_eq_div, Rat.num_divInt_den]
  have d1 : ((r.den : Int) : Rat) ≠ 0 := by
    intro z
    exact den_ne r (by exact_mod_cast z)
  rw [Int.natCast_mul, Rat.intCast_mul, Rat.intCast_mul]
  generalize ((k : Int) : Rat) = kk at *
  generalize hD : ((r.den : Int) : Rat) = D at *
  generalize hN : (r.num : Rat) = N at *
  rw [e1]
  grind
theorem whole_sz {n m : Nat} {r : Rat} {M : Nat} (h : SzR n r) (g : Sz m (M : Int)) : Sz (n + m) (r.num * ((M : Int).fdiv (r.den : Int))) := by
  refine h.1.mul (Sz.le g ?_)
  rw [Int.fdiv_eq_ediv_of_nonneg _ (by omega)]
  have z : ((M : Int) / (r.den : Int)) = ((M / r.den : Nat) : Int) := by rw [Int.natCast_ediv]
  rw [z, Int.natAbs_natCast, Int.natAbs_natCast]
  exact Nat.div_le_self _ _
theorem fdiv_whole {M d : Nat} : ((M : Int).fdiv (d : Int)) = ((M / d : Nat) : Int) := by
  rw [Int.fdiv_eq_ediv_of_nonneg _ (by omega), Int.natCast_ediv]
/-! ### whole coefficients -/
def ci (xs : List Int) (i : Nat) : Rat := ((xs.getD i 0 : Int) : Rat)
theorem ci_ge {xs : List Int} {i : Nat} (h : xs.length ≤ i) : ci xs i = 0 := by
  unfold ci
  rw [List.getD_eq_getElem?_getD, List.getElem?_eq_none h]
  rfl
theorem S_scale (a b : Rat) (f g : Nat → Rat) : ∀ j n, S (fun i => f i * a) (fun i => g i * b) j n = S f g j n * (a * b)
  | 0, n => by
    show (0 : Rat) = 0 * (a * b)
    grind
  | j + 1, n => by
    show S _ _ j n + _ = (S f g j n + _) * (a * b)
    rw [S_scale a b f g j n]
    split <;> grind
theorem S_zero {f g : Nat → Rat} (h : ∀ i, g i = 0) : ∀ j n, S f g j n = 0
  | 0, _ => rfl
  | j + 1, n => by
    show S f g j n + (if j ≤ n then f j * g (n - j) else 0) = 0
    rw [S_zero h j n, h]
    split <;> grind
theorem ci_set {cs : List Int} {i n : Nat} {v : Int} (h : i < cs.length) : ci (cs.set i v) n = if n = i then (v : Rat) else ci cs n := by
  unfold ci
  rw [List.getD_eq_getElem?_getD, List.getD_eq_getElem?_getD, List.getElem?_set]
  by_cases e : i = n
  · subst e
    rw [if_pos rfl, if_pos h, if_pos rfl]
    rfl
  · rw [if_neg e, if_neg (Ne.symm e)]
theorem getD_set {cs : List Int} {i n : Nat} {v : Int} (h : i < cs.length) : (cs.set i v).getD n 0 = if n = i then v else cs.getD n 0 := by
  rw [List.getD_eq_getElem?_getD, List.getD_eq_getElem?_getD, List.getElem?_set]
  by_cases e : i = n
  · subst e
    rw [if_pos rfl, if_pos h, if_pos rfl]
    rfl
  · rw [if_neg e, if_neg (Ne.symm e)]
theorem ci_rep (n m : Nat) : ci (List.replicate m 0) n = 0 := by
  unfold ci
  have : (List.replicate m (0 : Int)).getD n 0 = 0 := by
    rw [List.getD_eq_getElem?_getD, List.getElem?_replicate]
    split <;> rfl
  rw [this]
  rfl
/-- and divided by it again -/
theorem divInt_whole {c : Int} {s : Rat} {M T : Nat} (hM : 0 < M) (hT : 0 < T) (h : (c : Rat) = s * ((M : Int) * (T : Int))) : Rat.divInt c ((M : Int) * (T : Int)) = s := by
  rw [Rat.divInt_eq_div, h, Rat.intCast_mul]
  have m0 : ((M : Int) : Rat) ≠ 0 := by
    intro z
    have : (M : Int) = 0 := by exact_mod_cast z
    omega
  have t0 : ((T : Int) : Rat) ≠ 0 := by
    intro z
    have : (T : Int) = 0 := by exact_mod_cast z
    omega
  generalize ((M : Int) : Rat) = m at *
  generalize ((T : Int) : Rat) = t at *
  grind
/-! ### values -/
def hor (x : Rat) : List Rat → Rat
  | [] => 0
  | c :: l => hor x l * x + c
theorem hor_trim (x : Rat) : ∀ l : List Rat, hor x (trim l) = hor x l
  | [] => rfl
  | c :: l => by
    unfold trim
    split
    · rename_i h
      have z := hor_trim x l
      rw [h.2] at z
      show (0 : Rat) = hor x l * x + c
      rw [← z, h.1]
      show (0 : Rat) = 0 * x + 0
      grind
    · show hor x (trim l) * x + c = hor x l * x + c
      rw [hor_trim x l]
theorem hor_drop {x : Rat} {l : List Rat} {i : Nat} (h : i < l.length) : hor x (l.drop i) = hor x (l.drop (i + 1)) * x + co l i := by
  rw [List.drop_eq_getElem_cons h]
  show hor x (l.drop (i + 1)) * x + l[i] = _
  have := co_lt h
  rw [List.getElem?_eq_getElem h] at this
  rw [Option.some.inj this]
theorem hor_sz {n m : Nat} {x : Rat} {l : List Rat} (h : ∀ i, SzR n (co l i)) (g : SzR m x) : ∀ k, k ≤ l.length → SzR ((n + m + 1) * k + 1) (hor x (l.drop (l.length - k)))
  | 0, _ => by
    rw [Nat.sub_zero, List.drop_length]
    exact SzR.zero (by omega)
  | k + 1, hk => by
    rw [hor_drop (by omega), show l.length - (k + 1) + 1 = l.length - k by omega]
    have := ((hor_sz h g k (by omega)).mul g).add (h (l.length - (k + 1)))
    rw [show (n + m + 1) * k + 1 + m + n + 1 = (n + m + 1) * (k + 1) + 1 by rw [Nat.mul_add]; omega] at this
    exact this
end FoQ

set_option maxHeartbeats 4100000
/-! A list comprehension whose step may raise (a call in it). -/
namespace FoE
open PySem PySem.Spec PyProof.Rows L2
theorem note_frame {e : Value} {a b : Env} (h : a.frame = b.frame) : noteFrame e a = noteFrame e b := by
  unfold noteFrame PySem.frameOf
  simp only [h]
/-- what is left to do behind the block, whose names stand in ce -/
def After (M : Model) (A : Around) (E : Value → Shared → Prop) (u? : Option (Value → Sem Unit)) (R : Value → Shared → Prop) (l : Value) (ce : Env) : Result → Shared → Prop := fun r t =>
  match r, u? with
  | .ok _, none => ∃ m, t.heap.Ns ce.locals m ∧ ∀ g, Heap.SameBut ce.locals t.heap g → R l { t with heap := g }
  | .ok _, some u => wpAny M A (u l) (fun _ t' => ∃ m, t'.heap.Ns ce.locals m ∧ ∀ g, Heap.SameBut ce.locals t'.heap g → R .none { t' with heap := g }) E t
  | .error x, _ => ∃ m, t.heap.Ns ce.locals m ∧ ∀ g, Heap.SameBut ce.locals t.heap g → wpAny M A (PySem.passOn "comprehension.variables-let-go" x ce : Sem Value) R E { t with heap := g }
section
variable {M : Model} {A : Around} {E : Value → Shared → Prop} {t : Shared} {env : Env}
theorem comp_all {e : Expr} {sc : Scope} {env : Env} {pos : Pos} {newAcc first : Sem Value} {c : Comprehension} {cs : List Comprehension} {cl : List (Str × Addr)} {u? : Option (Value → Sem Unit)} {R : Value → Shared → Prop}
    (h1 : clausesOf e = c :: cs) (h2 : ∀ x, foldedSetIterable c.iter env x = pure x) (h3 : closureFor sc env = pure cl)
    (h4 : sc.kind = .function) (h5 : ∀ x ∈ sc.names, x.2 = .local → sc.names.lookup x.1 = some .local)
    (go : wpAny M A first (fun x s1 => wpAny M A (pyIter x) (fun it s2 => wpAny M A newAcc (fun l s3 =>
      wpAny M A (newFunctionEnv sc env.globals cl [] env.qual none .none (some env)) (fun ce s4 =>
        codeAny M A (.compStart e 0 it l { ce with scope := relabel sc env }) (After M A E u? R l { ce with scope := relabel sc env }) s4) E s3) E s2) E s1) E t) :
    wpAny M A (comprehension e sc env pos newAcc false first u?) R E t := by
  unfold comprehension
  rw [h3, h1]
  refine wpAny_bind (wpAny_mono go (fun x s1 g1 => wpAny_bind (wpAny_standAt (wpAny_bind (wpAny_of_eq (h2 x) (wpAny_bind (wpAny_holding (wpAny_mono g1 (fun it s2 g2 => wpAny_standIf (wpAny_bind (wpAny_mono g2 (fun l s3 g3 => wpAny_bind (wpAny_pure (wpAny_bind (wpAny_mono g3 (fun ce s4 g4 => ?_) fun _ _ z => z)))) fun _ _ z => z))) fun _ _ z => z))))))) fun _ _ z => z)
  dsimp only
  have v1 : ∀ x ∈ (sc.names.filter fun x => (x.2 == .local || x.2 == .cell) && x.1 != (".0" : Str)).reverse, x.2 = .local → Env.kindOf { ce with scope := relabel sc env } x.1 = some .local :=
    fun x hx hl => lookup_relabel_local (h5 x (List.mem_filter.mp (List.mem_reverse.mp hx)).1 hl)
  have v2 : ∀ x ∈ (sc.names.filter fun x => (x.2 == .local || x.2 == .cell) && x.1 != (".0" : Str)).reverse.drop 1 ++ (sc.names.filter fun x => (x.2 == .local || x.2 == .cell) && x.1 != (".0" : Str)).reverse.take 1, x.2 = .local → Env.kindOf { ce with scope := relabel sc env } x.1 = some .local := fun x hx hl =>
    (List.mem_append.mp hx).elim (fun z => v1 x (List.mem_of_mem_drop z) hl) (fun z => v1 x (List.mem_of_mem_take z) hl)
  refine wpAny_holding (wpAny_bind (wpAny_attempt (wpAny_holding (wpAny_run (codeAny_mono g4 fun r s5 q => ?_)))))
  cases r with
  | ok f =>
    cases u? with
    | none =>
      obtain ⟨m, n, q⟩ := q
      exact wpAny_bind (wpAny_holding (wpAny_comp_letGo (cenv := { ce with scope := relabel sc env }) h4 _ s5 m v1 n fun g _ _ sb => wpAny_pure (q g sb)))
    | some u =>
      refine wpAny_bind (wpAny_rule (wpAny_bind (wpAny_holding (wpAny_mono q (fun _ s6 q' => ?_) fun _ _ z => z))))
      obtain ⟨m, n, q'⟩ := q'
      exact wpAny_bind (wpAny_comp_letGo (cenv := { ce with scope := relabel sc env }) h4 _ s6 m v2 n fun g _ _ sb => wpAny_pure (q' g sb))
  | error x =>
    have q' : ∃ m, s5.heap.Ns ce.locals m ∧ ∀ g, Heap.SameBut ce.locals s5.heap g → wpAny M A (PySem.passOn "comprehension.variables-let-go" x { ce with scope := relabel sc env } : Sem Value) R E { s5 with heap := g } := by cases u? <;> exact q
    obtain ⟨m, n, q'⟩ := q'
    exact wpAny_bind (wpAny_holding (wpAny_comp_letGo (cenv := { ce with scope := relabel sc env }) h4 _ s5 m v1 n fun g _ _ sb => q' g sb))
end
/-! ### an exception of a block, whose names stand at C -/
/-- as XE, noted already if b, and without what stands at C -/
def XC (X : Cx) (W : WX) (C : Addr) (b : Bool) (u : Value) (t : Shared) : Prop :=
  ∃ (a : Addr) (B : Heap) (sI : Shared) (pins : List (Addr × Obj)) (σ : L2.St) (H : Hp) (cls : Value) (d : Option Addr),
    u = .ref a ∧ Inv X pins σ H sI ∧ (∀ b o, sI.heap.get? b = some o → b ∉ frs X.stack → B.get? b = some o) ∧ sI.heap.UpToSlots t.heap ∧
      (if b then HandSPX.HeldZ B X.stack a (Zc cls d) X.env.locals t.heap else HandSPX.FlyingZ B X.stack a (Zc cls d) t.heap) ∧ H a = none ∧ t.os = sI.os ∧ AllBare t.gens ∧ W cls d σ H ∧
      B.get? C = none ∧ sI.heap.get? C = none
section
variable {X : Cx} {W : WX} {C : Addr} {u : Value} {t : Shared}
theorem XC.xe (x : XC X W C true u t) : XE X W u t := by
  obtain ⟨a, B, sI, pins, σ, H, cls, d, e, I, nb, up, sky, na, os, ag, w, _, _⟩ := x
  exact ⟨a, B, sI, pins, σ, H, cls, d, e, I, nb, up, .inr (.inr sky), na, os, ag, w⟩
/-- the def's frame notes it -/
theorem XC.noted {ce : Env} {Q : Unit → Shared → Prop} {E : Value → Shared → Prop} (x : XC X W C false u t) (ok : X.A.frames = some X.stack) (hs : X.stack = X.env :: X.outer) (hf : X.env.frame = some X.env.locals) (hce : ce.frame = X.env.frame)
    (hQ : ∀ g, t.heap.UpToSlots g → XC X W C true u { t with heap := g } → Q () { t with heap := g }) : wpAny (model X.prog X.w) X.A (noteFrame u ce) Q E t := by
  obtain ⟨a, B, sI, pins, σ, H, cls, d, rfl, I, nb, up, sky, na, os, ag, w, c1, c2⟩ := x
  rw [note_frame hce]
  have fl : HandSPX.FlyingZ B (X.env :: X.outer) a (Zc cls d) t.heap := by rw [← hs]; exact sky
  refine HandSPX.looks_onZ Zc.steady (by rw [ok, hs]) hf fl fun g hh ug => hQ g ug ?_
  exact ⟨a, B, sI, pins, σ, H, cls, d, rfl, I, nb, up.trans ug, by rw [hs]; exact hh, na, os, ag, w, c1, c2⟩
/-- what stands at C changes -/
theorem frames_but {B h g : Heap} : ∀ {l : List Env}, h.FunFrames B l → (∀ L ∈ frs l, g.get? L = h.get? L) → g.FunFrames B l
  | [], _, _ => trivial
  | env :: l, x, k => by
    obtain ⟨x1, ⟨L, o, x2, x3, x4, x5⟩, x6⟩ := x
    have m : L ∈ frs (env :: l) := List.mem_filterMap.mpr ⟨env, List.mem_cons_self, x2⟩
    refine ⟨x1, ⟨L, o, x2, x3, (k L m).trans x4, x5⟩, frames_but x6 fun b hb => k b ?_⟩
    obtain ⟨e, he, q⟩ := List.mem_filterMap.mp hb
    exact List.mem_filterMap.mpr ⟨e, List.mem_cons_of_mem _ he, q⟩
theorem XC.but {m : Str → Option Value} {g : Heap} (x : XC X W C true u t) (n : t.heap.Ns C m) (sb : Heap.SameBut C t.heap g) (hC : C ∉ frs X.stack) : XC X W C true u { t with heap := g } := by
  obtain ⟨a, B, sI, pins, σ, H, cls, d, rfl, I, nb, up, sky, na, os, ag, w, c1, c2⟩ := x
  obtain ⟨k1, k2, k3, oe, vs, T, oT, ts, he, hz, hd, h1, hnT, hTe, hT, hdT, h3⟩ := (show HandSPX.HeldZ B X.stack a (Zc cls d) X.env.locals t.heap from sky)
  obtain ⟨oC, es, ep, eC, dC, _⟩ := n
  have aC : a ≠ C := fun z => by
    rw [z, eC] at he
    cases he
    rw [dC] at hd
    cases hd
  have tC : T ≠ C := fun z => by
    rw [z, eC] at hT
    cases hT
    rw [dC] at hdT
    cases hdT
  have st : B.StaysIn g := fun b o e => (sb.2 b fun z => by rw [z, c1] at e; cases e).trans (k1 b o e)
  refine ⟨a, B, sI, pins, σ, H, cls, d, rfl, I, nb, fun b o e f => ?_, ?_, na, os, ag, w, c1, c2⟩
  · obtain ⟨sl, q⟩ := up b o e f
    exact ⟨sl, (sb.2 b fun z => by rw [z, c2] at e; cases e).trans q⟩
  · exact ⟨st, k2, frames_but k3 fun L hL => sb.2 L fun z => hC (z ▸ hL), oe, vs, T, oT, ts, (sb.2 a aC).trans he, hz, hd, h1, hnT, hTe, (sb.2 T tC).trans hT, hdT, h3⟩
theorem XC.pass {ce : Env} {R : Value → Shared → Prop} (x : XC X W C true u t) (hf : X.env.frame = some X.env.locals) (hce : ce.frame = X.env.frame) (tk : Takes X W) :
    wpAny (model X.prog X.w) X.A (PySem.passOn "comprehension.variables-let-go" u ce : Sem Value) R X.xe t := by
  obtain ⟨a, B, sI, pins, σ, H, cls, d, rfl, I, nb, up, sky, na, os, ag, w, c1, c2⟩ := x
  have sky : HandSPX.HeldZ B X.stack a (Zc cls d) X.env.locals t.heap := sky
  obtain ⟨k1, k2, k3, oe, vs, T, oT, ts, he, hz, hd, h1, _⟩ := id sky
  unfold PySem.passOn
  refine wpAny_bind (wpAny_field he hd h1 ?_)
  rw [if_neg (show ¬ ((Value.ref T == Value.none) = true) from by simp)]
  have fin : wpAny (model X.prog X.w) X.A (setFlight (.ref a) ce.frame) (fun _ s4 => wpAny (model X.prog X.w) X.A (throw (.ref a) : Sem Value) R X.xe s4) X.xe t := by
    rw [hce, hf]
    refine HandSPX.setFlight_onZ sky fun g hh ug => wpAny_throw (tk _ _ ?_)
    exact ⟨a, B, sI, pins, σ, H, cls, d, rfl, I, nb, up.trans ug, .inr (.inr hh), na, os, ag, w⟩
  first
    | exact wpAny_bind (wpAny_pure (wpAny_bind fin))
    | exact wpAny_bind fin
end

/-- a block's context, with a wish about what is raised in it -/
abbrev blkX (X : Cx) (s : Shared) (H : Hp) (sc : Scope) (ce : Env) (fp : List Addr) (xe : Value → Shared → Prop) : Cx := { X.blk s H sc ce fp with xe := xe }
theorem toX {X : Cx} {s t : Shared} {H H' : Hp} {sc : Scope} {ce : Env} {fp : List Addr} {xe : Value → Shared → Prop} {pz : List (Addr × Obj)} {τ : L2.St} (I : Inv (X.blk s H sc ce fp) pz τ H' t) : Inv (blkX X s H sc ce fp xe) pz τ H' t :=
  ⟨⟨I.ok.mod, I.ok.kind, I.ok.glob, I.ok.blt, I.ok.above, I.ok.inj, I.ok.has, I.ok.cab, I.ok.hd, I.ok.frames, I.ok.stk, I.ok.exf, I.ok.bs, I.ok.bsz, I.ok.noex, I.ok.exfs, I.ok.funs, I.ok.frf⟩, I.os, I.bare, I.base, I.loc, I.cell, I.free, I.freeC, I.pin, I.hok, I.len⟩
theorem ofX {X : Cx} {s t : Shared} {H H' : Hp} {sc : Scope} {ce : Env} {fp : List Addr} {xe : Value → Shared → Prop} {pz : List (Addr × Obj)} {τ : L2.St} (I : Inv (blkX X s H sc ce fp xe) pz τ H' t) : Inv (X.blk s H sc ce fp) pz τ H' t :=
  ⟨⟨I.ok.mod, I.ok.kind, I.ok.glob, I.ok.blt, I.ok.above, I.ok.inj, I.ok.has, I.ok.cab, I.ok.hd, I.ok.frames, I.ok.stk, I.ok.exf, I.ok.bs, I.ok.bsz, I.ok.noex, I.ok.exfs, I.ok.funs, I.ok.frf⟩, I.os, I.bare, I.base, I.loc, I.cell, I.free, I.freeC, I.pin, I.hok, I.len⟩
/-- what a call of a block let out, as the def sees it -/
theorem XC.of_call {X : Cx} {s3 s5 s' : Shared} {H3 H5 : Hp} {sc : Scope} {ce : Env} {fp : List Addr} {pins pz : List (Addr × Obj)} {σ τ : L2.St} {W : WX} {E : XK} {u : Value} (I3 : Inv X pins σ H3 s3) (I : Inv (X.blk s3 H3 sc ce fp) pz τ H5 s5)
    (hfp : ∀ b ∈ fp, FpOk X pins H3 b ∧ b < s3.heap.objs.size) (cL : ce.locals = s3.heap.objs.size) (hW : ∀ cls d H', E cls d H' → W cls d σ H') (c : L2.CX X.prog X.w X.stack H5 s5 E u s') : XC X W s3.heap.objs.size false u s' := by
  obtain ⟨a, B, H', cls, d, rfl, fl, hok, ub, na, os, ag, hE⟩ := c
  obtain ⟨G, g1, g2⟩ := restrict s'.heap fun b => ((B.get? b).isSome && decide (b ≠ s3.heap.objs.size)) || decide (b ∈ frs X.stack)
  have st : B.StaysIn s'.heap := fl.1
  have nC : s3.heap.get? s3.heap.objs.size = none := by
    cases e : s3.heap.get? s3.heap.objs.size with
    | none => rfl
    | some o => exact absurd (Heap.lt_size e) (Nat.lt_irrefl _)
  have hC0 : s3.heap.objs.size ∉ frs X.stack := fun z => by
    obtain ⟨_, o, e, _⟩ := I3.stack.mem z
    rw [nC] at e
    cases e
  have gB : ∀ b o, B.get? b = some o → b ≠ s3.heap.objs.size → G.get? b = some o := fun b o e n => by
    rw [g1 b (by simp [e, n])]
    exact st b o e
  have gF : ∀ b, b ∈ frs X.stack → G.get? b = s'.heap.get? b := fun b hb => g1 b (by simp [hb])
  have og : ∀ b o, G.get? b = some o → s'.heap.get? b = some o ∧ (((B.get? b).isSome = true ∧ b ≠ s3.heap.objs.size) ∨ b ∈ frs X.stack) := fun b o e => by
    cases q : (((B.get? b).isSome && decide (b ≠ s3.heap.objs.size)) || decide (b ∈ frs X.stack)) with
    | false => rw [g2 b q] at e; cases e
    | true =>
      rw [g1 b q] at e
      exact ⟨e, by simpa [Bool.or_eq_true] using q⟩
  have ne3 : ∀ b o, s3.heap.get? b = some o → b ≠ s3.heap.objs.size := fun b o e z => by rw [z, nC] at e; cases e
  have HC : H' s3.heap.objs.size = none := by
    obtain ⟨m, ⟨oC, es, ep, eC, _⟩, _⟩ := I.loc
    have eC : s5.heap.get? ce.locals = some oC := eC
    have z : H5 ce.locals = none := I.free
    rw [cL] at eC z
    exact ub.free _ _ eC z
  have hokG : HOk X.prog X.w H' G := fun b o q => (hok b o q).stay (fun c v hc r => gB c v r fun z => by
    rcases hc with hc | hc
    · rw [hc] at z
      rw [z, HC] at q
      cases q
    · rw [z, HC] at hc
      cases hc) (fun _ r => r) fun _ _ r => r
  have un := I.base
  have un : Un (frs X.stack) fp H3 H5 s3.heap s5.heap := un
  have J : Inv X pins σ H' { s5 with heap := G, gens := s'.gens, drawn := s'.drawn, toks := s'.toks } := by
    refine I3.call' (ch := fp) I.os ⟨fun b o e n h1 h2 => ?_, fun b o e n h1 h2 => ?_, fun b o e n h2 => ?_, fun b o e h2 => ?_, fun b xs q => ub.tups b xs (un.tups b xs q), fun b o v q => ub.frzs b o v (un.frzs b o v q), fun b ps q => ?_⟩ hokG ag
      fun b hb => ⟨(hfp b hb).1.2.2.2.1, (hfp b hb).1.2.1, (hfp b hb).1.2.2.2.2.1, (hfp b hb).1.2.2.2.2.2⟩
    · exact gB b o (ub.keep b o (un.keep b o e n h1 h2) (un.free b o e n h2) h1) (ne3 b o e)
    · obtain ⟨sl, q⟩ := un.slot b o e n h1 h2
      obtain ⟨sl2, q2⟩ := ub.slot b _ q h1
      exact ⟨sl2, by rw [gF b h1]; exact q2⟩
    · by_cases hb : b ∈ frs X.stack
      · obtain ⟨sl, q⟩ := un.slot b o e n hb h2
        exact ub.free b _ q (un.free b o e n h2)
      · exact ub.free b o (un.keep b o e n hb h2) (un.free b o e n h2)
    · obtain ⟨o1, q1⟩ := un.there b o e h2
      by_cases hb : b ∈ frs X.stack
      · obtain ⟨sl, q⟩ := ub.slot b o1 q1 hb
        exact ⟨_, by rw [gF b hb]; exact q⟩
      · obtain ⟨o', q⟩ := ub.there b o1 q1 hb
        exact ⟨o', gB b o' q (ne3 b o e)⟩
    · obtain ⟨m1, q1⟩ := un.tbls b ps q
      obtain ⟨m2, q2⟩ := ub.tbls b _ q1
      exact ⟨m1 ++ m2, by rw [q2, Array.append_assoc]⟩
  refine ⟨a, PySem.W.hideAll B [s3.heap.objs.size], { s5 with heap := G, gens := s'.gens, drawn := s'.drawn, toks := s'.toks }, pins, σ, H', cls, d, rfl, J, fun b o e hb => ?_, Heap.UpToSlots.of_keeps fun b o e => (og b o e).1, ?_, na, os, ag, hW _ _ _ hE, ?_, ?_⟩
  · obtain ⟨e', h⟩ := og b o e
    rcases h with ⟨h, n⟩ | h
    · obtain ⟨o', q⟩ := Option.isSome_iff_exists.mp h
      have z := st b o' q
      rw [e'] at z
      cases z
      exact PySem.W.hideAll_get _ q (by simpa using n)
    · exact absurd h hb
  · obtain ⟨k1, k2, k3, oe, vs, T, oT, ts, he, hz, hd, h1, hnT, hTe, hT, hdT, h3⟩ := fl
    have hid : ∀ {b : Addr}, B.get? b = none → (PySem.W.hideAll B [s3.heap.objs.size]).get? b = none := fun {b} z => by
      cases q : (PySem.W.hideAll B [s3.heap.objs.size]).get? b with
      | none => rfl
      | some o =>
        have y := PySem.W.of_hideAll _ q
        rw [z] at y
        cases y
    exact ⟨fun b o e => st b o (PySem.W.of_hideAll _ e), hid k2, funFrames_none k3 fun L hL => hid (k3.mem hL).1, oe, vs, T, oT, ts, he, hz, hd, h1, hid hnT, hTe, hT, hdT, h3⟩
  · exact PySem.W.hideAll_none _ (by simp)
  · refine g2 _ ?_
    simp [hC0]

/-- [elt for target in iter if ..], a step may raise: te is told what is wished of an exception of it -/
def tLcX (wi : TI) (g : TG) (tt : TT) (te : WX → TE) (vs : List Nat) (W : WX) : TE := fun τ H Q => wi τ H fun J H1 => ∀ D, H1 D = none → ∃ V : Nat → Nat → Hp → Prop, (∃ m, V 0 m (upd H1 D (.lst []))) ∧ ∀ i m H, V i m H →
  (J.stop i H ∧ Q (.ref D) H) ∨ (J.go i H ∧ ∃ Nx : Hp → Prop, (∀ H', Nx H' → ∃ m', m' < m ∧ V (i + 1) m' H') ∧ ∀ x H', J.yld i H x H' → g x (wipe τ vs) H' fun σ2 H2 => wipe σ2 vs = wipe τ vs ∧ tt σ2 H2 fun b H3 =>
    if b = true then te (fun cls d _ H => W cls d τ H) σ2 H3 fun y H4 => ∃ acc, H4 D = some (.lst acc) ∧ acc.length < sizeLine ∧ Nx (upd H4 D (.lst (acc ++ [y]))) else Nx H3)
section
variable {X : Cx} {elt tg iter : Expr} {ifs : List Expr} {scope : Scope} {own : List (Str × Nat)} {pos pos' : Pos} {wi : TI} {g : TG} {tt : TT} {te : WX → TE} {W : WX}
theorem core {pz : List (Addr × Obj)} {s : Shared} {τ : L2.St} {H : Hp} {Q : VK} {u? : Option (Value → Sem Unit)} {Qf : Value → Shared → Prop}
    (hs : X.stack = X.env :: X.outer) (hf : X.env.frame = some X.env.locals) (tk : Takes X W) (hc : X.calm = true) (hN : X.N.Nodup) (I : Inv X pz τ H s) (hi : PI X tg iter wi) (ok : BlkOk X.N X.env.scope scope own)
    (hg : ∀ s H C cl fp xe, PG (blkX X s H scope (compEnvC scope cl C X.env) fp xe) tg g) (ht : ∀ s H C cl fp xe, PTs (blkX X s H scope (compEnvC scope cl C X.env) fp xe) ifs tt)
    (he : ∀ s H C cl fp xe V, (∀ σ, PassesAt (L2.CX X.prog X.w) (blkX X s H scope (compEnvC scope cl C X.env) fp xe) σ (WE V σ)) → PE (blkX X s H scope (compEnvC scope cl C X.env) fp xe) elt (te V)) (hset : ∀ x, foldedSetIterable iter X.env x = pure x)
    (h : tLcX wi g tt te (own.map (·.2)) W τ H Q)
    (hR : ∀ D ce s' m H', Inv X pz τ H' s' → Q (.ref D) H' → s'.heap.Ns ce.locals m → FpOk X pz H' ce.locals → After (model X.prog X.w) X.A X.xe u? Qf (.ref D) ce (.ok .next) s') :
    wpAny (model X.prog X.w) X.A (comprehension (.ListComp elt [⟨tg, iter, ifs, 0⟩] scope pos) scope X.env pos' (newList []) false (eval iter X.env) u?) Qf X.xe s := by
  have hfree : ∀ y ∈ scope.names, y.2 = .free → ∃ c, X.env.cells.lookup y.1 = some c := fun y hy e =>
    (ok.free y hy e).elim (fun k => I.ok.has _ (.inl k)) (fun k => I.ok.has _ (.inr k))
  refine comp_all (u? := u?) rfl hset (closure_ok hfree) ok.kind (fun y hy e => by rw [ok.uniq y hy, e]) (thn (hi.run pz s τ H _ I h) fun xv s1 hx => thn hx fun itv s2 h2 => ?_)
  obtain ⟨it, fp, tn, J, H2, e, I2, T, st2, f2, q⟩ := h2
  subst e
  refine wpAny_newObj_type (newEnv_comp ?_) (by show 0 ≤ sizeLine; decide)
  generalize hD : s2.heap.objs.size = D
  have hDn : H2 D = none := I2.hok.fresh (Nat.le_of_eq hD)
  obtain ⟨V, ⟨m0, w0⟩, turn⟩ := q D hDn
  generalize hs3 : ({ s2 with heap := s2.heap.push { cls := .type "list", data := .seq ([] : List Value).toArray } } : Shared) = s3
  have I3 : Inv X pz τ (upd H2 D (.lst [])) s3 := by
    rw [← hs3]
    exact I2.laid (t' := s2.toks) (fun b o e => Heap.get?_push_of_some _ e) (Nat.le_of_eq hD) ⟨Nat.zero_le _, [], 0, .nil, by rw [← hD]; exact Heap.get?_push_size _ rfl⟩
  have h3 : s3.heap = s2.heap.push { cls := .type "list", data := .seq ([] : List Value).toArray } := by rw [← hs3]
  have f3 : ∀ b ∈ fp, FpOk X pz (upd H2 D (.lst [])) b ∧ b < s3.heap.objs.size := fun b hb => by
    obtain ⟨o, e, _⟩ := T.obj _ _ st2 b hb
    have hlt := Heap.lt_size e
    exact ⟨⟨by rw [upd_ne (by rw [← hD]; exact Nat.ne_of_lt hlt)]; exact (f2 b hb).1, (f2 b hb).2⟩, by rw [h3, Heap.size_push]; exact Nat.lt_succ_of_lt hlt⟩
  have st3 : tn 0 s3.heap := T.keep _ _ _ st2 fun b _ o e => by rw [h3]; exact Heap.get?_push_of_some _ e
  have I4 := block_start I3 ok hN f3
  show codeAny _ _ (.compStart (.ListComp elt [⟨tg, iter, ifs, 0⟩] scope pos) 0 (.ref it) (.ref D) (compEnvC scope (cellsFrom (s3.heap.objs.size + 1) scope.names (cloFrom X.env.cells scope.names [])) s3.heap.objs.size X.env)) (After (model X.prog X.w) X.A X.xe u? Qf (.ref D) (compEnvC scope (cellsFrom (s3.heap.objs.size + 1) scope.names (cloFrom X.env.cells scope.names [])) s3.heap.objs.size X.env)) { s3 with heap := pushCells (s3.heap.push { cls := .type "dict", data := .dict #[] }) scope.names }
  have nfp : ∀ b ∈ fp, (upd H2 D (.lst [])) b = none := fun b hb => (f3 b hb).1.1
  generalize hcl : cellsFrom (s3.heap.objs.size + 1) scope.names (cloFrom X.env.cells scope.names []) = cl at I4 ⊢
  generalize hce : compEnvC scope cl s3.heap.objs.size X.env = ce at I4 ⊢
  have cL : ce.locals = s3.heap.objs.size := by subst hce; rfl
  have cF : ce.frame = X.env.frame := by subst hce; rfl
  generalize hH3 : upd H2 D (.lst []) = H3 at I3 I4 w0 nfp f3
  generalize hs4 : ({ s3 with heap := pushCells (s3.heap.push { cls := .type "dict", data := .dict #[] }) scope.names } : Shared) = s4 at I4 ⊢
  have st4 : tn 0 s4.heap := T.keep _ _ _ st3 fun b _ o e => by rw [← hs4]; exact pushCells_keeps _ _ _ _ (Heap.get?_push_of_some _ e)
  -- what is wished of an exception in the block
  generalize hxe : notedBy (model X.prog X.w) X.A ce (fun e s' => After (model X.prog X.w) X.A X.xe u? Qf (.ref D) ce (.error e) s') = xe
  have pg := hg s3 H3 s3.heap.objs.size cl fp xe
  have pt := ht s3 H3 s3.heap.objs.size cl fp xe
  have pe := he s3 H3 s3.heap.objs.size cl fp xe (fun cls d _ H => W cls d τ H)
  rw [hce] at pg pt pe
  have hC0 : s3.heap.objs.size ∉ frs X.stack := fun z => by
    obtain ⟨_, o, e, _⟩ := I3.stack.mem z
    exact absurd (Heap.lt_size e) (Nat.lt_irrefl _)
  have pe := pe fun σ2 pz2 H5 s5 e s6 I5 c => by
    have x : XC X W s3.heap.objs.size false e s6 := XC.of_call I3 (ofX I5) f3 cL (fun cls d H' h => h) c
    have n6 : ∃ m, s6.heap.Ns ce.locals m := by
      obtain ⟨a, B, H', cls, d, _, fl, _, ub, _⟩ := c
      obtain ⟨m, ⟨oC, es, ep, eC, r⟩, _⟩ := I5.loc
      have eC : s5.heap.get? ce.locals = some oC := eC
      have z : H5 ce.locals = none := I5.free
      exact ⟨m, oC, es, ep, fl.1 _ _ (ub.keep _ _ eC z (by rw [cL]; exact hC0)), r⟩
    show xe e s6
    rw [← hxe]
    refine x.noted I3.ok.frames hs hf cF fun g6 ug x6 => ?_
    obtain ⟨m, oC, es, ep, eC, dC, r⟩ := n6
    obtain ⟨sl, eg⟩ := ug _ _ eC (fun vs z => by rw [dC] at z; cases z)
    have ng : Heap.Ns g6 ce.locals m := ⟨_, es, ep, eg, dC, r⟩
    show ∃ m, Heap.Ns g6 ce.locals m ∧ _
    refine ⟨m, ng, fun g7 sb => ?_⟩
    rw [cL] at ng sb
    exact (XC.but x6 ng sb hC0).pass hf cF tk
  have stat : ∀ {σ' : L2.St} {H' : Hp} {s' : Shared}, Inv (blkX X s3 H3 scope ce fp xe) [] σ' H' s' → (∀ b ∈ fp, H' b = none) → ∀ b ∈ fp, FpOk (blkX X s3 H3 scope ce fp xe) [] H' b := fun {σ' H' s'} I' hn b hb =>
    ⟨hn b hb, (I'.ok.exf b hb).1, I'.ok.exfs b hb, .inl hb, fun x c e => (I'.ok.exf b hb).2 x c e, fun p hp => absurd (show p ∈ ([] : List (Addr × Obj)) ++ [] from hp) (by simp)⟩
  have loop : codeAny (model X.prog X.w) X.A (.compLoop (.ListComp elt [⟨tg, iter, ifs, 0⟩] scope pos) 0 (.ref it) (.ref D) ce) (After (model X.prog X.w) X.A X.xe u? Qf (.ref D) ce) s4 := by
    refine compLoop_any (fun n s' => ∃ i H', Inv (blkX X s3 H3 scope ce fp xe) [] (wipe τ (own.map (·.2))) H' s' ∧ tn i s'.heap ∧ (∀ b ∈ fp, H' b = none) ∧ V i n H') ?_ m0 ⟨0, H3, toX I4, st4, nfp, w0⟩
    rintro n s5 ⟨i, H5, I5, st5, n5, w5⟩
    rw [hxe]
    rcases turn i n H5 w5 with ⟨stop, qq⟩ | ⟨go, Nx, hNx, step⟩
    · refine thnF (T.done (blkX X s3 H3 scope ce fp xe) rfl rfl rfl hc i [] s5 _ H5 (fun _ _ => False) I5 (stat I5 n5) st5 stop) fun r s6 ⟨hr, I6⟩ => ?_
      subst hr
      have I7 : Inv X pz τ H5 s6 := I3.call' (ch := fp) I6.os I6.base I6.hok I6.bare fun b hb => ⟨(f3 b hb).1.2.2.2.1, (f3 b hb).1.2.1, (f3 b hb).1.2.2.2.2.1, (f3 b hb).1.2.2.2.2.2⟩
      obtain ⟨m, hn, _⟩ := I6.loc
      have z : H5 ce.locals = none := I6.free
      exact hR D ce s6 m H5 I7 qq hn (I3.fpOk (by rw [cL]; exact Nat.le_refl _) z)
    · refine thnF (T.item (blkX X s3 H3 scope ce fp xe) rfl rfl rfl hc i [] s5 _ H5 (fun _ _ => False) I5 (stat I5 n5) st5 go) fun r s6 ⟨u, hr, h6⟩ => ?_
      subst hr
      refine thnF h6 fun _ s7 ⟨x, H7, I7, r7, y7, st7, n7⟩ => ?_
      have I7' := I7.pinned (stat I7 n7) (T.obj _ _ st7)
      refine thn (pg.run _ s7 _ H7 x u _ I7' r7 (step x H7 y7)) fun _ s8 ⟨σ8, H8, I8, hw8, q8⟩ => ?_
      refine thn (pt.run _ s8 σ8 H8 _ I8 q8) fun b s9 ⟨H9, I9, q9⟩ => ?_
      have fin : ∀ {s' : Shared} {H' : Hp}, Inv (blkX X s3 H3 scope ce fp xe) ([] ++ pinsAt fp s7.heap) σ8 H' s' → Nx H' → ∃ m, m < n ∧ ∃ i H', Inv (blkX X s3 H3 scope ce fp xe) [] (wipe τ (own.map (·.2))) H' s' ∧ tn i s'.heap ∧ (∀ b ∈ fp, H' b = none) ∧ V i m H' := fun {s' H'} I' nx => by
        obtain ⟨m', hm, w'⟩ := hNx H' nx
        have pin' : ∀ b ∈ fp, ∀ o, s7.heap.get? b = some o → s'.heap.get? b = some o ∧ H' b = none := fun b hb o e =>
          let z := I'.pin (b, o) (List.mem_append_right _ (List.mem_append_right _ (mem_pinsAt hb e)))
          ⟨z.1, z.2.1⟩
        have hl : (wipe τ (own.map (·.2))).length = σ8.length := by rw [← hw8, wipe_length]
        refine ⟨m', hm, i + 1, H', (I'.unpinned (pins := [])).weak hl (fun j v e => ?_), T.keep _ _ _ st7 fun b hb o e => (pin' b hb o e).1, fun b hb => ?_, w'⟩
        · rw [← hw8] at e
          exact (wipe_some e).1
        · obtain ⟨o, e, _⟩ := T.obj _ _ st7 b hb
          exact (pin' b hb o e).2
      cases b with
      | false =>
        simp only [Bool.false_eq_true, if_false] at q9 ⊢
        exact fin I9 q9
      | true =>
        simp only [if_true] at q9 ⊢
        refine thn (pe.run _ s9 σ8 H9 _ I9 q9) fun z s10 ⟨yv, H10, I10, r10, acc, hD10, hz10, nx⟩ => ?_
        exact app_ok (X := blkX X s3 H3 scope ce fp xe) I10 hD10 hz10 r10 fun s11 I11 => fin I11 nx
  exact codeAny_compStart_list loop (T.self X.A 0 _ _ _ st4 loop)
/-- as a value -/
theorem pe_lcX (hs : X.stack = X.env :: X.outer) (hf : X.env.frame = some X.env.locals) (tk : Takes X W) (hc : X.calm = true) (hN : X.N.Nodup) (hi : PI X tg iter wi) (ok : BlkOk X.N X.env.scope scope own)
    (hg : ∀ s H C cl fp xe, PG (blkX X s H scope (compEnvC scope cl C X.env) fp xe) tg g) (ht : ∀ s H C cl fp xe, PTs (blkX X s H scope (compEnvC scope cl C X.env) fp xe) ifs tt)
    (he : ∀ s H C cl fp xe V, (∀ σ, PassesAt (L2.CX X.prog X.w) (blkX X s H scope (compEnvC scope cl C X.env) fp xe) σ (WE V σ)) → PE (blkX X s H scope (compEnvC scope cl C X.env) fp xe) elt (te V))
    (hset : ∀ x, foldedSetIterable iter X.env x = pure x := by intro _; rfl) :
    PE X (.ListComp elt [⟨tg, iter, ifs, 0⟩] scope pos) (tLcX wi g tt te (own.map (·.2)) W) := by
  refine ⟨fun pz s τ H Q I h => ?_⟩
  rw [eval_ListComp]
  refine core hs hf tk hc hN I hi ok hg ht he hset h fun D ce s' m H' I' q hn f => ⟨m, hn, fun h'' sb => ?_⟩
  obtain ⟨f0, f1, f2, f3, f4, f5⟩ := f
  exact ⟨.ref D, H', I'.turned (t' := s'.toks) (fun b o hb e => (sb.2 b hb).trans e) f0 f1 f3 f4 f5, rfl, q⟩
end
end FoE

set_option maxHeartbeats 4100000
/-! == of tuples, whose items are told by their own == . -/
namespace FoG
open PySem PySem.Spec PyProof.Rows L2
def inN : Nat → Around → Around
  | 0, A => A
  | n + 1, A => (inN n A).in1
theorem inN_room {A : Around} : ∀ {n k : Nat}, Room (k + n) A → Room k (inN n A)
  | 0, _, r => r
  | n + 1, k, r => by
    have z : Room (k + 1) (inN n A) := inN_room (by rw [Nat.add_right_comm]; exact r)
    exact ⟨z.hd, by have := z.dp; show (inN n A).depth + 3 * k + 5 < _; omega, by have := z.un; show (inN n A).units + 1 + 16 * k + 200 < _; omega⟩
theorem inN_env {P : Program} {w : World} {K : PySem.W.Frag} {mg : Str → Option Value} {base : Heap} {A : Around} {outer : List Env} {s : Shared} {H : Hp} (e : Env0 P w K mg base A outer s H) : ∀ n, Env0 P w K mg base (inN n A) outer s H
  | 0 => e
  | n + 1 => (inN_env e n).in1
/-- x == y, n units deeper: it is b, and nothing has changed -/
def EqW (X : Cx) (n : Nat) (H : Hp) (x y : V) (b : Bool) : Prop := ∀ pz τ s v u (Q : Bool → Shared → Prop), Inv X pz τ H s → RelV x v → RelV y u → (∀ s', Inv X pz τ H s' → Q b s') → wpAny (model X.prog X.w) (inN n X.A) (eqBool v u) Q X.xe s
section
variable {X : Cx} {CX : CXT} {k n : Nat} {f C a b : Addr} {fd : FuncData} {ps : List Str} {sp : Sp} {E : XK} {H : Hp}
theorem ask_refs {M : Model} {A : Around} {E : Value → Shared → Prop} {Q : Bool → Shared → Prop} {s : Shared} (h1 : a = b → Q true s) (h : a ≠ b → wpAny M A (richCompare .Eq (.ref a) (.ref b)) (fun v s' => ∃ c, v = .bool c ∧ Q c s') E s) : wpAny M A (eqBool (.ref a) (.ref b)) Q E s := by
  unfold eqBool
  refine wpAny_holding ?_
  by_cases e : a = b
  · subst e
    rw [if_pos (beq_self_eq_true _)]
    exact wpAny_bind (wpAny_rule (wpAny_pure (h1 rfl)))
  · rw [if_neg (fun z => e (by have z := eq_of_beq z; injection z))]
    refine wpAny_bind (wpAny_mono (h e) (fun v s' z => ?_) fun _ _ z => z)
    obtain ⟨c, rfl, q⟩ := z
    exact wpAny_truthy_bool q
theorem eqW_own (F : FnOk X.prog X.w X.K X.mg X.base CX k f fd ps sp) (hr : Room (k + n) X.A) (hb : Binds X.K fd ps []) (hx : Passes CX X E) (B : FoA.CmpC X.K C f .Eq) {dx dy : Addr} {fs gs : List (Str × V)} (ea : H a = some (.ins C dx fs)) (eb : H b = some (.ins C dy gs))
    {c : Bool} (hc : a = b → c = true) (h : sp [.ref a, .ref b] H (fun v H' => v = .bl c ∧ H' = H) E) : EqW X n H (.ref a) (.ref b) c := by
  intro pz τ s v u Q I rv ru q
  cases rv
  cases ru
  refine ask_refs (fun e => by rw [hc e] at q; exact q s I) fun _ => ?_
  obtain ⟨mA, J, _⟩ := ins_get I.hok ea
  obtain ⟨od, J, _⟩ := J.look
  obtain ⟨mB, J', _⟩ := ins_get I.hok eb
  obtain ⟨od', J', _⟩ := J'.look
  obtain ⟨m, hF⟩ := I.fr
  have hr1 : Room k (inN n X.A) := inN_room hr
  have bd := hb s [.ref a, .ref b] I.kIn (by rw [List.append_nil]; exact F.len _ _ _ _ h)
  rw [List.append_nil] at bd
  refine PySem.W.cmp_K hr1.units0 hF I.ok.mod.kin J J'.type (by simp [PySem.W.notFirst]) B.at_ B.fn ?_
  refine wpAny_call (codeAny_mono (F.run (inN n X.A) X.stack s H ⟨[.ref a, .ref b], []⟩ [.ref a, .ref b] [.ref a, .ref b] _ E hr1 (inN_env I.env0 n) bd (.cons rfl (.cons rfl .nil)) h) fun r s' hj => ?_)
  cases r with
  | error e => exact hx pz τ H s e s' I hj
  | ok fl =>
    cases fl with
    | ret w =>
      obtain ⟨y, H', I', rv, e1, e2⟩ := I.after hj
      subst e1 e2
      cases rv
      exact ⟨c, rfl, q _ I'⟩
    | next => exact False.elim hj
    | brk => exact False.elim hj
    | cont => exact False.elim hj
/-- the items' answers, one after the other -/
inductive EqWs (X : Cx) (n : Nat) (H : Hp) : List V → List V → Bool → Prop where
  | nil : EqWs X n H [] [] true
  | left {x : V} {xs : List V} : EqWs X n H (x :: xs) [] false
  | right {y : V} {ys : List V} : EqWs X n H [] (y :: ys) false
  | cons {x y : V} {xs ys : List V} {b c : Bool} (h : EqW X n H x y b) (t : EqWs X n H xs ys c) : EqWs X n H (x :: xs) (y :: ys) (b && c)
theorem EqWs.len {n : Nat} {H : Hp} : ∀ {xs ys : List V} {c : Bool}, EqWs X n H xs ys c → c = true → xs.length = ys.length
  | _, _, _, .nil, _ => rfl
  | _, _, _, .cons h t, e => by
    rw [Bool.and_eq_true] at e
    rw [List.length_cons, List.length_cons, t.len e.2]
theorem tup_builtin {pz : List (Addr × Obj)} {τ : L2.St} {s : Shared} {xs ys : List V} {c : Bool} {P : Fin → Shared → Prop} (n : Nat) (I : Inv X pz τ H s) (ha : SqT X.K H a xs) (hb : SqT X.K H b ys) (e : EqWs X n H xs ys c)
    (h : ∀ s', Inv X pz τ H s' → P (.done (.ret (.bool c))) s') : wpAny (model X.prog X.w) (inN n X.A) (Builtin.«tuple.__eq__» ⟨[.ref a, .ref b], []⟩) P X.xe s := by
  obtain ⟨as, ra, ⟨oa, hoa, hca, na, hda⟩, _⟩ := I.tuple ha
  obtain ⟨bs, rb, ⟨ob, hob, hcb, nb, hdb⟩, _⟩ := I.tuple hb
  have hTb : s.TypeIs (.ref b) "tuple" := ⟨ob, hob, hcb⟩
  show wpAny _ _ (isInstance (.ref b) (.type "tuple") >>= _) _ _ s
  refine wpAny_bind (wpAny_isInstance hTb isSubtype_tuple_tuple ?_)
  simp only [Bool.not_true, Bool.false_eq_true, if_false]
  refine wpAny_bind (wpAny_tupleItemsOf hoa hda (wpAny_bind (wpAny_tupleItemsOf hob hdb (wpAny_bind ?_))))
  have zl : ((as.toArray.size == bs.toArray.size) = true) = (xs.length = ys.length) := by
    have e1 := ra.length
    have e2 := rb.length
    simp [e1, e2]
  refine wpAny_forIn_list _ (fun rest r t => r.1 = none ∧ Inv X pz τ H t ∧ ∃ xs' ys' as' bs' d, rest = List.zip as' bs' ∧ Vals xs' as' ∧ Vals ys' bs' ∧ EqWs X n H xs' ys' d ∧ d = c ∧ (xs'.length = ys'.length ↔ xs.length = ys.length)) _ ?_ ?_ _ _ ⟨rfl, I, xs, ys, as, bs, c, rfl, ra, rb, e, rfl, Iff.rfl⟩
  · rintro ⟨u, v⟩ rest r t ⟨hr, It, xs', ys', as', bs', d, hz, r1, r2, e', hd, hl⟩
    cases e' with
    | nil =>
      cases r1
      simp at hz
    | left =>
      cases r2
      simp at hz
    | right =>
      cases r1
      simp at hz
    | @cons x y xs2 ys2 b1 c1 h1 t1 =>
      cases r1 with
      | cons q1 w1 =>
        cases r2 with
        | cons q2 w2 =>
          simp only [List.zip_cons_cons, List.cons.injEq, Prod.mk.injEq] at hz
          obtain ⟨⟨rfl, rfl⟩, rfl⟩ := hz
          refine wpAny_bind (h1 pz τ t _ _ _ It q1 q2 fun t' It' => ?_)
          cases b1 with
          | true =>
            simp only [Bool.not_true, Bool.false_eq_true, if_false]
            exact wpAny_pure ⟨rfl, It', xs2, ys2, _, _, c1, rfl, w1, w2, t1, by rw [← hd, Bool.true_and], by rw [← hl]; simp⟩
          | false =>
            simp only [Bool.not_false, if_true]
            have hc : c = false := by rw [← hd, Bool.false_and]
            rw [hc] at h
            exact wpAny_bind (wpAny_pure (wpAny_pure (wpAny_pure (h t' It'))))
  · rintro ⟨r1, r2⟩ t ⟨hr, It, xs', ys', as', bs', d, hz, q1, q2, e', hd, hl⟩
    simp only at hr
    subst hr
    refine wpAny_pure ?_
    have fin : (as.toArray.size == bs.toArray.size) = c := by
      cases e' with
      | nil =>
        rw [← hd]
        exact zl.symm ▸ (hl.mp rfl)
      | left =>
        rw [← hd]
        cases q : (as.toArray.size == bs.toArray.size) with
        | false => rfl
        | true => exact absurd (hl.mpr (zl ▸ q)) (by simp)
      | right =>
        rw [← hd]
        cases q : (as.toArray.size == bs.toArray.size) with
        | false => rfl
        | true => exact absurd (hl.mpr (zl ▸ q)) (by simp)
      | cons _ _ =>
        cases q1
        cases q2
        simp at hz
    show P (.done (.ret (.bool (as.toArray.size == bs.toArray.size)))) t
    rw [fin]
    exact h t It
/-- two tuples, by richCompare -/
theorem rc_tups {pz : List (Addr × Obj)} {τ : L2.St} {s : Shared} {xs ys : List V} {c : Bool} {Q : Value → Shared → Prop} (n : Nat) (hu : (inN n X.A).units < cLine) (I : Inv X pz τ H s) (ha : SqT X.K H a xs) (hb : SqT X.K H b ys) (e : EqWs X (n + 1) H xs ys c)
    (h : ∀ s', Inv X pz τ H s' → Q (.bool c) s') : wpAny (model X.prog X.w) (inN n X.A) (richCompare .Eq (.ref a) (.ref b)) Q X.xe s := by
  obtain ⟨as, ra, ⟨oa, hoa, hca, na, hda⟩, _⟩ := I.tuple ha
  obtain ⟨bs, rb, ⟨ob, hob, hcb, nb, hdb⟩, _⟩ := I.tuple hb
  have ta : s.TypeIs (.ref a) "tuple" := ⟨oa, hoa, hca⟩
  have tb : s.TypeIs (.ref b) "tuple" := ⟨ob, hob, hcb⟩
  refine wpAny_richCompare_same_room (op := .Eq) ta tb F.slot_tuple_eq (wpAny_call_entry F.slot_tuple_eq ta F.entry_tuple_eq ?_ (F.args_tuple_eq_2 _ _)) hu
  exact tup_builtin (n + 1) I ha hb e fun s' I' => ⟨_, rfl, (fun z => nomatch z), h s' I'⟩
theorem eqW_tup {xs ys : List V} {c : Bool} (hu : (inN n X.A).units < cLine) (ha : SqT X.K H a xs) (hb : SqT X.K H b ys) (e : EqWs X (n + 1) H xs ys c) (hc : a = b → c = true) : EqW X n H (.ref a) (.ref b) c := by
  intro pz τ s v u Q I rv ru q
  cases rv
  cases ru
  refine ask_refs (fun z => by rw [hc z] at q; exact q s I) fun _ => ?_
  exact rc_tups n hu I ha hb e fun s' I' => ⟨c, rfl, q s' I'⟩
/-- a == b, both tuples -/
def rEqT (X : Cx) : R2 := fun x y H Q => ∃ a b xs ys c, x = .ref a ∧ y = .ref b ∧ SqT X.K H a xs ∧ SqT X.K H b ys ∧ EqWs X 1 H xs ys c ∧ Q (.bl c) H
theorem op_eqT (hu : X.A.units < cLine) : OpR X (compareOp .Eq) (rEqT X) := by
  intro pz s τ H x y v u Q I rv ru h
  obtain ⟨a, b, xs, ys, c, rfl, rfl, ha, hb, e, q⟩ := h
  cases rv
  cases ru
  show wpAny _ _ (richCompare .Eq (.ref a) (.ref b)) _ _ _
  exact rc_tups 0 hu I ha hb e fun s' I' => ⟨.bl c, H, I', rfl, q⟩
end
end FoG

/-! Rules with the frame named: for the inside of a comprehension. -/
namespace FoK
open PySem PySem.Spec PyProof.Rows L2
section
variable {X : Cx} {K' : PySem.W.Frag} {e : Expr} {f : Str} {pos : Pos} {ta : TE}
theorem pe_fldK (he : PE X e ta) (hb : attributeBase e f X.env (eval e X.env) = eval e X.env) (hK : X.K = K') : PE X (.Attribute e f pos) (tFld K' ta f) := hK ▸ pe_fld he hb
theorem pg_tupK {es : List Expr} {k n : Nat} {t : TGs} (hK : X.K = K') (hc : X.calm = true) (h : PGs X es t) (hn : (assignEach es X.env).length = n := by rfl) (hst : (assignEach es X.env).findIdx? (·.1) = none := by rfl) : PG X (.Tuple es k pos) (gTup K' n t) := hK ▸ pg_tup hc h hn hst
theorem ix_listK (hK : X.K = K') : IxR X (rIxL K') := hK ▸ ix_list
theorem ix_tupK (hK : X.K = K') : IxR X (rIxT K') := hK ▸ ix_tup
theorem call_lenK (hK : X.K = K') : CallR X (.builtin "len") (fun xs H Q => ∃ p ys, xs = [.ref p] ∧ (SqL K' H p ys ∨ SqT K' H p ys) ∧ Q (.int ys.length) H) := hK ▸ call_len_seq
theorem call_isiK (hK : X.K = K') : CallR X (.builtin "isinstance") (rIsi K') := hK ▸ call_isi
theorem call_isiTK (hK : X.K = K') : CallR X (.builtin "isinstance") (rIsiT K') := hK ▸ call_isiT
theorem op_eqDK (hK : X.K = K') (hu : X.A.units + 64 < cLine) : OpR X (compareOp .Eq) (rEqD K') := hK ▸ op_eqD hu
theorem op_neDK (hK : X.K = K') (hu : X.A.units + 64 < cLine) : OpR X (compareOp .NotEq) (rNeD K') := hK ▸ op_neD hu
theorem call_tupleK (hK : X.K = K') : CallR X (.type "tuple") (fun xs H Q => ∃ p ys, xs = [.ref p] ∧ ((SqL K' H p ys ∧ ∀ l, H l = none → Q (.ref l) (upd H l (.tup ys))) ∨ (SqT K' H p ys ∧ Q (.ref p) H))) := by
  subst hK
  exact call_tuple_of
theorem pi_listK {tg l : Expr} {tl : TE} (hK : X.K = K') (hl : PE X l tl) : PI X tg l (iList K' tl) := by
  subst hK
  exact pi_list hl
theorem pi_tupK {tg l : Expr} {tl : TE} (hK : X.K = K') (hl : PE X l tl) : PI X tg l (iTup K' tl) := by
  subst hK
  exact pi_tup hl
end
end FoK

set_option maxHeartbeats 4100000
/-! for i, x in enumerate(t), t a tuple. -/
namespace FoW
open PySem PySem.Spec PyProof.Rows L2
theorem meets_new1 {v : Value} {o : Obj} {H : Heap → Prop} (B : Begins v o H) :
    Meets (Builtin.«enumerate.__new__» ⟨[.type "enumerate", v], []⟩) (fun _ R s => H s.heap ∧
      R (.ok (.ret (.ref (s.heap.push o).objs.size))) { s with heap := (s.heap.push o).push { cls := .type "enumerate", data := .fields #[.none, .bool false, .ref s.heap.objs.size, rawInt 0, .none, .none] } }) :=
  .of_wp fun prog w A R s h => by
    obtain ⟨hp, g, d, tk, os⟩ := s; obtain ⟨hH, h⟩ := h
    have hsub := sub_enumerate
    have q1 : ∀ {A' : Around} {E : Value → Shared → Prop} {Q : Value → Shared → Prop}, Q (.ref hp.objs.size) ⟨hp.push o, g, d, tk, os⟩ → wpAny (model prog w) A' (pyIter v) Q E ⟨hp, g, d, tk, os⟩ := fun q => B.iter prog w _ _ ⟨hp, g, d, tk, os⟩ _ hH q
    wp_walk using q1
    refine wpAny_stack_any fun st => wpAny_pure ?_
    split
    · rename_i c _ _ _ _ _
      cases (c == Value.type "enumerate")
      · wp_walk using q1; exact ⟨_, rfl, h⟩
      · wp_walk using q1; exact ⟨_, rfl, h⟩
    · wp_walk using q1; exact ⟨_, rfl, h⟩
section
variable {prog : Program} {w : World} {A : Around} {E : Value → Shared → Prop} {s : Shared}
theorem begins1 {v : Value} {o : Obj} {H : Heap → Prop} {Q : Value → Shared → Prop} (B : Begins v o H) (h1 : H s.heap)
    (h : ∀ g, IsEnum g (s.heap.objs.size + 1) s.heap.objs.size 0 .none → g.get? s.heap.objs.size = some o → (∀ b u, s.heap.get? b = some u → g.get? b = some u) → Q (.ref (s.heap.objs.size + 1)) { s with heap := g }) :
    wpAny (model prog w) A (call (.type "enumerate") [v]) Q E s := by
  refine callType_new F.called_enumerate (by decide) (F.typeCall_enumerate_1 _) (F.newCall_enumerate_1 _) (fun obj => F.args_object_init_2 obj _) F.entry_enumerate_new (meets_new1 B) ⟨h1, ?_⟩
  have z : (s.heap.push o).objs.size = s.heap.objs.size + 1 := Heap.size_push ..
  show _ ∧ _
  rw [z]
  have e : IsEnum ((s.heap.push o).push { cls := .type "enumerate", data := .fields #[.none, .bool false, .ref s.heap.objs.size, rawInt 0, .none, .none] }) (s.heap.objs.size + 1) s.heap.objs.size 0 .none := by
    have q := Heap.get?_push_size (s.heap.push o) (o := { cls := .type "enumerate", data := .fields #[.none, .bool false, .ref s.heap.objs.size, rawInt 0, .none, .none] }) rfl
    rw [z] at q
    exact q
  exact ⟨⟨_, e, rfl⟩, h _ e (Heap.get?_push_of_some _ (Heap.get?_push_size _ B.free)) fun b u x => Heap.get?_push_of_some _ (Heap.get?_push_of_some _ x)⟩
end
/-- the tuple at a, each item in a new pair -/
def IteT (K : PySem.W.Frag) (a : Addr) : It :=
  ⟨fun i H => ∃ (xs : List V) (x : V), SqT K H a xs ∧ xs[i]? = some x, fun i H v H' => ∃ p x, v = .ref p ∧ H p = none ∧ H' = upd H p (.tup [.int (i : Nat), x]) ∧ ∀ xs, SqT K H a xs → xs[i]? = some x, fun i H => ∃ xs : List V, SqT K H a xs ∧ xs.length ≤ i⟩
theorem turn_enumT {P : Program} {w : World} {K : PySem.W.Frag} {elts : List Expr} {kk : Nat} {tpos : Pos} (a e it : Addr) (hai : a ≠ it) (hae : a ≠ e) :
    Turn P w K (.Tuple elts kk tpos) (IteT K a) [e, it] e (fun i h => (∃ old, IsEnum h e it ((i : Nat) : Int) old) ∧ h.IsTupleIter it a i ∧ e ≠ it) where
  mem := by simp
  obj := fun i h st b hb => by
    obtain ⟨⟨old, he⟩, ⟨o, ho, hc, hd⟩, _⟩ := st
    rcases (show b = e ∨ b = it by simpa using hb) with z | z
    · rw [z]; exact ⟨_, he, fun v q => nomatch q⟩
    · rw [z]; exact ⟨o, ho, fun v q => by rw [hd] at q; cases q⟩
  keep := fun i h h' st k => ⟨⟨st.1.choose, k e (by simp) _ st.1.choose_spec⟩, st.2.1.at fun o q => k it (by simp) o q, st.2.2⟩
  item := by
    intro X hP hw hK hc i pz s τ H E I hf st hg
    subst hP hw hK
    obtain ⟨⟨old, he⟩, hit, hne⟩ := st
    obtain ⟨xs, x, hq, hx⟩ := hg
    obtain ⟨its, rv, p, hz⟩ := I.tuple hq
    obtain ⟨u, hu, ru⟩ := rv.get hx
    have el : e < s.heap.objs.size := Heap.lt_size he
    have il : it < s.heap.objs.size := by obtain ⟨_, q, _⟩ := hit; exact Heap.lt_size q
    have hlt : i < its.toArray.size := by
      have := (List.getElem?_eq_some_iff.mp hu).1
      simpa using this
    have hT : Heap.IsTuple s.heap a its.toArray := let ⟨o, q1, q2, n, q3⟩ := p; ⟨o, q1, q2, n, q3⟩
    refine wpAny_pyNext_enum_itemD (Draws.tuple (prog := X.prog) (w := X.w) (A := X.A.in1) (show X.A.in1.handled = none from I.ok.hd hc) it a hai its.toArray) he ⟨hit, hT⟩ hlt hne (by simp [hne, Ne.symm hae]) fun y h' tk py ho st' hTn hsz hk => ?_
    have ey : y = u := by
      have hu' : its.toArray[i]? = some u := by simpa using hu
      rw [hu'] at py
      exact (Option.some.inj py).symm
    subst ey
    refine ⟨_, rfl, wpAny_letOwnedTupleGo_enum (s := { s with heap := h', toks := tk + 1 }) ho fun h2 he2 sb => ?_⟩
    have hT2 : h2.get? s.heap.objs.size = some { cls := .type "tuple", data := .seq #[.int i tk, y] } := (sb.2 _ (Nat.ne_of_gt el)).trans hTn
    have new : ObjOk X.prog X.w (upd H s.heap.objs.size (.tup [.int (i : Nat), x])) h2 s.heap.objs.size (.tup [.int (i : Nat), x]) :=
      ⟨by show 2 ≤ sizeLine; rw [sizeLine_eq]; decide, [.int i tk, y], .cons ⟨_, rfl⟩ (.cons ru .nil), ⟨_, hT2, rfl, _, rfl⟩⟩
    have I1 : Inv X pz τ (upd H s.heap.objs.size (.tup [.int (i : Nat), x])) { s with heap := h2, toks := tk + 1 } :=
      I.turnedNew (ch := [e, it]) (fun b ob hb q => (sb.2 b (fun z => hb (by simp [z]))).trans (hk b ob (fun z => hb (by simp [z])) (fun z => hb (by simp [z])) q)) hf (Nat.le_refl _) new
    refine ⟨.ref s.heap.objs.size, _, I1, rfl, ⟨_, x, rfl, I.hok.fresh (Nat.le_refl _), rfl, fun ys hy => by rw [I.tuple_inj hy hq]; exact hx⟩, ⟨⟨y, ?_⟩, st'.1.at fun o q => (sb.2 it (Ne.symm hne)).trans q, hne⟩, fun b hb => ?_⟩
    · rw [show ((i + 1 : Nat) : Int) = (i : Int) + 1 by omega]
      exact he2
    · have hb' : b < s.heap.objs.size := by
        rcases (show b = e ∨ b = it by simpa using hb) with z | z
        · rw [z]; exact el
        · rw [z]; exact il
      rw [upd_ne (Nat.ne_of_lt hb')]
      exact (hf b hb).1
  done := by
    intro X hP hw hK hc i pz s τ H E I hf st hg
    subst hP hw hK
    obtain ⟨⟨old, he⟩, hit, hne⟩ := st
    obtain ⟨xs, hq, hx⟩ := hg
    obtain ⟨its, rv, p, hz⟩ := I.tuple hq
    obtain ⟨f0, f1, f2, f3, f4, f5⟩ := hf it (by simp)
    have hl := rv.length
    have hT : Heap.IsTuple s.heap a its.toArray := let ⟨o, q1, q2, n, q3⟩ := p; ⟨o, q1, q2, n, q3⟩
    have hT' := id hit
    unfold pyNext
    have ty : s.TypeIs (.ref e) "enumerate" := ⟨_, he, rfl⟩
    refine wpAny_bind (wpAny_attempt (wpAny_callSpecial?_slot (name := Str.ofString "__next__") ty F.slot_enumerate_next (wpAny_call_entry F.slot_enumerate_next ty F.entry_enumerate_next ?_ (F.args_enumerate_next_1 _))))
    show wpAny _ _ (field (.ref e) 2 >>= _) _ _ _
    refine wpAny_bind (wpAny_field he rfl (x := .ref it) rfl (wpAny_bind (wpAny_nextOf_tuple_end (I.ok.hd hc) hit hT (by simp; omega) fun h' x he' hx' => ?_)))
    obtain ⟨o, ho, hcl⟩ := hx'
    refine wpAny_bind (wpAny_isInstance (T := "StopIteration") (b := true) ⟨o, ho, hcl⟩ isSubtype_stop (wpAny_pure ⟨rfl, ?_⟩))
    exact I.turned (t' := s.toks) (fun b u hb q => he' b u hb q) f0 f1 f3 f4 f5
  self := fun A i s Q E st h => let ⟨⟨_, he⟩, _⟩ := st; wpAny_pyIter_enum he h
def iEnumT (K : PySem.W.Frag) (ta : TA) : TI := fun τ H R => ta τ H fun vs H1 => ∃ a xs, vs = [.ref a] ∧ SqT K H1 a xs ∧ R (IteT K a) H1
theorem pi_enumT {X : Cx} {e : Expr} {ta : TA} {p pos tpos : Pos} {elts : List Expr} {kk : Nat} (hg : Gl X "enumerate") (hm : X.mg "enumerate" = none) (ha : PA X [e] ta) (hs : starEach [e] X.env = [(false, eval e X.env)] := by rfl) :
    PI X (.Tuple elts kk tpos) (.Call (.Name "enumerate" p) [e] [] pos) (iEnumT X.K ta) := by
  refine ⟨fun pz s τ H R I h => ?_⟩
  refine Call_ (ld_blt I hg hm boot_enumerate (PyProof.Rows.callWith_type1 (thn (ha.run pos pz s τ H _ I h) fun us s1 ⟨vs, H1, I1, r1, q1⟩ => ?_) hs rfl))
  obtain ⟨a, xs, ex, hq, q⟩ := q1
  subst ex
  cases r1 with
  | cons r rr =>
    cases rr
    cases r
    obtain ⟨its, rv, p', hz⟩ := I1.tuple hq
    have hT : Heap.IsTuple s1.heap a its.toArray := let ⟨o, q1, q2, n, q3⟩ := p'; ⟨o, q1, q2, n, q3⟩
    have al : a < s1.heap.objs.size := by obtain ⟨o, q1, _⟩ := p'; exact Heap.lt_size q1
    refine begins1 (begins_tuple a its.toArray) hT fun g he hit hk => wpAny_pyIter_enum he ?_
    have I2 : Inv X pz τ H1 { s1 with heap := g } := I1.kept (t' := s1.toks) hk
    refine ⟨s1.heap.objs.size + 1, [s1.heap.objs.size + 1, s1.heap.objs.size], _, _, H1, rfl, I2, turn_enumT a (s1.heap.objs.size + 1) s1.heap.objs.size (Nat.ne_of_lt al) (Nat.ne_of_lt (Nat.lt_succ_of_lt al)), ⟨⟨.none, he⟩, ⟨_, hit, rfl, rfl⟩, Nat.succ_ne_self _⟩, fun b hb => ?_, q⟩
    have hle : s1.heap.objs.size ≤ b := by
      rcases (show b = s1.heap.objs.size + 1 ∨ b = s1.heap.objs.size by simpa using hb) with z | z
      · rw [z]; exact Nat.le_add_right _ _
      · rw [z]; exact Nat.le_refl _
    exact I1.fpOk hle (I1.hok.fresh hle)
/-- the walk, in a comprehension -/
theorem lc_enumT {K : PySem.W.Frag} {a : Addr} {xs : List V} {g : TG} {tt : TT} {te : TE} {vs : List Nat} {τ : L2.St} {H1 : Hp} {D : Addr} {Qd : Hp → Prop} (Pv : Nat → Hp → Prop) (h0 : Pv 0 (upd H1 D (.lst []))) (hl : ∀ i H, i ≤ xs.length → Pv i H → SqT K H a xs)
    (hs : ∀ i x H p, xs[i]? = some x → H p = none → Pv i H → g (.ref p) (wipe τ vs) (upd H p (.tup [.int (i : Nat), x])) fun σ2 H2 => wipe σ2 vs = wipe τ vs ∧ tt σ2 H2 fun b H3 =>
      if b = true then te σ2 H3 fun y H4 => ∃ acc, H4 D = some (.lst acc) ∧ acc.length < sizeLine ∧ Pv (i + 1) (upd H4 D (.lst (acc ++ [y]))) else Pv (i + 1) H3) (hd : ∀ H, Pv xs.length H → Qd H) :
    ∃ W : Nat → Nat → Hp → Prop, (∃ m, W 0 m (upd H1 D (.lst []))) ∧ ∀ i m H, W i m H →
      ((IteT K a).stop i H ∧ Qd H) ∨ ((IteT K a).go i H ∧ ∃ Nx : Hp → Prop, (∀ H', Nx H' → ∃ m', m' < m ∧ W (i + 1) m' H') ∧ ∀ x H', (IteT K a).yld i H x H' → g x (wipe τ vs) H' fun σ2 H2 => wipe σ2 vs = wipe τ vs ∧ tt σ2 H2 fun b H3 =>
        if b = true then te σ2 H3 fun y H4 => ∃ acc, H4 D = some (.lst acc) ∧ acc.length < sizeLine ∧ Nx (upd H4 D (.lst (acc ++ [y]))) else Nx H3) := by
  refine ⟨fun i m H => m = xs.length - i ∧ i ≤ xs.length ∧ Pv i H, ⟨xs.length, by simp, Nat.zero_le _, h0⟩, ?_⟩
  rintro i m H ⟨rfl, hi, pv⟩
  have q := hl i H hi pv
  by_cases lt : i < xs.length
  · refine .inr ⟨⟨xs, xs[i], q, by simp [lt]⟩, Pv (i + 1), fun H' p' => ⟨xs.length - (i + 1), by omega, rfl, lt, p'⟩, fun x H' y => ?_⟩
    obtain ⟨p, z, rfl, hp, rfl, hz⟩ := y
    exact hs i z H p (hz xs q) hp pv
  · have e : i = xs.length := by omega
    subst e
    exact .inl ⟨⟨xs, q, Nat.le_refl _⟩, hd H pv⟩
theorem walk_enumT {K : PySem.W.Frag} {a : Addr} {xs : List V} : Walk (IteT K a) xs.length (fun H => SqT K H a xs) (YPair (fun i => some (.int (i : Nat))) (fun i => xs[i]?)) := by
  refine ⟨fun i _ hi q => ⟨xs, xs[i], q, by simp [hi]⟩, fun _ q => ⟨xs, q, Nat.le_refl _⟩, fun i H v H' _ q y => ?_⟩
  obtain ⟨p, x, h1, h2, h3, h4⟩ := y
  exact ⟨p, .int (i : Nat), x, h1, h2, h3, rfl, h4 xs q⟩
theorem walk_revT {K : PySem.W.Frag} {a : Addr} {xs : List V} : Walk (RT.ItvT K a xs.length) xs.length (fun H => SqT K H a xs) (fun i H x H' => H' = H ∧ xs[xs.length - 1 - i]? = some x) :=
  ⟨fun i _ hi q => ⟨hi, xs, xs[xs.length - 1 - i]'(by omega), q, by simp [show xs.length - 1 - i < xs.length by omega]⟩, fun _ _ => Nat.le_refl _, fun _ _ _ _ _ q y => ⟨y.1, y.2 xs q⟩⟩
end FoW

set_option maxHeartbeats 4100000
namespace Fo
open PySem PySem.Spec PyProof.Rows L2
/-! ### what the law's own helpers promise -/
/-- the drawing box at p, drawn from at most n times -/
def BoxAt (H : Hp) (p : Addr) (n : Nat) : Prop := ∃ x c sd : Int, H p = some (.lst [.int x, .int c, .int sd]) ∧ 0 ≤ x ∧ 0 ≤ c ∧ c ≤ n ∧ 0 ≤ sd ∧ sd ≤ 2 ^ 40
/-- all but the object at p stands as it stood -/
def But (p : Addr) (H H' : Hp) : Prop := ∀ b o, H b = some o → b ≠ p → H' b = some o
theorem But.refl (p : Addr) (H : Hp) : But p H H := fun _ _ h _ => h
theorem But.trans {p : Addr} {H H1 H2 : Hp} (a : But p H H1) (b : But p H1 H2) : But p H H2 := fun c o h n => b c o (a c o h n) n
theorem But.of_same {p : Addr} {H H' : Hp} (a : Same H H') : But p H H' := fun c o h _ => a c o h
theorem Same.upd {H : Hp} {p : Addr} {o : HO} (h : H p = none) : Same H (upd H p o) := fun b u e => by
  rw [upd_ne (ne_of_none e h)]
  exact e
theorem But.upd {H : Hp} {p : Addr} {o : HO} : But p H (upd H p o) := fun b u e n => by
  rw [upd_ne n]
  exact e
theorem SqT.same {K : PySem.W.Frag} {H H' : Hp} {a : Addr} {xs : List V} (e : Same H H') (h : H a = some (.tup xs)) : SqT K H' a xs := SqT.of (e _ _ h)
def spCell (K : PySem.W.Frag) : Sp := fun vs H Q _ => ∃ (a : Addr) (ns : List Int) (i : Nat), vs = [.ref a, .int i] ∧ SqL K H a (ns.map V.int) ∧ Q (.int (ns.getD i 0)) H
def spBox (K : PySem.W.Frag) : Sp := fun vs H Q _ => ∃ (a : Addr) (ns : List Int) (i : Nat), vs = [.ref a, .int i] ∧ SqL K H a (ns.map V.int) ∧ i ≤ 1000 ∧ ∀ p H', H p = none → Same H H' → BoxAt H' p 0 → Q (.ref p) H'
def spTake : Sp := fun vs H Q _ => ∃ (p : Addr) (m : Int) (n : Nat), vs = [.ref p, .int m] ∧ BoxAt H p n ∧ n ≤ 100000 ∧ 0 < m ∧ FoM.Sz 4000 m ∧
  ∀ d H', 0 ≤ d → d < m → BoxAt H' p (n + 1) → But p H H' → Q (.int d) H'
/-- a fraction's tuple -/
def FrAt (K : PySem.W.Frag) (H : Hp) (a : Addr) (u d : Int) : Prop := SqT K H a [.int u, .int d]
def spFrac : Sp := fun vs H Q _ => ∃ u d : Int, vs = [.int u, .int d] ∧ d ≠ 0 ∧ FoM.Sz 4000 d ∧ ∀ p, H p = none → Q (.ref p) (upd H p (.tup [.int (FoM.frN u d), .int (FoM.frD u d)]))
/-- two fractions, and what is reckoned of them -/
def sp2 (K : PySem.W.Frag) (N D : Int → Int → Int → Int → Int) : Sp := fun vs H Q _ => ∃ (a b : Addr) (u d v e : Int), vs = [.ref a, .ref b] ∧ FrAt K H a u d ∧ FrAt K H b v e ∧ d ≠ 0 ∧ e ≠ 0 ∧
  FoM.Sz 1900 u ∧ FoM.Sz 1900 d ∧ FoM.Sz 1900 v ∧ FoM.Sz 1900 e ∧ ∀ p, H p = none → Q (.ref p) (upd H p (.tup [.int (FoM.frN (N u d v e) (D u d v e)), .int (FoM.frD (N u d v e) (D u d v e))]))
abbrev spPlus (K : PySem.W.Frag) : Sp := sp2 K (fun u d v e => u * e + v * d) (fun _ d _ e => d * e)
abbrev spMinus (K : PySem.W.Frag) : Sp := sp2 K (fun u d v e => u * e - v * d) (fun _ d _ e => d * e)
abbrev spTimes (K : PySem.W.Frag) : Sp := sp2 K (fun u _ v _ => u * v) (fun _ d _ e => d * e)
def spLess (K : PySem.W.Frag) : Sp := fun vs H Q _ => ∃ (a b : Addr) (u d v e : Int), vs = [.ref a, .ref b] ∧ FrAt K H a u d ∧ FrAt K H b v e ∧
  FoM.Sz 1900 u ∧ FoM.Sz 1900 d ∧ FoM.Sz 1900 v ∧ FoM.Sz 1900 e ∧ Q (.bl (decide (u * e < v * d))) H
theorem pow18 : ((10 : Int) ^ (18 : Int).toNat) = 1000000000000000000 := by decide
theorem sz_of {n : Nat} {i : Int} (m : Int) (h : -m < i) (g : i < m) (e : m.natAbs ≤ 2 ^ n) : FoM.Sz n i := Nat.lt_of_lt_of_le (by omega) e
theorem pow3 (i : Int) : i ^ (3 : Int).toNat = i * i * i := by
  show i ^ 3 = _
  rw [Int.pow_succ, Int.pow_succ, Int.pow_succ, Int.pow_zero, Int.one_mul]
section
variable {P : Program} {w : World} {K : PySem.W.Frag} {mg : Str → Option Value} {base : Heap}
theorem ok_cell (T : Tx K mg) : FnOk P w K mg base CX0 1 (He.ga K "_law_cell") T.fd_cell ["_law_script", "_law_k"] (spCell K) := by
  refine T.F_cell.ok sc_cell (fun vs H Q E h => ?_) (fun cdv A outer s H vs Q E hr h => ?_)
  · obtain ⟨a, ns, i, rfl, _⟩ := h
    rfl
  · obtain ⟨a, ns, i, rfl, hS, q⟩ := h
    refine ⟨_, (pss_one (ps_ret (pe_ifExp (pt_cmpR op_lt (pv 1) (pe_callB call_len_seq (by rfl) T.z_len PySem.boot_len (pa_cons (pv 0) pa_nil)) (nomark _)) (pe_ix ix_list (pv 0) (pv 1) (fun _ _ => rfl)) pe_int))), ?_⟩
    refine ⟨_, rfl, _, rfl, a, _, rfl, .inl hS, _, _, rfl, rfl, _, rfl, ite2 (fun e => ?_) (fun e => ?_)⟩
    · have e1 : i < ns.length := by
        have e0 := of_decide_eq_true e
        rw [List.length_map] at e0
        omega
      refine ⟨_, rfl, _, rfl, a, _, _, _, rfl, rfl, hS, atI_nat (by rw [List.getElem?_map, List.getElem?_eq_getElem e1]; rfl), ?_⟩
      have e2 : ns.getD i 0 = ns[i] := by simp [List.getD, List.getElem?_eq_getElem e1]
      rw [← e2]
      exact q
    · have e1 : ¬ i < ns.length := fun z => e (decide_eq_true (by rw [List.length_map]; omega))
      have e2 : ns.getD i 0 = 0 := by simp [List.getD, List.getElem?_eq_none (Nat.le_of_not_lt e1)]
      rw [e2] at q
      exact q
theorem ok_box (T : Tx K mg) : FnOk P w K mg base CX0 2 (He.ga K "_law_box") T.fd_box ["_law_script", "_law_k"] (spBox K) := by
  refine T.F_box.ok sc_box (fun vs H Q E h => ?_) (fun cdv A outer s H vs Q E hr h => ?_)
  · obtain ⟨a, ns, i, rfl, _⟩ := h
    rfl
  · obtain ⟨a, ns, i, rfl, hS, hi, q⟩ := h
    refine ⟨_, (pss_one (ps_ret (pe_lst (pa_cons (pe_callB call_abs (by rfl) T.z_abs (by decide +kernel) (pa_cons (pe_callTy FoA.call_intI (by rfl) T.z_int (by decide +kernel) (pa_cons (pe_call (ok_cell T) (hr.mono (by decide)) (by rfl) T.g_cell T.F_cell.kp T.b_cell .nil pass0 (pa_cons (pv 0) (pa_cons (pv 1) pa_nil))) pa_nil)) pa_nil)) (pa_cons pe_int (pa_cons (pe_op op_add (pe_op op_mulW pe_int (pv 1)) pe_int) pa_nil)))))), ?_⟩
    refine ⟨_, rfl, _, rfl, a, ns, i, rfl, hS, _, rfl, _, rfl, _, rfl, _, _, rfl, rfl, FoM.Sz.mulok (n := 20) (m := 20) (sz_of 1000000 (by decide) (by decide) (by decide)) (sz_of 1000000 (by omega) (by omega) (by decide)), _, _, rfl, rfl, ?_⟩
    refine ⟨(by show 3 ≤ sizeLine; rw [sizeLine_eq]; decide), fun p hp => ?_⟩
    refine q p _ hp (Same.upd hp) ⟨_, _, _, upd_same, ?_, ?_, ?_, ?_, ?_⟩
    · split <;> omega
    · omega
    · omega
    · omega
    · omega
theorem ok_take (T : Tx K mg) : FnOk P w K mg base CX0 1 (He.ga K "_law_take") T.fd_take ["_law_box_here", "_law_many"] spTake := by
  refine T.F_take.ok sc_take (fun vs H Q E h => ?_) (fun cdv A outer s H vs Q E hr h => ?_)
  · obtain ⟨p, m, n, rfl, _⟩ := h
    rfl
  · obtain ⟨p, m, n, rfl, ⟨x, c, sd, hB, hx, hc, hcn, hs, hs2⟩, hn, hm, hz, q⟩ := h
    have hL : SqL K H p [.int x, .int c, .int sd] := SqL.of hB
    refine ⟨_, (pss_cons (ps_if (pt_cmpR op_ge (pe_ix ix_list (pv 0) pe_int (fun _ _ => rfl)) (pe_op FoA.op_powW pe_int pe_int) (nomark _)) (pss_cons (ps_set (i := 2) sc_take.nd rfl (.inl rfl) (pe_op op_mod (pe_callTy FoA.call_intI (by rfl) T.z_int (by decide +kernel) (pa_cons (pe_ix ix_list (pv 0) pe_int (fun _ _ => rfl)) pa_nil)) (pv 1)))
      (pss_cons (ps_asg (pe_op op_fdivW (pe_ix ix_list (pv 0) pe_int (fun _ _ => rfl)) (pv 1)) (pg_sub (pv 0) pe_int set_list))
      (pss_one (ps_ret (pv 2))))) pss_nil)
      (pss_cons (ps_asg (pe_op op_add (pe_ix ix_list (pv 0) pe_int (fun _ _ => rfl)) pe_int) (pg_sub (pv 0) pe_int set_list))
      (pss_cons (ps_set (i := 3) sc_take.nd rfl (.inl rfl) (pe_op op_mod (pe_op FoA.op_powW (pe_callTy FoA.call_intI (by rfl) T.z_int (by decide +kernel) (pa_cons (pe_op op_add (pe_op op_add (pe_op op_mulW (pe_op op_add (pe_ix ix_list (pv 0) pe_int (fun _ _ => rfl)) pe_int) pe_int) (pe_op op_mulW (pe_ix ix_list (pv 0) pe_int (fun _ _ => rfl)) pe_int)) (pe_ix ix_list (pv 0) pe_int (fun _ _ => rfl))) pa_nil)) pe_int) pe_int))
      (pss_cons (ps_set (i := 3) sc_take.nd rfl (.inl rfl) (pe_op op_mod (pe_op FoA.op_powW (pe_callTy FoA.call_intI (by rfl) T.z_int (by decide +kernel) (pa_cons (pe_op op_add (pv 3) (pe_op op_mulW (pe_ix ix_list (pv 0) pe_int (fun _ _ => rfl)) pe_int)) pa_nil)) pe_int) pe_int))
      (pss_one (ps_ret (pe_op op_mod (pe_callTy FoA.call_intI (by rfl) T.z_int (by decide +kernel) (pa_cons (pe_op op_fdivW (pv 3) pe_int) pa_nil)) (pv 1)))))))), ?_⟩
    refine ⟨_, rfl, _, _, _, _, rfl, rfl, hL, rfl, _, _, rfl, rfl, ⟨by decide, by decide, by decide⟩, _, _, rfl, rfl, _, rfl, ite2 (fun e => ?_) (fun e => ?_)⟩
    · -- a digit of the number itself
      have hdv : CDivW x m := wide_div hm hz (by decide) (by decide)
      refine ⟨_, rfl, _, _, _, _, rfl, rfl, hL, rfl, _, rfl, _, rfl, _, _, rfl, rfl, hm, ?_⟩
      refine ⟨_, rfl, _, _, _, _, rfl, rfl, hL, rfl, _, rfl, _, _, rfl, rfl, hdv, _, rfl, p, _, 0, 0, rfl, rfl, hB, rfl, ?_⟩
      refine ⟨_, rfl, q _ _ (Int.emod_nonneg _ (by omega)) (Int.emod_lt_of_pos _ hm) ⟨x / m, c, sd, upd_same, Int.ediv_nonneg hx (by omega), hc, by omega, hs, hs2⟩ But.upd⟩
    · have hx2 : x < 1000000000000000000 := by
        rw [pow18] at e
        have e2 := of_decide_eq_false (Bool.eq_false_iff.mpr e)
        omega
      -- counted up
      refine ⟨_, rfl, _, _, _, _, rfl, rfl, hL, rfl, _, _, rfl, rfl, _, rfl, p, _, 1, 1, rfl, rfl, hB, rfl, ?_⟩
      have hL1 : SqL K (upd H p (.lst [.int x, .int (c + 1), .int sd])) p [.int x, .int (c + 1), .int sd] := SqL.of upd_same
      refine ⟨_, rfl, _, _, _, _, rfl, rfl, hL1, rfl, _, _, rfl, rfl, _, _, rfl, rfl, FoM.Sz.mulok (n := 64) (m := 20) (sz_of 2000000000000000000 (by omega) (by omega) (by decide)) (sz_of 1000000 (by decide) (by decide) (by decide)),
        _, rfl, _, _, _, _, rfl, rfl, hL1, rfl, _, _, rfl, rfl, FoM.Sz.mulok (n := 20) (m := 20) (sz_of 1000000 (by omega) (by omega) (by decide)) (sz_of 1000000 (by decide) (by decide) (by decide)), _, _, rfl, rfl,
        _, rfl, _, _, _, _, rfl, rfl, hL1, rfl, _, _, rfl, rfl, _, rfl, _, _, rfl, rfl, ⟨by decide, by decide, ?_⟩, _, _, rfl, rfl, (by show (0 : Int) < 2147483647; decide), ?_⟩
      · exact sz_of (n := 1000) 1000000000000000000000000000000 (by omega) (by omega) (by decide)
      generalize hg : ((x + 7) * 69069 + (c + 1) * 40692 + sd) ^ (3 : Int).toNat % 2147483647 = g
      have g0 : 0 ≤ g := by
        rw [← hg]
        exact Int.emod_nonneg _ (by decide)
      have g1 : g < 2147483647 := by
        rw [← hg]
        exact Int.emod_lt_of_pos _ (by decide)
      refine ⟨_, rfl, _, rfl, _, _, _, _, rfl, rfl, hL1, rfl, _, _, rfl, rfl, FoM.Sz.mulok (n := 20) (m := 20) (sz_of 1000000 (by omega) (by omega) (by decide)) (sz_of 1000000 (by decide) (by decide) (by decide)), _, _, rfl, rfl, _, rfl, _, _, rfl, rfl, ⟨by decide, by decide, ?_⟩, _, _, rfl, rfl, (by show (0 : Int) < 2147483399; decide), ?_⟩
      · exact sz_of (n := 1000) 1000000000000000000000000000000 (by omega) (by omega) (by decide)
      generalize hk : (g + (c + 1) * 17389) ^ (3 : Int).toNat % 2147483399 = k
      have k0 : 0 ≤ k := by
        rw [← hk]
        exact Int.emod_nonneg _ (by decide)
      refine ⟨_, rfl, _, _, rfl, rfl, wide_div (b := 20) (by decide) (by decide) (by decide) (by decide), _, rfl, _, rfl, _, _, rfl, rfl, hm, ?_⟩
      exact q _ _ (Int.emod_nonneg _ (by omega)) (Int.emod_lt_of_pos _ hm) ⟨x, c + 1, sd, upd_same, hx, by omega, by omega, hs, hs2⟩ But.upd
theorem ok_frac (T : Tx K mg) : FnOk P w K mg base CX0 1 (He.ga K "_law_frac") T.fd_frac ["_law_up", "_law_down"] spFrac := by
  refine T.F_frac.ok sc_frac (fun vs H Q E h => ?_) (fun cdv A outer s H vs Q E hr h => ?_)
  · obtain ⟨u, d, rfl, _⟩ := h
    rfl
  · obtain ⟨u, d, rfl, hd, hz, q⟩ := h
    refine ⟨_, (pss_cons (ps_par (i := 2) (j := 3) (by rfl) sc_frac.nd rfl rfl (by decide) rfl rfl (pa_cons (pe_callB call_abs (by rfl) T.z_abs (by decide +kernel) (pa_cons (pv 0) pa_nil)) (pa_cons (pe_callB call_abs (by rfl) T.z_abs (by decide +kernel) (pa_cons (pv 1) pa_nil)) pa_nil)) (by rfl))
      (pss_cons (ps_while PassesOwn.never (pt_cmpR op_gt (pv 3) pe_int (nomark _)) (pss_one (ps_par (i := 2) (j := 3) (by rfl) sc_frac.nd rfl rfl (by decide) rfl rfl (pa_cons (pv 3) (pa_cons (pe_op op_mod (pv 2) (pv 3)) pa_nil)) (by rfl))))
      (pss_cons (ps_if (pt_cmpR op_lt (pv 1) pe_int (nomark _)) (pss_one (ps_set (i := 2) sc_frac.nd rfl (.inl rfl) (pe_op op_sub pe_int (pv 2)))) pss_nil)
      (pss_one (ps_ret (pe_tup (pa_cons (pe_op FoA.op_fdivZ (pv 0) (pv 2)) (pa_cons (pe_op FoA.op_fdivZ (pv 1) (pv 2)) pa_nil)))))))), ?_⟩
    refine ⟨_, rfl, _, rfl, _, rfl, _, rfl, _, _, rfl, ?_⟩
    -- the greatest common divisor
    refine ⟨fun k σ H2 => H2 = H ∧ ∃ a b : Int, σ = [some (.int u), some (.int d), some (.int a), some (.int b)] ∧ 0 ≤ a ∧ 0 ≤ b ∧ k = b.toNat ∧ Nat.gcd a.natAbs b.natAbs = Nat.gcd u.natAbs d.natAbs, ⟨_, rfl, _, _, rfl, ?_, ?_, rfl, ?_⟩, ?_⟩
    · split <;> omega
    · split <;> omega
    · congr 1 <;> (split <;> omega)
    rintro k σ H2 ⟨rfl, a, b, rfl, ha, hb, rfl, hg⟩
    refine ⟨_, rfl, _, _, rfl, rfl, _, rfl, ite2 (fun e => ?_) (fun e => ?_)⟩
    · have hb0 : 0 < b := of_decide_eq_true e
      refine ⟨fun σ' H' => H' = H2 ∧ σ' = [some (.int u), some (.int d), some (.int b), some (.int (a % b))], fun σ' H' h => ?_, ?_⟩
      · obtain ⟨rfl, rfl⟩ := h
        have l1 := Int.emod_lt_of_pos a hb0
        have l0 := Int.emod_nonneg a (show b ≠ 0 by omega)
        refine ⟨(a % b).toNat, by omega, rfl, b, a % b, rfl, hb, l0, rfl, ?_⟩
        rw [← hg]
        have e1 : (a % b).natAbs = a.natAbs % b.natAbs := by
          have e2 : ((a.natAbs : Int) % (b.natAbs : Int)) = a % b := by
            rw [Int.natAbs_of_nonneg ha, Int.natAbs_of_nonneg hb]
          rw [← e2]
          omega
        rw [e1, Nat.gcd_comm a.natAbs, Nat.gcd_rec b.natAbs a.natAbs, Nat.gcd_comm]
      · exact ⟨_, rfl, _, rfl, _, rfl, _, _, rfl, rfl, hb0, _, _, rfl, rfl, rfl⟩
    · have hb0 : b = 0 := by
        have := of_decide_eq_false (Bool.eq_false_iff.mpr e)
        omega
      subst hb0
      have hga : a = ((Nat.gcd u.natAbs d.natAbs : Nat) : Int) := by
        rw [← hg]
        simp
        omega
      have hne := FoM.gc_ne (u := u) hd
      have hle := FoM.gc_le (u := u) hd
      have hdz : FoA.CDivZ u (FoM.gc u d) := FoA.divZ_of hne (FoM.Sz.le hz hle) (by decide) (by decide)
      have hdz2 : FoA.CDivZ d (FoM.gc u d) := FoA.divZ_of hne (FoM.Sz.le hz hle) (by decide) (by decide)
      refine ⟨_, rfl, _, _, rfl, rfl, _, rfl, ite2 (fun e2 => ?_) (fun e2 => ?_)⟩
      · have hd0 : d < 0 := of_decide_eq_true e2
        have eg : (0 : Int) - a = FoM.gc u d := by
          unfold FoM.gc
          rw [if_pos hd0, hga]
          omega
        rw [← eg] at hdz hdz2
        refine ⟨_, rfl, _, _, rfl, rfl, _, rfl, _, rfl, _, _, rfl, rfl, hdz, _, rfl, _, rfl, _, _, rfl, rfl, hdz2, (by show 2 ≤ sizeLine; rw [sizeLine_eq]; decide), fun p hp => ?_⟩
        have z := q p hp
        unfold FoM.frN FoM.frD at z
        rw [← eg] at z
        exact z
      · have hd0 : ¬ d < 0 := of_decide_eq_false (Bool.eq_false_iff.mpr e2)
        have eg : a = FoM.gc u d := by
          unfold FoM.gc
          rw [if_neg hd0, hga]
        rw [← eg] at hdz hdz2
        refine ⟨_, rfl, _, rfl, _, _, rfl, rfl, hdz, _, rfl, _, rfl, _, _, rfl, rfl, hdz2, (by show 2 ≤ sizeLine; rw [sizeLine_eq]; decide), fun p hp => ?_⟩
        have z := q p hp
        unfold FoM.frN FoM.frD at z
        rw [← eg] at z
        exact z
theorem ok_plus (T : Tx K mg) : FnOk P w K mg base CX0 2 (He.ga K "_law_plus") T.fd_plus ["_law_x", "_law_y"] (spPlus K) := by
  refine T.F_plus.ok sc_plus (fun vs H Q E h => ?_) (fun cdv A outer s H vs Q E hr h => ?_)
  · obtain ⟨a, b, u, d, v, e, rfl, _⟩ := h
    rfl
  · obtain ⟨a, b, u, d, v, e, rfl, ha, hb, hd, he, zu, zd, zv, ze, q⟩ := h
    refine ⟨_, (pss_one (ps_ret (pe_call (ok_frac T) (hr.mono (by decide)) (by rfl) T.g_frac T.F_frac.kp T.b_frac .nil pass0 (pa_cons (pe_op op_add (pe_op op_mulW (pe_ix ix_tup (pv 0) pe_int (fun _ _ => rfl)) (pe_ix ix_tup (pv 1) pe_int (fun _ _ => rfl))) (pe_op op_mulW (pe_ix ix_tup (pv 1) pe_int (fun _ _ => rfl)) (pe_ix ix_tup (pv 0) pe_int (fun _ _ => rfl)))) (pa_cons (pe_op op_mulW (pe_ix ix_tup (pv 0) pe_int (fun _ _ => rfl)) (pe_ix ix_tup (pv 1) pe_int (fun _ _ => rfl))) pa_nil))))), ?_⟩
    exact ⟨_, rfl, _, _, _, _, rfl, rfl, ha, rfl, _, rfl, _, _, _, _, rfl, rfl, hb, rfl, _, _, rfl, rfl, FoM.Sz.mulok zu ze, _, rfl, _, _, _, _, rfl, rfl, hb, rfl, _, rfl, _, _, _, _, rfl, rfl, ha, rfl, _, _, rfl, rfl, FoM.Sz.mulok zv zd, _, _, rfl, rfl,
      _, rfl, _, _, _, _, rfl, rfl, ha, rfl, _, rfl, _, _, _, _, rfl, rfl, hb, rfl, _, _, rfl, rfl, FoM.Sz.mulok zd ze, _, _, rfl, Int.mul_ne_zero hd he, (zd.mul ze).mono (by decide), q⟩
theorem ok_minus (T : Tx K mg) : FnOk P w K mg base CX0 2 (He.ga K "_law_minus") T.fd_minus ["_law_x", "_law_y"] (spMinus K) := by
  refine T.F_minus.ok sc_minus (fun vs H Q E h => ?_) (fun cdv A outer s H vs Q E hr h => ?_)
  · obtain ⟨a, b, u, d, v, e, rfl, _⟩ := h
    rfl
  · obtain ⟨a, b, u, d, v, e, rfl, ha, hb, hd, he, zu, zd, zv, ze, q⟩ := h
    refine ⟨_, (pss_one (ps_ret (pe_call (ok_frac T) (hr.mono (by decide)) (by rfl) T.g_frac T.F_frac.kp T.b_frac .nil pass0 (pa_cons (pe_op op_sub (pe_op op_mulW (pe_ix ix_tup (pv 0) pe_int (fun _ _ => rfl)) (pe_ix ix_tup (pv 1) pe_int (fun _ _ => rfl))) (pe_op op_mulW (pe_ix ix_tup (pv 1) pe_int (fun _ _ => rfl)) (pe_ix ix_tup (pv 0) pe_int (fun _ _ => rfl)))) (pa_cons (pe_op op_mulW (pe_ix ix_tup (pv 0) pe_int (fun _ _ => rfl)) (pe_ix ix_tup (pv 1) pe_int (fun _ _ => rfl))) pa_nil))))), ?_⟩
    exact ⟨_, rfl, _, _, _, _, rfl, rfl, ha, rfl, _, rfl, _, _, _, _, rfl, rfl, hb, rfl, _, _, rfl, rfl, FoM.Sz.mulok zu ze, _, rfl, _, _, _, _, rfl, rfl, hb, rfl, _, rfl, _, _, _, _, rfl, rfl, ha, rfl, _, _, rfl, rfl, FoM.Sz.mulok zv zd, _, _, rfl, rfl,
      _, rfl, _, _, _, _, rfl, rfl, ha, rfl, _, rfl, _, _, _, _, rfl, rfl, hb, rfl, _, _, rfl, rfl, FoM.Sz.mulok zd ze, _, _, rfl, Int.mul_ne_zero hd he, (zd.mul ze).mono (by decide), q⟩
theorem ok_times (T : Tx K mg) : FnOk P w K mg base CX0 2 (He.ga K "_law_times") T.fd_times ["_law_x", "_law_y"] (spTimes K) := by
  refine T.F_times.ok sc_times (fun vs H Q E h => ?_) (fun cdv A outer s H vs Q E hr h => ?_)
  · obtain ⟨a, b, u, d, v, e, rfl, _⟩ := h
    rfl
  · obtain ⟨a, b, u, d, v, e, rfl, ha, hb, hd, he, zu, zd, zv, ze, q⟩ := h
    refine ⟨_, (pss_one (ps_ret (pe_call (ok_frac T) (hr.mono (by decide)) (by rfl) T.g_frac T.F_frac.kp T.b_frac .nil pass0 (pa_cons (pe_op op_mulW (pe_ix ix_tup (pv 0) pe_int (fun _ _ => rfl)) (pe_ix ix_tup (pv 1) pe_int (fun _ _ => rfl))) (pa_cons (pe_op op_mulW (pe_ix ix_tup (pv 0) pe_int (fun _ _ => rfl)) (pe_ix ix_tup (pv 1) pe_int (fun _ _ => rfl))) pa_nil))))), ?_⟩
    exact ⟨_, rfl, _, _, _, _, rfl, rfl, ha, rfl, _, rfl, _, _, _, _, rfl, rfl, hb, rfl, _, _, rfl, rfl, FoM.Sz.mulok zu zv, _, rfl, _, _, _, _, rfl, rfl, ha, rfl, _, rfl, _, _, _, _, rfl, rfl, hb, rfl, _, _, rfl, rfl, FoM.Sz.mulok zd ze, _, _, rfl, Int.mul_ne_zero hd he, (zd.mul ze).mono (by decide), q⟩
end

/-! ### with rational numbers -/
/-- a fraction's tuple as it stands -/
abbrev qt (r : Rat) : HO := .tup [.int r.num, .int r.den]
def FrQ (H : Hp) (p : Addr) (r : Rat) : Prop := H p = some (qt r)
theorem FrQ.at_ {K : PySem.W.Frag} {H : Hp} {p : Addr} {r : Rat} (h : FrQ H p r) : FrAt K H p r.num r.den := SqT.of h
theorem FrQ.same {H H' : Hp} {p : Addr} {r : Rat} (h : FrQ H p r) (e : Same H H') : FrQ H' p r := e _ _ h
theorem qt_fr {u d : Int} (h : d ≠ 0) : (HO.tup [.int (FoM.frN u d), .int (FoM.frD u d)]) = qt (Rat.divInt u d) := by
  rw [(FoQ.fr_rat h).1, (FoQ.fr_rat h).2]
theorem qt_of {u d : Int} {r : Rat} (h : d ≠ 0) (e : Rat.divInt u d = r) : (HO.tup [.int (FoM.frN u d), .int (FoM.frD u d)]) = qt r := by
  rw [qt_fr h, e]
def spFracQ : Sp := fun vs H Q _ => ∃ u d : Int, vs = [.int u, .int d] ∧ d ≠ 0 ∧ FoM.Sz 4000 d ∧ ∀ p, H p = none → Q (.ref p) (upd H p (qt (Rat.divInt u d)))
def sp2Q (f : Rat → Rat → Rat) : Sp := fun vs H Q _ => ∃ (a b : Addr) (x z : Rat), vs = [.ref a, .ref b] ∧ FrQ H a x ∧ FrQ H b z ∧ FoQ.SzR 1900 x ∧ FoQ.SzR 1900 z ∧ ∀ p, H p = none → Q (.ref p) (upd H p (qt (f x z)))
section
variable {P : Program} {w : World} {K : PySem.W.Frag} {mg : Str → Option Value} {base : Heap}
theorem ok_fracQ (T : Tx K mg) : FnOk P w K mg base CX0 1 (He.ga K "_law_frac") T.fd_frac ["_law_up", "_law_down"] spFracQ := (ok_frac T).imp fun vs H Q E h => by
  obtain ⟨u, d, e, hd, hz, q⟩ := h
  exact ⟨u, d, e, hd, hz, fun p hp => by rw [qt_fr hd]; exact q p hp⟩
theorem ok_plusQ (T : Tx K mg) : FnOk P w K mg base CX0 2 (He.ga K "_law_plus") T.fd_plus ["_law_x", "_law_y"] (sp2Q (· + ·)) := (ok_plus T).imp fun vs H Q E h => by
  obtain ⟨a, b, x, z, e, ha, hb, hx, hz, q⟩ := h
  exact ⟨a, b, x.num, x.den, z.num, z.den, e, ha.at_, hb.at_, FoQ.den_ne x, FoQ.den_ne z, hx.1, hx.2, hz.1, hz.2, fun p hp => by rw [qt_of (Int.mul_ne_zero (FoQ.den_ne x) (FoQ.den_ne z)) (FoQ.q_add x z)]; exact q p hp⟩
theorem ok_minusQ (T : Tx K mg) : FnOk P w K mg base CX0 2 (He.ga K "_law_minus") T.fd_minus ["_law_x", "_law_y"] (sp2Q (· - ·)) := (ok_minus T).imp fun vs H Q E h => by
  obtain ⟨a, b, x, z, e, ha, hb, hx, hz, q⟩ := h
  exact ⟨a, b, x.num, x.den, z.num, z.den, e, ha.at_, hb.at_, FoQ.den_ne x, FoQ.den_ne z, hx.1, hx.2, hz.1, hz.2, fun p hp => by rw [qt_of (Int.mul_ne_zero (FoQ.den_ne x) (FoQ.den_ne z)) (FoQ.q_sub x z)]; exact q p hp⟩
theorem ok_timesQ (T : Tx K mg) : FnOk P w K mg base CX0 2 (He.ga K "_law_times") T.fd_times ["_law_x", "_law_y"] (sp2Q (· * ·)) := (ok_times T).imp fun vs H Q E h => by
  obtain ⟨a, b, x, z, e, ha, hb, hx, hz, q⟩ := h
  exact ⟨a, b, x.num, x.den, z.num, z.den, e, ha.at_, hb.at_, FoQ.den_ne x, FoQ.den_ne z, hx.1, hx.2, hz.1, hz.2, fun p hp => by rw [qt_of (Int.mul_ne_zero (FoQ.den_ne x) (FoQ.den_ne z)) (FoQ.q_mul x z)]; exact q p hp⟩
end

end Fo

set_option maxHeartbeats 4100000
namespace Fo
open PySem PySem.Spec PyProof.Rows L2
/-! ### the class Ratio -/
abbrev RC (K : PySem.W.Frag) : Addr := He.ga K "Ratio"
def rf (a b : Int) : List (Str × V) := putF "_bottom" (.int b) (putF "_top" (.int a) [])
theorem tb_ne : ¬ (("_top" : Str) = "_bottom") := by decide +kernel
theorem rf_top (a b : Int) : (rf a b).lookup ("_top" : Str) = some (.int a) := by
  unfold rf
  rw [lookup_putF, if_neg tb_ne, lookup_putF, if_pos rfl]
theorem rf_bot (a b : Int) : (rf a b).lookup ("_bottom" : Str) = some (.int b) := by
  unfold rf
  rw [lookup_putF, if_pos rfl]
theorem rf_no (a b : Int) {m : Str} (h1 : ¬ m = "_bottom") (h2 : ¬ m = "_top") : (rf a b).lookup m = none := by
  unfold rf
  rw [lookup_putF, if_neg h1, lookup_putF, if_neg h2]
  rfl
/-- at p: the Ratio a / b as its object keeps it -/
def RatAt (K : PySem.W.Frag) (H : Hp) (p : Addr) (a b : Int) : Prop := ∃ dx, H p = some (.ins (RC K) dx (rf a b))
theorem RatAt.same {K : PySem.W.Frag} {H H' : Hp} {p : Addr} {a b : Int} (h : RatAt K H p a b) (e : Same H H') : RatAt K H' p a b :=
  let ⟨dx, q⟩ := h
  ⟨dx, e _ _ q⟩
/-- a number: a Ratio, or an int -/
def NumV (K : PySem.W.Frag) (H : Hp) (y : V) (v e : Int) : Prop := (∃ b, y = .ref b ∧ RatAt K H b v e) ∨ (y = .int v ∧ e = 1)
theorem NumV.same {K : PySem.W.Frag} {H H' : Hp} {y : V} {v e : Int} (h : NumV K H y v e) (s : Same H H') : NumV K H' y v e := by
  rcases h with ⟨b, h1, h2⟩ | h
  · exact .inl ⟨b, h1, h2.same s⟩
  · exact .inr h
/-- a value that is no number -/
inductive NoNum (H : Hp) : V → Prop where
  | non : NoNum H .non
  | bl (b : Bool) : NoNum H (.bl b)
  | str (x : Str) : NoNum H (.str x)
  | lst {a : Addr} {xs : List V} (e : H a = some (.lst xs)) : NoNum H (.ref a)
  | tup {a : Addr} {xs : List V} (e : H a = some (.tup xs)) : NoNum H (.ref a)
  | dK {a : Addr} {xs : List (Key × V)} (e : H a = some (.dK xs)) : NoNum H (.ref a)
theorem NoNum.oth {H : Hp} {C : Addr} {y : V} (h : NoNum H y) : FoA.OthV H C y := by
  cases h with
  | non => exact .non
  | bl b => exact .bl b
  | str x => exact .str x
  | lst e => exact .lst e
  | tup e => exact .tup e
  | dK e => exact .dK e
theorem NumV.oth {K : PySem.W.Frag} {H : Hp} {y : V} {v e : Int} (h : NumV K H y v e) : FoA.OthV H (RC K) y := by
  rcases h with ⟨b, rfl, dx, q⟩ | ⟨rfl, _⟩
  · exact .ins q
  · exact .int _
/-- a plain value's type, and what isinstance tells of it -/
theorem NoNum.ty {K : PySem.W.Frag} {H : Hp} {y : V} (h : NoNum H y) : ∃ T, T ∈ FoZ.tyNames ∧ TyX K H y (.type T) ∧ ∃ b1 b2, PySem.W.kitOne K (.type T) (.type "int") = some b1 ∧ PySem.W.kitOne K (.type T) (.type "bool") = some b2 ∧ (b1 && !b2) = false := by
  cases h with
  | non => exact ⟨"NoneType", by decide, .base .non, false, false, kit_ty (by decide +kernel), kit_ty (by decide +kernel), rfl⟩
  | bl b => exact ⟨"bool", by decide, .base (.bl b), true, true, kit_ty (by decide +kernel), kit_ty (by decide +kernel), rfl⟩
  | str x => exact ⟨"str", by decide, .base (.str x), false, false, kit_ty (by decide +kernel), kit_ty (by decide +kernel), rfl⟩
  | lst e => exact ⟨"list", by decide, .base (.lst e), false, false, kit_ty (by decide +kernel), kit_ty (by decide +kernel), rfl⟩
  | tup e => exact ⟨"tuple", by decide, .base (.tup e), false, false, kit_ty (by decide +kernel), kit_ty (by decide +kernel), rfl⟩
  | dK e => exact ⟨"dict", by decide, .base (.dK e), false, false, kit_ty (by decide +kernel), kit_ty (by decide +kernel), rfl⟩
theorem kit_int {K : PySem.W.Frag} : PySem.W.kitOne K (.type "int") (.type "int") = some true ∧ PySem.W.kitOne K (.type "int") (.type "bool") = some false := ⟨kit_ty (by decide +kernel), kit_ty (by decide +kernel)⟩
def sgn (v : Int) : Int := if v = 0 then 0 else if 0 < v then 1 else -1
/-! ### promises -/
def spInit (K : PySem.W.Frag) : Sp := fun vs H Q _ => ∃ (p dx : Addr) (t b : Int), vs = [.ref p, .int t, .int b] ∧ H p = some (.ins (RC K) dx []) ∧ b ≠ 0 ∧ FoM.Sz 4000 b ∧ ∀ H', RatAt K H' p (FoM.frN t b) (FoM.frD t b) → But p H H' → Q .non H'
def spTop (K : PySem.W.Frag) : Sp := fun vs H Q _ => ∃ (a : Addr) (u d : Int), vs = [.ref a] ∧ RatAt K H a u d ∧ Q (.int u) H
def spBot (K : PySem.W.Frag) : Sp := fun vs H Q _ => ∃ (a : Addr) (u d : Int), vs = [.ref a] ∧ RatAt K H a u d ∧ Q (.int d) H
def spIsInt (K : PySem.W.Frag) : Sp := fun vs H Q _ => ∃ y : V, vs = [y] ∧ (((∃ i, y = .int i) ∧ Q (.bl true) H) ∨ (NoNum H y ∧ Q (.bl false) H))
def spIsNumber (K : PySem.W.Frag) : Sp := fun vs H Q _ => ∃ y : V, vs = [y] ∧ ((∃ v e, NumV K H y v e ∧ Q (.bl true) H) ∨ (NoNum H y ∧ Q (.bl false) H))
def spAs (K : PySem.W.Frag) : Sp := fun vs H Q _ => ∃ (y : V) (v e : Int), vs = [y] ∧ NumV K H y v e ∧ ∀ b H', Same H H' → RatAt K H' b v e → Q (.ref b) H'
def spSign (K : PySem.W.Frag) : Sp := fun vs H Q _ => ∃ (y : V) (v e : Int), vs = [y] ∧ NumV K H y v e ∧ ∀ H', Same H H' → Q (.int (sgn v)) H'
def spEq (K : PySem.W.Frag) : Sp := fun vs H Q _ => ∃ (a : Addr) (y : V) (u d : Int), vs = [.ref a, y] ∧ RatAt K H a u d ∧
  ((∃ (b : Addr) (v e : Int), y = .ref b ∧ RatAt K H b v e ∧ Q (.bl (decide (u = v) && decide (d = e))) H) ∨ (∃ i, y = .int i ∧ Q (.bl (decide (d = 1) && decide (u = i))) H) ∨ (NoNum H y ∧ Q (.bl false) H))
/-- an operation of a Ratio and a number: what is told -/
def spCmp (K : PySem.W.Frag) (f : Int → Int → Bool) : Sp := fun vs H Q _ => ∃ (a : Addr) (y : V) (u d v e : Int), vs = [.ref a, y] ∧ RatAt K H a u d ∧ NumV K H y v e ∧
  FoM.Sz 1900 u ∧ FoM.Sz 1900 d ∧ FoM.Sz 1900 v ∧ FoM.Sz 1900 e ∧ ∀ H', Same H H' → Q (.bl (f (u * e) (v * d))) H'
def spOp (K : PySem.W.Frag) (N D : Int → Int → Int → Int → Int) (C : Int → Int → Prop) : Sp := fun vs H Q _ => ∃ (a : Addr) (y : V) (u d v e : Int), vs = [.ref a, y] ∧ RatAt K H a u d ∧ NumV K H y v e ∧ d ≠ 0 ∧ C v e ∧
  FoM.Sz 1900 u ∧ FoM.Sz 1900 d ∧ FoM.Sz 1900 v ∧ FoM.Sz 1900 e ∧ ∀ p H', H p = none → Same H H' → RatAt K H' p (FoM.frN (N u d v e) (D u d v e)) (FoM.frD (N u d v e) (D u d v e)) → Q (.ref p) H'
abbrev spAdd (K : PySem.W.Frag) : Sp := spOp K (fun u d v e => u * e + v * d) (fun _ d _ e => d * e) (fun _ e => e ≠ 0)
abbrev spSub (K : PySem.W.Frag) : Sp := spOp K (fun u d v e => u * e - v * d) (fun _ d _ e => d * e) (fun _ e => e ≠ 0)
abbrev spMul (K : PySem.W.Frag) : Sp := spOp K (fun u _ v _ => u * v) (fun _ d _ e => d * e) (fun _ e => e ≠ 0)
abbrev spOver (K : PySem.W.Frag) : Sp := spOp K (fun u _ _ e => u * e) (fun _ d v _ => d * v) (fun v _ => v ≠ 0)
def spNeg (K : PySem.W.Frag) : Sp := fun vs H Q _ => ∃ (a : Addr) (u d : Int), vs = [.ref a] ∧ RatAt K H a u d ∧ d ≠ 0 ∧ FoM.Sz 4000 d ∧ ∀ p H', H p = none → Same H H' → RatAt K H' p (FoM.frN (-u) d) (FoM.frD (-u) d) → Q (.ref p) H'
section
variable {P : Program} {w : World} {K : PySem.W.Frag} {mg : Str → Option Value} {base : Heap}
theorem bind_init2 (T : Tx K mg) : Binds K T.fd_Ratio_init ["self", "top", "bottom"] [] := by
  obtain ⟨ds, v, b⟩ := T.F_Ratio_init.binds1 (ps := ["self", "top", "bottom"]) 3 1 (by simp) rfl (fun X kV doc pm an cdv ct us its l1 l2 => match us, its, l1, l2 with | [_, _, _], [_], _, _ => ⟨_, rfl, rfl⟩)
  cases v
  exact b
theorem bind_init1 (T : Tx K mg) : ∃ ds, Vals [.int 1] ds ∧ Binds K T.fd_Ratio_init ["self", "top", "bottom"] ds :=
  T.F_Ratio_init.binds1 (ps := ["self", "top", "bottom"]) 2 0 (by simp) rfl (fun X kV doc pm an cdv ct us its l1 l2 => match us, its, l1, l2 with | [_, _], [_], _, _ => ⟨_, rfl, rfl⟩)
theorem ok_Ratio_init (T : Tx K mg) : FnOk P w K mg base CX0 1 (He.ma K (He.ga K "Ratio") "__init__") T.fd_Ratio_init ["self", "top", "bottom"] (spInit K) := by
  refine T.F_Ratio_init.ok sc_Ratio_init (fun vs H Q E h => ?_) (fun cdv A outer s H vs Q E hr h => ?_)
  · obtain ⟨p, dx, t, b, rfl, _⟩ := h
    rfl
  · obtain ⟨p, dx, t, b, rfl, hp, hb, hz, q⟩ := h
    refine ⟨_, (pss_cons (ps_if (pt_cmpR op_eq (pv 2) pe_int (nomark _)) (pss_one ps_never) pss_nil)
      (pss_cons (ps_set (i := 3) sc_Ratio_init.nd rfl (.inl rfl) (pe_callBfun cr_gcd (by rfl) T.i_gcd (pa_cons (pv 1) (pa_cons (pv 2) pa_nil))))
      (pss_cons (ps_if (pt_cmpR op_lt (pv 2) pe_int (nomark _)) (pss_one (ps_set (i := 3) sc_Ratio_init.nd rfl (.inl rfl) (pe_un un_neg (pv 3)))) pss_nil)
      (pss_cons (ps_fld (pv 0) (pe_op FoA.op_fdivZ (pv 1) (pv 3)) rfl)
      (pss_one (ps_fld (pv 0) (pe_op FoA.op_fdivZ (pv 2) (pv 3)) rfl)))))), ?_⟩
    refine ⟨_, rfl, rfl, _, rfl, ite2 (fun e => absurd (V.int.inj (of_decide_eq_true e)) hb) (fun e => ?_)⟩
    refine ⟨_, rfl, _, rfl, _, _, rfl, ?_⟩
    have hne := FoM.gc_ne (u := t) hb
    have hle := FoM.gc_le (u := t) hb
    have hdz : FoA.CDivZ t (FoM.gc t b) := FoA.divZ_of hne (FoM.Sz.le hz hle) (by decide) (by decide)
    have hdz2 : FoA.CDivZ b (FoM.gc t b) := FoA.divZ_of hne (FoM.Sz.le hz hle) (by decide) (by decide)
    have fin : RatAt K (upd (upd H p (.ins (RC K) dx (putF "_top" (.int (FoM.frN t b)) []))) p (.ins (RC K) dx (putF "_bottom" (.int (FoM.frD t b)) (putF "_top" (.int (FoM.frN t b)) [])))) p (FoM.frN t b) (FoM.frD t b) := ⟨dx, upd_same⟩
    have fb : But p H (upd (upd H p (.ins (RC K) dx (putF "_top" (.int (FoM.frN t b)) []))) p (.ins (RC K) dx (putF "_bottom" (.int (FoM.frD t b)) (putF "_top" (.int (FoM.frN t b)) [])))) := But.upd.trans But.upd
    have last := q _ fin fb
    unfold FoM.frN FoM.frD at last
    refine ⟨_, rfl, _, _, rfl, rfl, _, rfl, ite2 (fun e2 => ?_) (fun e2 => ?_)⟩
    · have hd0 : b < 0 := of_decide_eq_true e2
      have eg : -((Nat.gcd t.natAbs b.natAbs : Nat) : Int) = FoM.gc t b := by
        unfold FoM.gc
        rw [if_pos hd0]
      rw [← eg] at hdz hdz2 last
      exact ⟨_, rfl, _, rfl, _, rfl, _, rfl, _, _, rfl, rfl, hdz, _, rfl, p, _, dx, _, rfl, hp, T.cl_R, T.nT_R, (by show 0 < 1000; decide), _, rfl, _, rfl, _, _, rfl, rfl, hdz2, _, rfl, p, _, dx, _, rfl, upd_same, T.cl_R, T.nB_R, (by show 1 < 1000; decide), last⟩
    · have hd0 : ¬ b < 0 := of_decide_eq_false (Bool.eq_false_iff.mpr e2)
      have eg : ((Nat.gcd t.natAbs b.natAbs : Nat) : Int) = FoM.gc t b := by
        unfold FoM.gc
        rw [if_neg hd0]
      rw [← eg] at hdz hdz2 last
      exact ⟨_, rfl, _, rfl, _, _, rfl, rfl, hdz, _, rfl, p, _, dx, _, rfl, hp, T.cl_R, T.nT_R, (by show 0 < 1000; decide), _, rfl, _, rfl, _, _, rfl, rfl, hdz2, _, rfl, p, _, dx, _, rfl, upd_same, T.cl_R, T.nB_R, (by show 1 < 1000; decide), last⟩
/-- what a call of Ratio asks, of a number and another one that is not 0 -/
theorem rd_make {H : Hp} {t b : Int} {Q : VK} {E : XK} (hb : b ≠ 0) (hz : FoM.Sz 4000 b) (q : ∀ p H', H p = none → Same H H' → RatAt K H' p (FoM.frN t b) (FoM.frD t b) → Q (.ref p) H') :
    ∀ x dx, H x = none → H dx = none → dx ≠ x → spInit K [.ref x, .int t, .int b] (upd (upd H dx (.own x)) x (.ins (RC K) dx [])) (fun v H2 => v = .non ∧ Q (.ref x) H2) E := fun x dx nx ndx ne =>
  ⟨x, dx, t, b, rfl, upd_same, hb, hz, fun H' hR hB => ⟨rfl, q x H' nx (Same.made nx ndx hB) hR⟩⟩
theorem ok_Ratio_top (T : Tx K mg) : FnOk P w K mg base CX0 1 (FoZ.pg K "Ratio" "top") T.fd_Ratio_top ["self"] (spTop K) := by
  refine T.F_Ratio_top.ok sc_Ratio_top (fun vs H Q E h => ?_) (fun cdv A outer s H vs Q E hr h => ?_)
  · obtain ⟨a, u, d, rfl, _⟩ := h
    rfl
  · obtain ⟨a, u, d, rfl, ⟨dx, ha⟩, q⟩ := h
    exact ⟨_, (pss_one (ps_ret (pe_fld (pv 0) rfl))), ⟨_, rfl, a, _, dx, _, _, rfl, ha, T.cl_R, T.nT_R, rf_top _ _, q⟩⟩
theorem ok_Ratio_bottom (T : Tx K mg) : FnOk P w K mg base CX0 1 (FoZ.pg K "Ratio" "bottom") T.fd_Ratio_bottom ["self"] (spBot K) := by
  refine T.F_Ratio_bottom.ok sc_Ratio_bottom (fun vs H Q E h => ?_) (fun cdv A outer s H vs Q E hr h => ?_)
  · obtain ⟨a, u, d, rfl, _⟩ := h
    rfl
  · obtain ⟨a, u, d, rfl, ⟨dx, ha⟩, q⟩ := h
    exact ⟨_, (pss_one (ps_ret (pe_fld (pv 0) rfl))), ⟨_, rfl, a, _, dx, _, _, rfl, ha, T.cl_R, T.nB_R, rf_bot _ _, q⟩⟩
theorem ok_is_whole (T : Tx K mg) : FnOk P w K mg base CX0 1 (He.ga K "is_whole") T.fd_is_whole ["given"] (spIsInt K) := by
  refine T.F_is_whole.ok sc_is_whole (fun vs H Q E h => ?_) (fun cdv A outer s H vs Q E hr h => ?_)
  · obtain ⟨y, rfl, _⟩ := h
    rfl
  · obtain ⟨y, rfl, h⟩ := h
    refine ⟨_, (pss_one (ps_ret (pe_and (pe_callB call_isi (by rfl) T.z_isinstance (by decide +kernel) (pa_cons (pv 0) (pa_cons (pe_bltn (v := V.ty "int") (u := Value.type "int") (by rfl) T.z_int (by decide +kernel) rfl) pa_nil))) (pe_one (pe_not (pe_callB call_isi (by rfl) T.z_isinstance (by decide +kernel) (pa_cons (pv 0) (pa_cons (pe_bltn (v := V.ty "bool") (u := Value.type "bool") (by rfl) T.z_bool (by decide +kernel) rfl) pa_nil)))))))), ?_⟩
    rcases h with ⟨⟨i, rfl⟩, q⟩ | ⟨hN, q⟩
    · refine ⟨_, rfl, _, _, _, _, _, rfl, .ty _, .base (.int i), kit_int.1, _, rfl, iteT ?_⟩
      exact ⟨_, rfl, _, _, _, _, _, rfl, .ty _, .base (.int i), kit_int.2, _, rfl, q⟩
    · obtain ⟨X, hX, ty, b1, b2, k1, k2, hb⟩ := hN.ty (K := K)
      refine ⟨_, rfl, _, _, _, _, _, rfl, .ty _, ty, k1, _, rfl, ?_⟩
      cases b1 with
      | false => exact iteF q
      | true =>
        cases b2 with
        | false => cases hb
        | true => exact iteT ⟨_, rfl, _, _, _, _, _, rfl, .ty _, ty, k2, _, rfl, q⟩
theorem ok_is_number (T : Tx K mg) : FnOk P w K mg base CX0 2 (He.ga K "is_number") T.fd_is_number ["given"] (spIsNumber K) := by
  refine T.F_is_number.ok sc_is_number (fun vs H Q E h => ?_) (fun cdv A outer s H vs Q E hr h => ?_)
  · obtain ⟨y, rfl, _⟩ := h
    rfl
  · obtain ⟨y, rfl, h⟩ := h
    refine ⟨_, (pss_one (ps_ret (pe_or (pe_callB call_isi (by rfl) T.z_isinstance (by decide +kernel) (pa_cons (pv 0) (pa_cons (pe_glob (v := V.ref (He.ga K "Ratio")) (by rfl) T.c_Ratio rfl) pa_nil))) (pe_one (pe_call (ok_is_whole T) (hr.mono (by decide)) (by rfl) T.g_is_whole T.F_is_whole.kp T.b_is_whole .nil pass0 (pa_cons (pv 0) pa_nil)))))), ?_⟩
    rcases h with ⟨v, e, ⟨b, rfl, dx, hb⟩ | ⟨rfl, rfl⟩, q⟩ | ⟨hN, q⟩
    · exact ⟨_, rfl, _, _, _, _, _, rfl, .own _, FoB.TyI T.is_R T.cl_R hb, FoB.kit_self, _, rfl, iteT q⟩
    · refine ⟨_, rfl, _, _, _, _, _, rfl, .own _, .base (.int v), T.is_R.kt "int" (by decide), _, rfl, iteF ?_⟩
      exact ⟨_, rfl, _, rfl, .inl ⟨⟨v, rfl⟩, q⟩⟩
    · obtain ⟨X, hX, ty, _⟩ := hN.ty (K := K)
      refine ⟨_, rfl, _, _, _, _, _, rfl, .own _, ty, T.is_R.kt X hX, _, rfl, iteF ?_⟩
      exact ⟨_, rfl, _, rfl, .inr ⟨hN, q⟩⟩
theorem ok_as_ratio (T : Tx K mg) : FnOk P w K mg base CX0 3 (He.ga K "as_ratio") T.fd_as_ratio ["given"] (spAs K) := by
  refine T.F_as_ratio.ok sc_as_ratio (fun vs H Q E h => ?_) (fun cdv A outer s H vs Q E hr h => ?_)
  · obtain ⟨y, v, e, rfl, _⟩ := h
    rfl
  · obtain ⟨y, v, e, rfl, hy, q⟩ := h
    obtain ⟨ds, vd, bd⟩ := bind_init1 T
    refine ⟨_, (pss_cons (ps_if (pt_not (pt_val (pe_call (ok_is_number T) (hr.mono (by decide)) (by rfl) T.g_is_number T.F_is_number.kp T.b_is_number .nil pass0 (pa_cons (pv 0) pa_nil)))) (pss_one ps_never) pss_nil)
      (pss_one (ps_ret (pe_ifExp (pt_val (pe_callB call_isi (by rfl) T.z_isinstance (by decide +kernel) (pa_cons (pv 0) (pa_cons (pe_glob (v := V.ref (He.ga K "Ratio")) (by rfl) T.c_Ratio rfl) pa_nil)))) (pv 0) (pe_make T.mk_R (ok_Ratio_init T) (hr.mono (by decide)) (by rfl) T.c_Ratio bd vd pass0 (pa_cons (pv 0) pa_nil)))))), ?_⟩
    refine ⟨_, rfl, y, rfl, .inl ⟨v, e, hy, _, rfl, iteF ?_⟩⟩
    rcases hy with ⟨b, rfl, hb⟩ | ⟨rfl, rfl⟩
    · obtain ⟨dx, hb'⟩ := id hb
      refine ⟨_, rfl, _, _, _, _, _, rfl, .own _, FoB.TyI T.is_R T.cl_R hb', FoB.kit_self, _, rfl, iteT ?_⟩
      exact ⟨_, rfl, q b H (Same.refl H) hb⟩
    · refine ⟨_, rfl, _, _, _, _, _, rfl, .own _, .base (.int v), T.is_R.kt "int" (by decide), _, rfl, iteF ?_⟩
      refine ⟨_, rfl, rd_make (by decide) (sz_of 1000000 (by decide) (by decide) (Nat.le_trans (by decide) (Nat.pow_le_pow_right (by decide) (show 20 ≤ 4000 by decide)))) fun p H' np sm hR => ?_⟩
      rw [(FoM.fr_one v).1, (FoM.fr_one v).2] at hR
      exact q p H' sm hR
theorem ok_Ratio_eq (T : Tx K mg) : FnOk P w K mg base CX0 2 (He.ma K (He.ga K "Ratio") "__eq__") T.fd_Ratio_eq ["self", "other"] (spEq K) := by
  refine T.F_Ratio_eq.ok sc_Ratio_eq (fun vs H Q E h => ?_) (fun cdv A outer s H vs Q E hr h => ?_)
  · obtain ⟨a, y, u, d, rfl, _⟩ := h
    rfl
  · obtain ⟨a, y, u, d, rfl, ⟨dx, ha⟩, h⟩ := h
    refine ⟨_, (pss_cons (ps_if (pt_val (pe_callB call_isi (by rfl) T.z_isinstance (by decide +kernel) (pa_cons (pv 1) (pa_cons (pe_glob (v := V.ref (He.ga K "Ratio")) (by rfl) T.c_Ratio rfl) pa_nil)))) (pss_one (ps_ret (pe_and (pe_cmpR op_eq (pe_fld (pv 0) rfl) (pe_fld (pv 1) rfl) (nomark _)) (pe_one (pe_cmpR op_eq (pe_fld (pv 0) rfl) (pe_fld (pv 1) rfl) (nomark _)))))) pss_nil)
      (pss_one (ps_ret (pe_and (pe_call (ok_is_whole T) (hr.mono (by decide)) (by rfl) T.g_is_whole T.F_is_whole.kp T.b_is_whole .nil pass0 (pa_cons (pv 1) pa_nil)) (pe_and (pe_cmpR op_eq (pe_fld (pv 0) rfl) pe_int (nomark _)) (pe_one (pe_cmpR op_eq (pe_fld (pv 0) rfl) (pv 1) (nomark _)))))))), ?_⟩
    rcases h with ⟨b, v, e, rfl, ⟨dy, hb⟩, q⟩ | ⟨i, rfl, q⟩ | ⟨hN, q⟩
    · refine ⟨_, rfl, _, _, _, _, _, rfl, .own _, FoB.TyI T.is_R T.cl_R hb, FoB.kit_self, _, rfl, iteT ?_⟩
      refine ⟨_, rfl, a, _, dx, _, _, rfl, ha, T.cl_R, T.nT_R, rf_top _ _, _, rfl, b, _, dy, _, _, rfl, hb, T.cl_R, T.nT_R, rf_top _ _, rfl, _, rfl, ?_⟩
      by_cases e1 : u = v
      · rw [decide_eq_true e1, Bool.true_and] at q
        rw [decide_eq_true (show V.int u = V.int v by rw [e1])]
        refine iteT ⟨_, rfl, a, _, dx, _, _, rfl, ha, T.cl_R, T.nB_R, rf_bot _ _, _, rfl, b, _, dy, _, _, rfl, hb, T.cl_R, T.nB_R, rf_bot _ _, rfl, ?_⟩
        have e2 : decide (V.int d = V.int e) = decide (d = e) := by
          by_cases z : d = e
          · rw [z]; simp
          · rw [decide_eq_false z, decide_eq_false (fun h => z (V.int.inj h))]
        show Q (.bl (decide (V.int d = V.int e))) H
        rw [e2]
        exact q
      · rw [decide_eq_false e1, Bool.false_and] at q
        rw [decide_eq_false (fun h : V.int u = V.int v => e1 (V.int.inj h))]
        exact iteF q
    · refine ⟨_, rfl, _, _, _, _, _, rfl, .own _, .base (.int i), T.is_R.kt "int" (by decide), _, rfl, iteF ?_⟩
      refine ⟨_, rfl, _, rfl, .inl ⟨⟨i, rfl⟩, _, rfl, iteT ?_⟩⟩
      refine ⟨_, rfl, a, _, dx, _, _, rfl, ha, T.cl_R, T.nB_R, rf_bot _ _, rfl, _, rfl, ?_⟩
      by_cases e1 : d = 1
      · rw [decide_eq_true e1, Bool.true_and] at q
        rw [decide_eq_true (show V.int d = V.int 1 by rw [e1])]
        refine iteT ⟨_, rfl, a, _, dx, _, _, rfl, ha, T.cl_R, T.nT_R, rf_top _ _, _, rfl, rfl, ?_⟩
        have e2 : decide (V.int u = V.int i) = decide (u = i) := by
          by_cases z : u = i
          · rw [z]; simp
          · rw [decide_eq_false z, decide_eq_false (fun h => z (V.int.inj h))]
        show Q (.bl (decide (V.int u = V.int i))) H
        rw [e2]
        exact q
      · rw [decide_eq_false e1, Bool.false_and] at q
        rw [decide_eq_false (fun h : V.int d = V.int 1 => e1 (V.int.inj h))]
        exact iteF q
    · obtain ⟨X, hX, ty, _⟩ := hN.ty (K := K)
      refine ⟨_, rfl, _, _, _, _, _, rfl, .own _, ty, T.is_R.kt X hX, _, rfl, iteF ?_⟩
      exact ⟨_, rfl, _, rfl, .inr ⟨hN, _, rfl, iteF q⟩⟩
theorem ok_Ratio_add (T : Tx K mg) : FnOk P w K mg base CX0 4 (He.ma K (He.ga K "Ratio") "__add__") T.fd_Ratio_add ["self", "other"] (spAdd K) := by
  refine T.F_Ratio_add.ok sc_Ratio_add (fun vs H Q E h => ?_) (fun cdv A outer s H vs Q E hr h => ?_)
  · obtain ⟨a, y, u, d, v, e, rfl, _⟩ := h
    rfl
  · obtain ⟨a, y, u, d, v, e, rfl, ha, hy, hd, he, zu, zd, zv, ze, q⟩ := h
    refine ⟨_, (pss_cons (ps_set (i := 2) sc_Ratio_add.nd rfl (.inl rfl) (pe_call (ok_as_ratio T) (hr.mono (by decide)) (by rfl) T.g_as_ratio T.F_as_ratio.kp T.b_as_ratio .nil pass0 (pa_cons (pv 1) pa_nil)))
      (pss_one (ps_ret (pe_make T.mk_R (ok_Ratio_init T) (hr.mono (by decide)) (by rfl) T.c_Ratio (bind_init2 T) .nil pass0 (pa_cons (pe_op op_add (pe_op op_mulW (pe_fld (pv 0) rfl) (pe_fld (pv 2) rfl)) (pe_op op_mulW (pe_fld (pv 2) rfl) (pe_fld (pv 0) rfl))) (pa_cons (pe_op op_mulW (pe_fld (pv 0) rfl) (pe_fld (pv 2) rfl)) pa_nil)))))), ?_⟩
    refine ⟨_, rfl, y, v, e, rfl, hy, fun b H' sm hb => ?_⟩
    obtain ⟨dx, ha'⟩ := ha.same sm
    obtain ⟨dy, hb'⟩ := hb
    exact ⟨_, rfl, a, _, dx, _, _, rfl, ha', T.cl_R, T.nT_R, rf_top _ _, _, rfl, b, _, dy, _, _, rfl, hb', T.cl_R, T.nB_R, rf_bot _ _, _, _, rfl, rfl, FoM.Sz.mulok zu ze, _, rfl, b, _, dy, _, _, rfl, hb', T.cl_R, T.nT_R, rf_top _ _, _, rfl, a, _, dx, _, _, rfl, ha', T.cl_R, T.nB_R, rf_bot _ _, _, _, rfl, rfl, FoM.Sz.mulok zv zd, _, _, rfl, rfl,
      _, rfl, a, _, dx, _, _, rfl, ha', T.cl_R, T.nB_R, rf_bot _ _, _, rfl, b, _, dy, _, _, rfl, hb', T.cl_R, T.nB_R, rf_bot _ _, _, _, rfl, rfl, FoM.Sz.mulok zd ze, rd_make (Int.mul_ne_zero hd he) ((zd.mul ze).mono (by decide)) fun p H2 np sm2 hR => q p H2 (sm.free np) (sm.trans sm2) hR⟩
theorem ok_Ratio_sub (T : Tx K mg) : FnOk P w K mg base CX0 4 (He.ma K (He.ga K "Ratio") "__sub__") T.fd_Ratio_sub ["self", "other"] (spSub K) := by
  refine T.F_Ratio_sub.ok sc_Ratio_sub (fun vs H Q E h => ?_) (fun cdv A outer s H vs Q E hr h => ?_)
  · obtain ⟨a, y, u, d, v, e, rfl, _⟩ := h
    rfl
  · obtain ⟨a, y, u, d, v, e, rfl, ha, hy, hd, he, zu, zd, zv, ze, q⟩ := h
    refine ⟨_, (pss_cons (ps_set (i := 2) sc_Ratio_sub.nd rfl (.inl rfl) (pe_call (ok_as_ratio T) (hr.mono (by decide)) (by rfl) T.g_as_ratio T.F_as_ratio.kp T.b_as_ratio .nil pass0 (pa_cons (pv 1) pa_nil)))
      (pss_one (ps_ret (pe_make T.mk_R (ok_Ratio_init T) (hr.mono (by decide)) (by rfl) T.c_Ratio (bind_init2 T) .nil pass0 (pa_cons (pe_op op_sub (pe_op op_mulW (pe_fld (pv 0) rfl) (pe_fld (pv 2) rfl)) (pe_op op_mulW (pe_fld (pv 2) rfl) (pe_fld (pv 0) rfl))) (pa_cons (pe_op op_mulW (pe_fld (pv 0) rfl) (pe_fld (pv 2) rfl)) pa_nil)))))), ?_⟩
    refine ⟨_, rfl, y, v, e, rfl, hy, fun b H' sm hb => ?_⟩
    obtain ⟨dx, ha'⟩ := ha.same sm
    obtain ⟨dy, hb'⟩ := hb
    exact ⟨_, rfl, a, _, dx, _, _, rfl, ha', T.cl_R, T.nT_R, rf_top _ _, _, rfl, b, _, dy, _, _, rfl, hb', T.cl_R, T.nB_R, rf_bot _ _, _, _, rfl, rfl, FoM.Sz.mulok zu ze, _, rfl, b, _, dy, _, _, rfl, hb', T.cl_R, T.nT_R, rf_top _ _, _, rfl, a, _, dx, _, _, rfl, ha', T.cl_R, T.nB_R, rf_bot _ _, _, _, rfl, rfl, FoM.Sz.mulok zv zd, _, _, rfl, rfl,
      _, rfl, a, _, dx, _, _, rfl, ha', T.cl_R, T.nB_R, rf_bot _ _, _, rfl, b, _, dy, _, _, rfl, hb', T.cl_R, T.nB_R, rf_bot _ _, _, _, rfl, rfl, FoM.Sz.mulok zd ze, rd_make (Int.mul_ne_zero hd he) ((zd.mul ze).mono (by decide)) fun p H2 np sm2 hR => q p H2 (sm.free np) (sm.trans sm2) hR⟩
theorem ok_Ratio_mul (T : Tx K mg) : FnOk P w K mg base CX0 4 (He.ma K (He.ga K "Ratio") "__mul__") T.fd_Ratio_mul ["self", "other"] (spMul K) := by
  refine T.F_Ratio_mul.ok sc_Ratio_mul (fun vs H Q E h => ?_) (fun cdv A outer s H vs Q E hr h => ?_)
  · obtain ⟨a, y, u, d, v, e, rfl, _⟩ := h
    rfl
  · obtain ⟨a, y, u, d, v, e, rfl, ha, hy, hd, he, zu, zd, zv, ze, q⟩ := h
    refine ⟨_, (pss_cons (ps_set (i := 2) sc_Ratio_mul.nd rfl (.inl rfl) (pe_call (ok_as_ratio T) (hr.mono (by decide)) (by rfl) T.g_as_ratio T.F_as_ratio.kp T.b_as_ratio .nil pass0 (pa_cons (pv 1) pa_nil)))
      (pss_one (ps_ret (pe_make T.mk_R (ok_Ratio_init T) (hr.mono (by decide)) (by rfl) T.c_Ratio (bind_init2 T) .nil pass0 (pa_cons (pe_op op_mulW (pe_fld (pv 0) rfl) (pe_fld (pv 2) rfl)) (pa_cons (pe_op op_mulW (pe_fld (pv 0) rfl) (pe_fld (pv 2) rfl)) pa_nil)))))), ?_⟩
    refine ⟨_, rfl, y, v, e, rfl, hy, fun b H' sm hb => ?_⟩
    obtain ⟨dx, ha'⟩ := ha.same sm
    obtain ⟨dy, hb'⟩ := hb
    exact ⟨_, rfl, a, _, dx, _, _, rfl, ha', T.cl_R, T.nT_R, rf_top _ _, _, rfl, b, _, dy, _, _, rfl, hb', T.cl_R, T.nT_R, rf_top _ _, _, _, rfl, rfl, FoM.Sz.mulok zu zv,
      _, rfl, a, _, dx, _, _, rfl, ha', T.cl_R, T.nB_R, rf_bot _ _, _, rfl, b, _, dy, _, _, rfl, hb', T.cl_R, T.nB_R, rf_bot _ _, _, _, rfl, rfl, FoM.Sz.mulok zd ze, rd_make (Int.mul_ne_zero hd he) ((zd.mul ze).mono (by decide)) fun p H2 np sm2 hR => q p H2 (sm.free np) (sm.trans sm2) hR⟩
theorem ok_Ratio_neg (T : Tx K mg) : FnOk P w K mg base CX0 3 (He.ma K (He.ga K "Ratio") "__neg__") T.fd_Ratio_neg ["self"] (spNeg K) := by
  refine T.F_Ratio_neg.ok sc_Ratio_neg (fun vs H Q E h => ?_) (fun cdv A outer s H vs Q E hr h => ?_)
  · obtain ⟨a, u, d, rfl, _⟩ := h
    rfl
  · obtain ⟨a, u, d, rfl, ⟨dx, ha'⟩, hd, hz, q⟩ := h
    refine ⟨_, (pss_one (ps_ret (pe_make T.mk_R (ok_Ratio_init T) (hr.mono (by decide)) (by rfl) T.c_Ratio (bind_init2 T) .nil pass0 (pa_cons (pe_un un_neg (pe_fld (pv 0) rfl)) (pa_cons (pe_fld (pv 0) rfl) pa_nil))))), ?_⟩
    exact ⟨_, rfl, a, _, dx, _, _, rfl, ha', T.cl_R, T.nT_R, rf_top _ _, _, rfl, _, rfl, a, _, dx, _, _, rfl, ha', T.cl_R, T.nB_R, rf_bot _ _, rd_make hd hz q⟩
end

/-! ### the class Ratio, with rational numbers -/
def RtAt (K : PySem.W.Frag) (H : Hp) (p : Addr) (r : Rat) : Prop := RatAt K H p r.num r.den
theorem RtAt.same {K : PySem.W.Frag} {H H' : Hp} {p : Addr} {r : Rat} (h : RtAt K H p r) (e : Same H H') : RtAt K H' p r := RatAt.same h e
def NmV (K : PySem.W.Frag) (H : Hp) (y : V) (r : Rat) : Prop := (∃ b, y = .ref b ∧ RtAt K H b r) ∨ (∃ i : Int, y = .int i ∧ r = (i : Rat))
theorem NmV.num {K : PySem.W.Frag} {H : Hp} {y : V} {r : Rat} (h : NmV K H y r) : NumV K H y r.num r.den := by
  rcases h with ⟨b, rfl, hb⟩ | ⟨i, rfl, rfl⟩
  · exact .inl ⟨b, rfl, hb⟩
  · refine .inr ⟨?_, ?_⟩
    · rw [Rat.num_intCast]
    · rw [Rat.den_intCast]
      rfl
theorem NmV.same {K : PySem.W.Frag} {H H' : Hp} {y : V} {r : Rat} (h : NmV K H y r) (s : Same H H') : NmV K H' y r := by
  rcases h with ⟨b, h1, h2⟩ | h
  · exact .inl ⟨b, h1, h2.same s⟩
  · exact .inr h
theorem RtAt.nm {K : PySem.W.Frag} {H : Hp} {p : Addr} {r : Rat} (h : RtAt K H p r) : NmV K H (.ref p) r := .inl ⟨p, rfl, h⟩
theorem rt_of {K : PySem.W.Frag} {H : Hp} {p : Addr} {u d : Int} {r : Rat} (h : d ≠ 0) (e : Rat.divInt u d = r) (q : RatAt K H p (FoM.frN u d) (FoM.frD u d)) : RtAt K H p r := by
  rw [(FoQ.fr_of h e).1, (FoQ.fr_of h e).2] at q
  exact q
def spInitQ (K : PySem.W.Frag) : Sp := fun vs H Q _ => ∃ (p dx : Addr) (t b : Int), vs = [.ref p, .int t, .int b] ∧ H p = some (.ins (RC K) dx []) ∧ b ≠ 0 ∧ FoM.Sz 4000 b ∧ ∀ H', RtAt K H' p (Rat.divInt t b) → But p H H' → Q .non H'
def spTopQ (K : PySem.W.Frag) : Sp := fun vs H Q _ => ∃ (a : Addr) (r : Rat), vs = [.ref a] ∧ RtAt K H a r ∧ Q (.int r.num) H
def spBotQ (K : PySem.W.Frag) : Sp := fun vs H Q _ => ∃ (a : Addr) (r : Rat), vs = [.ref a] ∧ RtAt K H a r ∧ Q (.int r.den) H
def spAsQ (K : PySem.W.Frag) : Sp := fun vs H Q _ => ∃ (y : V) (r : Rat), vs = [y] ∧ NmV K H y r ∧ ∀ b H', Same H H' → RtAt K H' b r → Q (.ref b) H'
def spEqQ (K : PySem.W.Frag) : Sp := fun vs H Q _ => ∃ (a : Addr) (y : V) (x : Rat), vs = [.ref a, y] ∧ RtAt K H a x ∧ ((∃ z, NmV K H y z ∧ Q (.bl (decide (x = z))) H) ∨ (NoNum H y ∧ Q (.bl false) H))
def spOpQ (K : PySem.W.Frag) (f : Rat → Rat → Rat) (C : Rat → Prop) : Sp := fun vs H Q _ => ∃ (a : Addr) (y : V) (x z : Rat), vs = [.ref a, y] ∧ RtAt K H a x ∧ NmV K H y z ∧ C z ∧ FoQ.SzR 1900 x ∧ FoQ.SzR 1900 z ∧
  ∀ p H', H p = none → Same H H' → RtAt K H' p (f x z) → Q (.ref p) H'
def spCmpQ (K : PySem.W.Frag) (f : Rat → Rat → Bool) : Sp := fun vs H Q _ => ∃ (a : Addr) (y : V) (x z : Rat), vs = [.ref a, y] ∧ RtAt K H a x ∧ NmV K H y z ∧ FoQ.SzR 1900 x ∧ FoQ.SzR 1900 z ∧ ∀ H', Same H H' → Q (.bl (f x z)) H'
def spNegQ (K : PySem.W.Frag) : Sp := fun vs H Q _ => ∃ (a : Addr) (x : Rat), vs = [.ref a] ∧ RtAt K H a x ∧ FoQ.SzR 4000 x ∧ ∀ p H', H p = none → Same H H' → RtAt K H' p (-x) → Q (.ref p) H'
def spSignQ (K : PySem.W.Frag) : Sp := fun vs H Q _ => ∃ (y : V) (r : Rat), vs = [y] ∧ NmV K H y r ∧ ∀ H', Same H H' → Q (.int (sgn r.num)) H'
theorem eq_bool {x z : Rat} : (decide (x.num = z.num) && decide ((x.den : Int) = z.den)) = decide (x = z) := by
  by_cases h : x = z
  · subst h
    simp
  · rw [decide_eq_false h]
    cases e : (decide (x.num = z.num) && decide ((x.den : Int) = z.den)) with
    | false => rfl
    | true =>
      rw [Bool.and_eq_true] at e
      exact absurd ((FoQ.q_eq_iff x z).mp ⟨of_decide_eq_true e.1, of_decide_eq_true e.2⟩) h
section
variable {P : Program} {w : World} {K : PySem.W.Frag} {mg : Str → Option Value} {base : Heap}
theorem ok_initQ (T : Tx K mg) : FnOk P w K mg base CX0 1 (He.ma K (He.ga K "Ratio") "__init__") T.fd_Ratio_init ["self", "top", "bottom"] (spInitQ K) := (ok_Ratio_init T).imp fun vs H Q E h => by
  obtain ⟨p, dx, t, b, e, hp, hb, hz, q⟩ := h
  exact ⟨p, dx, t, b, e, hp, hb, hz, fun H' hR bt => q H' (rt_of hb rfl hR) bt⟩
/-- what a call of Ratio asks -/
theorem rq_make {H : Hp} {t b : Int} {r : Rat} {R : Addr → VK} {E : XK} (hb : b ≠ 0) (hz : FoM.Sz 4000 b) (e : Rat.divInt t b = r) (q : ∀ p H', H p = none → Same H H' → RtAt K H' p r → R p .non H') :
    ∀ x dx, H x = none → H dx = none → dx ≠ x → spInitQ K [.ref x, .int t, .int b] (upd (upd H dx (.own x)) x (.ins (RC K) dx [])) (R x) E := fun x dx nx ndx ne =>
  ⟨x, dx, t, b, rfl, upd_same, hb, hz, fun H' hR hB => q x H' nx (Same.made nx ndx hB) (by rw [← e]; exact hR)⟩
theorem ok_topQ (T : Tx K mg) : FnOk P w K mg base CX0 1 (FoZ.pg K "Ratio" "top") T.fd_Ratio_top ["self"] (spTopQ K) := (ok_Ratio_top T).imp fun vs H Q E h => by
  obtain ⟨a, r, e, ha, q⟩ := h
  exact ⟨a, r.num, r.den, e, ha, q⟩
theorem ok_bottomQ (T : Tx K mg) : FnOk P w K mg base CX0 1 (FoZ.pg K "Ratio" "bottom") T.fd_Ratio_bottom ["self"] (spBotQ K) := (ok_Ratio_bottom T).imp fun vs H Q E h => by
  obtain ⟨a, r, e, ha, q⟩ := h
  exact ⟨a, r.num, r.den, e, ha, q⟩
theorem ok_asQ (T : Tx K mg) : FnOk P w K mg base CX0 3 (He.ga K "as_ratio") T.fd_as_ratio ["given"] (spAsQ K) := (ok_as_ratio T).imp fun vs H Q E h => by
  obtain ⟨y, r, e, hy, q⟩ := h
  exact ⟨y, r.num, r.den, e, hy.num, q⟩
theorem ok_eqQ (T : Tx K mg) : FnOk P w K mg base CX0 2 (He.ma K (He.ga K "Ratio") "__eq__") T.fd_Ratio_eq ["self", "other"] (spEqQ K) := (ok_Ratio_eq T).imp fun vs H Q E h => by
  obtain ⟨a, y, x, e, ha, h⟩ := h
  refine ⟨a, y, x.num, x.den, e, ha, ?_⟩
  rcases h with ⟨z, ⟨b, rfl, hb⟩ | ⟨i, rfl, rfl⟩, q⟩ | h
  · exact .inl ⟨b, z.num, z.den, rfl, hb, by rw [eq_bool]; exact q⟩
  · refine .inr (.inl ⟨i, rfl, ?_⟩)
    have e2 : (decide ((x.den : Int) = 1) && decide (x.num = i)) = decide (x = (i : Rat)) := by
      rw [← eq_bool, Rat.num_intCast, Rat.den_intCast, Bool.and_comm]
      rfl
    rw [e2]
    exact q
  · exact .inr (.inr h)
theorem ok_addQ (T : Tx K mg) : FnOk P w K mg base CX0 4 (He.ma K (He.ga K "Ratio") "__add__") T.fd_Ratio_add ["self", "other"] (spOpQ K (· + ·) fun _ => True) := (ok_Ratio_add T).imp fun vs H Q E h => by
  obtain ⟨a, y, x, z, e, ha, hy, _, hx, hz, q⟩ := h
  exact ⟨a, y, x.num, x.den, z.num, z.den, e, ha, hy.num, FoQ.den_ne x, FoQ.den_ne z, hx.1, hx.2, hz.1, hz.2, fun p H' n s hR => q p H' n s (rt_of (Int.mul_ne_zero (FoQ.den_ne x) (FoQ.den_ne z)) (FoQ.q_add x z) hR)⟩
theorem ok_subQ (T : Tx K mg) : FnOk P w K mg base CX0 4 (He.ma K (He.ga K "Ratio") "__sub__") T.fd_Ratio_sub ["self", "other"] (spOpQ K (· - ·) fun _ => True) := (ok_Ratio_sub T).imp fun vs H Q E h => by
  obtain ⟨a, y, x, z, e, ha, hy, _, hx, hz, q⟩ := h
  exact ⟨a, y, x.num, x.den, z.num, z.den, e, ha, hy.num, FoQ.den_ne x, FoQ.den_ne z, hx.1, hx.2, hz.1, hz.2, fun p H' n s hR => q p H' n s (rt_of (Int.mul_ne_zero (FoQ.den_ne x) (FoQ.den_ne z)) (FoQ.q_sub x z) hR)⟩
theorem ok_mulQ (T : Tx K mg) : FnOk P w K mg base CX0 4 (He.ma K (He.ga K "Ratio") "__mul__") T.fd_Ratio_mul ["self", "other"] (spOpQ K (· * ·) fun _ => True) := (ok_Ratio_mul T).imp fun vs H Q E h => by
  obtain ⟨a, y, x, z, e, ha, hy, _, hx, hz, q⟩ := h
  exact ⟨a, y, x.num, x.den, z.num, z.den, e, ha, hy.num, FoQ.den_ne x, FoQ.den_ne z, hx.1, hx.2, hz.1, hz.2, fun p H' n s hR => q p H' n s (rt_of (Int.mul_ne_zero (FoQ.den_ne x) (FoQ.den_ne z)) (FoQ.q_mul x z) hR)⟩
theorem ok_negQ (T : Tx K mg) : FnOk P w K mg base CX0 3 (He.ma K (He.ga K "Ratio") "__neg__") T.fd_Ratio_neg ["self"] (spNegQ K) := (ok_Ratio_neg T).imp fun vs H Q E h => by
  obtain ⟨a, x, e, ha, hx, q⟩ := h
  exact ⟨a, x.num, x.den, e, ha, FoQ.den_ne x, hx.2, fun p H' n s hR => q p H' n s (rt_of (FoQ.den_ne x) (FoQ.q_neg x) hR)⟩
end

end Fo

set_option maxHeartbeats 4100000
/-! all of a list of truths; two readings of one walk or value. -/
namespace FoY
open PySem PySem.Spec PyProof.Rows L2
theorem pi_or {X : Cx} {tg e : Expr} {w1 w2 : TI} (h1 : PI X tg e w1) (h2 : PI X tg e w2) : PI X tg e (fun τ H R => w1 τ H R ∨ w2 τ H R) :=
  ⟨fun pz s τ H R I h => h.elim (h1.run pz s τ H R I) (h2.run pz s τ H R I)⟩
theorem pe_or {X : Cx} {e : Expr} {t1 t2 : TE} (h1 : PE X e t1) (h2 : PE X e t2) : PE X e (fun τ H Q => t1 τ H Q ∨ t2 τ H Q) :=
  ⟨fun pz s τ H Q I h => h.elim (h1.run pz s τ H Q I) (h2.run pz s τ H Q I)⟩
theorem reads_bools {h : Heap} : ∀ {bs : List Bool} {us : List Value}, Vals (bs.map V.bl) us → ReadsAll h us (bs.map PyData.bool) []
  | [], _, .nil => .nil
  | b :: bs, _, .cons r rr => by
    cases r
    exact ReadsAll.cons (as := []) (bs := []) (.bool b) (reads_bools rr)
theorem plain_bools : ∀ bs : List Bool, PyData.plainAll (bs.map PyData.bool) = true
  | [] => rfl
  | b :: bs => by
    show (PyData.plain (.bool b) && PyData.plainAll (bs.map PyData.bool)) = true
    rw [plain_bools bs]
    rfl
def rAll (K : PySem.W.Frag) : List V → Hp → VK → Prop := fun xs H Q => ∃ (a : Addr) (bs : List Bool), xs = [V.ref a] ∧ SqL K H a (bs.map V.bl) ∧ Q (.bl (bs.all id)) H
theorem call_all {X : Cx} {K' : PySem.W.Frag} (hc : X.calm = true) (hK : X.K = K') : CallR X (.builtin "all") (rAll K') := by
  subst hK
  intro pz s τ H vs us Q I r h
  obtain ⟨a, bs, rfl, hS, q⟩ := h
  obtain ⟨its, rv, hl, _⟩ := I.list hS
  rw [Vals.ref1 r]
  refine PySem.W.all_list_data (I.ok.hd hc) hl.isList (reads_bools rv) (plain_bools bs) (fun x hx => ?_) fun h' tk hk => ?_
  · obtain ⟨b, _, rfl⟩ := List.mem_map.mp hx
    trivial
  · have e : (bs.map PyData.bool).all PyData.truthy = bs.all id := by
      rw [List.all_map]
      rfl
    rw [e]
    exact ⟨.bl _, H, I.kept hk, rfl, q⟩
end FoY

set_option maxHeartbeats 4100000
/-! zip of a row of tuples: one new tuple at each turn. -/
namespace FoU
open PySem PySem.Spec PyProof.Rows L2
section
variable {prog : Program} {w : World} {A : Around} {E : Value → Shared → Prop} {s : Shared}
theorem alive_any {a : Addr} {Q : Option Obj → Shared → Prop} (h : Q (s.heap.get? a) s) : wpAny (model prog w) A (loadIfAlive a) Q E s := fun _ _ _ => h
abbrev ZRec (h : Heap) (z TI TO : Addr) (f0 f1 : Value) : Prop := h.get? z = some { cls := .type "zip", dict := none, data := .fields #[f0, f1, .bool false, .ref TI, .ref TO], slots := #[] }
abbrev TupAt (h : Heap) (T : Addr) (vs : Array Value) : Prop := h.get? T = some { cls := .type "tuple", data := .seq vs }
/-- the cells of such a zip lie apart -/
structure ZA (z TI TO : Addr) (is ls : List Addr) : Prop where
  TIz : TI ≠ z
  TOz : TO ≠ z
  TITO : TI ≠ TO
  nod : is.Nodup
  zi : z ∉ is
  TIi : TI ∉ is
  TOi : TO ∉ is
  lz : ∀ l ∈ ls, l ≠ z ∧ l ≠ TO ∧ l ∉ is
  len : ls.length = is.length
  ne : is ≠ []
/-- the tuples' iterators, each where k says -/
def Its (h : Heap) (is ls : List Addr) (k : Nat → Nat) : Prop := ∀ (j : Nat) (i l : Addr), is[j]? = some i → ls[j]? = some l → h.IsTupleIter i l (k j)
/-- the values at place k of the tuples -/
def Tups (h : Heap) (ls : List Addr) (k : Nat) (vals : List Value) : Prop := ∀ (j : Nat) (l : Addr) (x : Value), ls[j]? = some l → vals[j]? = some x → ∃ items, h.IsTuple l items ∧ items[k]? = some x
theorem nodup_ix {l : List Addr} {a : Addr} {i j : Nat} (h : l.Nodup) (hi : l[i]? = some a) (hj : l[j]? = some a) : i = j := by
  obtain ⟨h1, e1⟩ := List.getElem?_eq_some_iff.mp hi
  obtain ⟨h2, e2⟩ := List.getElem?_eq_some_iff.mp hj
  have p := List.pairwise_iff_getElem.mp h
  rcases Nat.lt_trichotomy i j with c | c | c
  · exact absurd (e1.trans e2.symm) (p i j h1 h2 c)
  · exact c
  · exact absurd (e2.trans e1.symm) (p j i h2 h1 c)
theorem upd_tup {T : Addr} {vs : Array Value} {x : Value} {k : Nat} {Q : Unit → Shared → Prop} (hsz : vs.size ≤ 1000) (hT : TupAt s.heap T vs)
    (h : ∀ h', TupAt h' T (vs.setIfInBounds k x) → Heap.SameBut T s.heap h' → Q () { s with heap := h' }) :
    wpAny (model prog w) A (updateSeq T (·.setIfInBounds k x)) Q E s := by
  have h16 := sizeLine_eq
  refine wpAny_updateSeq hT rfl (h _ ?_ (Heap.SameBut.update ..)) (by omega) (by rw [Array.size_setIfInBounds]; omega)
  show Heap.get? _ T = _
  rw [Heap.get?_update_self _ hT rfl]
  simp [Obj.mapSeq]
/-- is the tuple of before free? -/
theorem held_any {z TI TO : Addr} {f0 f1 : Value} {Q : Bool → Shared → Prop} (hz : ZRec s.heap z TI TO f0 f1) (hf : f0 = .none ∨ ∃ T : Nat, f0 = rawInt T)
    (h1 : Q true s) (h2 : ∀ h', ZRec h' z TI TO f0 (.bool true) → Heap.SameBut z s.heap h' → Q false { s with heap := h' }) : wpAny (model prog w) A (Builtin.SmallTypes.ownedTupleIsFree (.ref z)) Q E s := by
  unfold Builtin.SmallTypes.ownedTupleIsFree
  rcases hf with rfl | ⟨T, rfl⟩
  · exact wpAny_bind (wpAny_field hz rfl (x := .none) rfl (wpAny_pure h1))
  · refine wpAny_bind (wpAny_field hz rfl (x := rawInt T) rfl ?_)
    show wpAny _ _ (loadIfAlive ((T : Int).toNat) >>= _) _ _ _
    refine wpAny_bind (alive_any ?_)
    cases hT : s.heap.get? ((T : Int).toNat) with
    | none =>
      simp only [Option.isNone_none, if_true]
      exact wpAny_pure h1
    | some o =>
      simp only [Option.isNone_some, Bool.false_eq_true, if_false]
      refine wpAny_bind (wpAny_field hz rfl (x := f1) rfl ?_)
      by_cases e : f1 = .bool true
      · subst e
        rw [if_neg (show ¬ ((Value.bool true != Value.bool true) = true) from Bool.false_ne_true)]
        exact wpAny_pure (h2 s.heap hz (Heap.SameBut.refl _ _))
      · have e2 : (f1 != Value.bool true) = true := by simpa using e
        rw [if_pos e2]
        exact wpAny_bind (wpAny_setField_rec hz (by simp) fun h₁ hz₁ hs₁ => wpAny_pure (h2 h₁ hz₁ hs₁))
theorem zn_item {z TI TO : Addr} {is ls : List Addr} {k : Nat} {vals : List Value} {f0 f1 : Value} {ow : Array Value} {Q : Value → Shared → Prop} (D : ZA z TI TO is ls) (hz : ZRec s.heap z TI TO f0 f1) (hf : f0 = .none ∨ ∃ T : Nat, f0 = rawInt T)
    (hTI : TupAt s.heap TI (is.map Value.ref).toArray) (hTO : TupAt s.heap TO ow) (how : ow.size = is.length) (hI : Its s.heap is ls fun _ => k) (hV : Tups s.heap ls k vals) (hl : vals.length = is.length) (h1000 : is.length ≤ 1000)
    (hQ : ∀ h' f0' f1' ow', (f0' = .none ∨ ∃ T : Nat, f0' = rawInt T) → ZRec h' z TI TO f0' f1' → TupAt h' TO ow' → ow'.size = is.length → Its h' is ls (fun _ => k + 1) → TupAt h' s.heap.objs.size vals.toArray → h'.objs.size = s.heap.objs.size + 1 →
      (∀ c o, c ≠ z → c ≠ TO → c ∉ is → s.heap.get? c = some o → h'.get? c = some o) → Q (.ref s.heap.objs.size) { s with heap := h' }) :
    wpAny (model prog w) A (Builtin.«zip.__next__» ⟨[.ref z], []⟩) (fun fin s' => ∃ v, fin = .done (.ret v) ∧ Q v s') E s := by
  show wpAny _ _ (field (.ref z) 2 >>= _) _ _ _
  refine wpAny_bind (wpAny_field hz rfl (x := .bool false) rfl ?_)
  show wpAny _ _ (field (.ref z) 3 >>= _) _ _ _
  refine wpAny_bind (wpAny_field hz rfl (x := .ref TI) rfl ?_)
  refine wpAny_bind (wpAny_seqItems hTI rfl ?_)
  have h16 := sizeLine_eq
  obtain ⟨i0, is', e0⟩ : ∃ i0 is', is = i0 :: is' := by
    cases is with
    | nil => exact absurd rfl D.ne
    | cons a l => exact ⟨a, l, rfl⟩
  have hne : ((is.map Value.ref).toArray).isEmpty = false := by rw [e0]; rfl
  dsimp only
  rw [if_neg (by rw [hne]; exact Bool.false_ne_true)]
  show wpAny _ _ (Builtin.SmallTypes.ownedTupleIsFree (.ref z) >>= _) _ _ _
  refine wpAny_bind (held_any hz hf ?_ fun h₁ hz₁ hs₁ => ?_)
  · simp only [if_true]
    refine wpAny_bind (wpAny_rule ?_)
    refine wpAny_bind (wpAny_field hz rfl (x := .ref TO) rfl ?_)
    refine wpAny_bind (wpAny_setField_rec hz (by simp) fun h₁ hz₁ hs₁ => ?_)
    replace hz₁ : ZRec h₁ z TI TO .ellipsis f1 := hz₁
    refine wpAny_bind ?_
    refine wpAny_forIn_list _ (fun rest b s' => ∃ (j : Nat) (h' : Heap) (ow' : Array Value), rest = ((is.drop j).map Value.ref).zipIdx j ∧ j ≤ is.length ∧ b = (none, ()) ∧ s' = { s with heap := h' } ∧ ZRec h' z TI TO .ellipsis f1 ∧ TupAt h' TO ow' ∧ ow'.size = is.length ∧
      (∀ i, i < j → ow'[i]? = vals[i]?) ∧ Its h' is ls (fun i => if i < j then k + 1 else k) ∧ h'.objs.size = s.heap.objs.size ∧ (∀ c o, c ≠ z → c ≠ TO → c ∉ is → s.heap.get? c = some o → h'.get? c = some o)) _ ?_ ?_ _ _
      ⟨0, h₁, ow, by simp, Nat.zero_le _, rfl, rfl, hz₁, hs₁.extBut _ _ D.TOz hTO, how, fun i hi => absurd hi (Nat.not_lt_zero _), fun j i l hi hl' => ?_, hs₁.1, fun c o c1 c2 c3 e => hs₁.extBut _ _ c1 e⟩
    · rintro x rest b s' ⟨j, h', ow', hr, hj, rfl, rfl, hz', hTO', hsz', hv', hI', hS', hk'⟩
      have hjl : j < is.length := by
        rcases Nat.lt_or_ge j is.length with h | h
        · exact h
        · rw [List.drop_of_length_le h] at hr
          exact nomatch hr
      have hd : is.drop j = is[j] :: is.drop (j + 1) := List.drop_eq_getElem_cons hjl
      have ei : is[j]? = some is[j] := List.getElem?_eq_getElem hjl
      have hll : j < ls.length := by rw [D.len]; exact hjl
      have hvl : j < vals.length := by rw [hl]; exact hjl
      have el : ls[j]? = some ls[j] := List.getElem?_eq_getElem hll
      have eV : vals[j]? = some vals[j] := List.getElem?_eq_getElem hvl
      obtain ⟨items, ⟨ot, eot, rot⟩, hx⟩ := hV j _ _ el eV
      obtain ⟨lz1, lz2, lz3⟩ := D.lz _ (List.mem_of_getElem? el)
      have ht' : h'.IsTuple ls[j] items := ⟨ot, hk' _ _ lz1 lz2 lz3 eot, rot⟩
      have hit := hI' j _ _ ei el
      dsimp only at hit
      rw [if_neg (Nat.lt_irrefl _)] at hit
      have iz : is[j] ≠ z := fun q => D.zi (by rw [← q]; exact List.mem_of_getElem? ei)
      have iTO : is[j] ≠ TO := fun q => D.TOi (by rw [← q]; exact List.mem_of_getElem? ei)
      have far : ∀ {j' : Nat} {i : Addr}, is[j']? = some i → j' ≠ j → i ≠ is[j] := fun {j' i} e n q => by
        rw [q] at e
        exact n (nodup_ix D.nod e ei)
      rw [hd, List.map_cons, List.zipIdx_cons] at hr
      obtain ⟨rfl, h2⟩ := List.cons.inj hr
      refine wpAny_bind (wpAny_onRaise ?_)
      show wpAny _ _ (Builtin.SmallTypes.nextOf (.ref is[j]) >>= _) _ _ _
      refine wpAny_bind (RZ.nextOf_tuple_item hit ht' hx fun h₂ hit₂ hs₂ => wpAny_pure ?_)
      have hTO₂ : TupAt h₂ TO ow' := hs₂.extBut _ _ (Ne.symm iTO) hTO'
      refine wpAny_bind (wpAny_seqItems hTO₂ rfl ?_)
      refine wpAny_bind (upd_tup (by omega) hTO₂ fun h₃ hTO₃ hs₃ => ?_)
      refine wpAny_bind (wpAny_letGo (wpAny_pure ?_))
      refine ⟨j + 1, h₃, _, h2, hjl, rfl, rfl, hs₃.extBut _ _ (Ne.symm D.TOz) (hs₂.extBut _ _ (Ne.symm iz) hz'), hTO₃, by rw [Array.size_setIfInBounds]; exact hsz', fun i hi => ?_, fun j' i l e1 e2 => ?_, by rw [hs₃.1, hs₂.1]; exact hS',
        fun c o c1 c2 c3 e => hs₃.extBut _ _ c2 (hs₂.extBut _ _ (fun q => c3 (by rw [q]; exact List.mem_of_getElem? ei)) (hk' c o c1 c2 c3 e))⟩
      · rw [Array.getElem?_setIfInBounds]
        by_cases q : j = i
        · subst q
          rw [if_pos rfl, if_pos (by omega), eV]
        · rw [if_neg q]
          exact hv' i (by omega)
      · have iT : i ≠ TO := fun q => D.TOi (by rw [← q]; exact List.mem_of_getElem? e1)
        by_cases q : j' = j
        · subst q
          rw [ei] at e1
          rw [el] at e2
          cases e1
          cases e2
          show h₃.IsTupleIter _ _ (if j' < j' + 1 then k + 1 else k)
          rw [if_pos (Nat.lt_succ_self _)]
          exact hit₂.extBut hs₃.extBut iT
        · have z1 := hI' j' i l e1 e2
          dsimp only at z1 ⊢
          have e3 : (if j' < j + 1 then k + 1 else k) = (if j' < j then k + 1 else k) := by
            by_cases c : j' < j
            · rw [if_pos c, if_pos (by omega)]
            · rw [if_neg c, if_neg (by omega)]
          rw [e3]
          exact (z1.extBut hs₂.extBut (far e1 q)).extBut hs₃.extBut iT
    · rintro b s' ⟨j, h', ow', hr, hj, rfl, rfl, hz', hTO', hsz', hv', hI', hS', hk'⟩
      have hjn : j = is.length := by
        rcases Nat.lt_or_ge j is.length with h | h
        · rw [List.drop_eq_getElem_cons h, List.map_cons, List.zipIdx_cons] at hr
          exact nomatch hr
        · exact Nat.le_antisymm hj h
      subst hjn
      have ev : ow' = vals.toArray := by
        apply Array.ext_getElem?
        intro i
        rcases Nat.lt_or_ge i is.length with h | h
        · rw [hv' i h]
          simp
        · rw [Array.getElem?_eq_none (by omega)]
          simp only [List.getElem?_toArray]
          rw [List.getElem?_eq_none (by omega)]
      subst ev
      dsimp only
      refine wpAny_bind (wpAny_seqItems hTO' rfl ?_)
      refine wpAny_bind (wpAny_newTuple ?_ (by rw [List.size_toArray] at hsz'; show (vals.toArray.toList).length ≤ sizeLine; simp; omega))
      have hzlt : z < h'.objs.size := Heap.lt_size hz'
      show wpAny _ _ (Builtin.SmallTypes.ownedTupleHandOut (.ref z) (.ref h'.objs.size) >>= _) _ _ _
      refine wpAny_bind ?_
      unfold Builtin.SmallTypes.ownedTupleHandOut
      have hz₆ : ZRec (h'.push { cls := .type "tuple", data := .seq vals.toArray.toList.toArray }) z TI TO .ellipsis f1 := Heap.get?_push_of_some _ hz'
      refine wpAny_bind (wpAny_setField_rec hz₆ (by simp) fun h₇ hz₇ hs₇ => ?_)
      replace hz₇ : ZRec h₇ z TI TO (rawInt h'.objs.size) f1 := hz₇
      refine wpAny_setField_rec hz₇ (by simp) fun h₈ hz₈ hs₈ => ?_
      replace hz₈ : ZRec h₈ z TI TO (rawInt h'.objs.size) (.bool false) := hz₈
      have up : ∀ c o, c ≠ z → h'.get? c = some o → h₈.get? c = some o := fun c o c1 e => hs₈.extBut _ _ c1 (hs₇.extBut _ _ c1 (Heap.get?_push_of_some _ e))
      have hT₈ : TupAt h₈ h'.objs.size vals.toArray := hs₈.extBut _ _ (Nat.ne_of_gt hzlt) (hs₇.extBut _ _ (Nat.ne_of_gt hzlt) (Heap.get?_push_size _ rfl))
      have hz8 : h₈.objs.size = h'.objs.size + 1 := by rw [hs₈.1, hs₇.1, Heap.size_push]
      rw [hS'] at hT₈ hz8
      refine wpAny_pure ⟨_, rfl, ?_⟩
      show Q (.ref h'.objs.size) _
      rw [hS']
      refine hQ h₈ _ _ _ (.inr ⟨_, rfl⟩) hz₈ (up _ _ D.TOz hTO') hsz' (fun j i l e1 e2 => ?_) hT₈ hz8 fun c o c1 c2 c3 e => up c o c1 (hk' c o c1 c2 c3 e)
      have z1 := hI' j i l e1 e2
      dsimp only at z1
      rw [if_pos (List.getElem?_eq_some_iff.mp e1).1] at z1
      exact z1.at fun o e => up _ o (fun q => D.zi (by rw [← q]; exact List.mem_of_getElem? e1)) e
    · show h₁.IsTupleIter i l (if j < 0 then k + 1 else k)
      rw [if_neg (Nat.not_lt_zero _)]
      exact (hI j i l hi hl').extBut hs₁.extBut (fun q => D.zi (by rw [← q]; exact List.mem_of_getElem? hi))
  · simp only [Bool.false_eq_true, if_false]
    refine wpAny_bind ?_
    rw [← Array.forIn_toList]
    refine wpAny_forIn_list _ (fun rest b s' => ∃ (j : Nat) (h' : Heap), rest = (is.drop j).map Value.ref ∧ j ≤ is.length ∧ b = (none, (vals.take j).toArray) ∧ s' = { s with heap := h' } ∧ ZRec h' z TI TO f0 (.bool true) ∧ TupAt h' TO ow ∧
      Its h' is ls (fun i => if i < j then k + 1 else k) ∧ h'.objs.size = s.heap.objs.size ∧ (∀ c o, c ≠ z → c ∉ is → s.heap.get? c = some o → h'.get? c = some o)) _ ?_ ?_ _ _
      ⟨0, h₁, by simp, Nat.zero_le _, rfl, rfl, hz₁, hs₁.extBut _ _ D.TOz hTO, fun j i l hi hl' => ?_, hs₁.1, fun c o c1 c3 e => hs₁.extBut _ _ c1 e⟩
    · rintro x rest b s' ⟨j, h', hr, hj, rfl, rfl, hz', hTO', hI', hS', hk'⟩
      have hjl : j < is.length := by
        rcases Nat.lt_or_ge j is.length with h | h
        · exact h
        · rw [List.drop_of_length_le h] at hr
          exact nomatch hr
      have hd : is.drop j = is[j] :: is.drop (j + 1) := List.drop_eq_getElem_cons hjl
      have ei : is[j]? = some is[j] := List.getElem?_eq_getElem hjl
      have hll : j < ls.length := by rw [D.len]; exact hjl
      have hvl : j < vals.length := by rw [hl]; exact hjl
      have el : ls[j]? = some ls[j] := List.getElem?_eq_getElem hll
      have eV : vals[j]? = some vals[j] := List.getElem?_eq_getElem hvl
      obtain ⟨items, ⟨ot, eot, rot⟩, hx⟩ := hV j _ _ el eV
      obtain ⟨lz1, lz2, lz3⟩ := D.lz _ (List.mem_of_getElem? el)
      have ht' : h'.IsTuple ls[j] items := ⟨ot, hk' _ _ lz1 lz3 eot, rot⟩
      have hit := hI' j _ _ ei el
      dsimp only at hit
      rw [if_neg (Nat.lt_irrefl _)] at hit
      have iz : is[j] ≠ z := fun q => D.zi (by rw [← q]; exact List.mem_of_getElem? ei)
      have iTO : is[j] ≠ TO := fun q => D.TOi (by rw [← q]; exact List.mem_of_getElem? ei)
      have far : ∀ {j' : Nat} {i : Addr}, is[j']? = some i → j' ≠ j → i ≠ is[j] := fun {j' i} e n q => by
        rw [q] at e
        exact n (nodup_ix D.nod e ei)
      rw [hd, List.map_cons] at hr
      obtain ⟨rfl, h2⟩ := List.cons.inj hr
      refine wpAny_bind (wpAny_holding ?_)
      show wpAny _ _ (Builtin.SmallTypes.nextOf (.ref is[j]) >>= _) _ _ _
      refine wpAny_bind (RZ.nextOf_tuple_item hit ht' hx fun h₂ hit₂ hs₂ => wpAny_pure (wpAny_pure ?_))
      refine ⟨j + 1, h₂, h2, hjl, ?_, rfl, hs₂.extBut _ _ (Ne.symm iz) hz', hs₂.extBut _ _ (Ne.symm iTO) hTO', fun j' i l e1 e2 => ?_, by rw [hs₂.1]; exact hS',
        fun c o c1 c3 e => hs₂.extBut _ _ (fun q => c3 (by rw [q]; exact List.mem_of_getElem? ei)) (hk' c o c1 c3 e)⟩
      · rw [List.take_add_one, eV]
        simp
      · by_cases q : j' = j
        · subst q
          rw [ei] at e1
          rw [el] at e2
          cases e1
          cases e2
          show h₂.IsTupleIter _ _ (if j' < j' + 1 then k + 1 else k)
          rw [if_pos (Nat.lt_succ_self _)]
          exact hit₂
        · have z1 := hI' j' i l e1 e2
          dsimp only at z1 ⊢
          have e3 : (if j' < j + 1 then k + 1 else k) = (if j' < j then k + 1 else k) := by
            by_cases c : j' < j
            · rw [if_pos c, if_pos (by omega)]
            · rw [if_neg c, if_neg (by omega)]
          rw [e3]
          exact z1.extBut hs₂.extBut (far e1 q)
    · rintro b s' ⟨j, h', hr, hj, rfl, rfl, hz', hTO', hI', hS', hk'⟩
      have hjn : j = is.length := by
        rcases Nat.lt_or_ge j is.length with h | h
        · rw [List.drop_eq_getElem_cons h, List.map_cons] at hr
          exact nomatch hr
        · exact Nat.le_antisymm hj h
      subst hjn
      dsimp only
      rw [← hl, List.take_length]
      refine wpAny_bind (wpAny_newTuple ?_ (by show (vals.toArray.toList).length ≤ sizeLine; simp; omega))
      refine wpAny_pure ⟨_, rfl, ?_⟩
      show Q (.ref h'.objs.size) _
      have hT : TupAt (h'.push { cls := .type "tuple", data := .seq vals.toArray.toList.toArray }) h'.objs.size vals.toArray := Heap.get?_push_size _ rfl
      have hz8 : (h'.push { cls := .type "tuple", data := .seq vals.toArray.toList.toArray }).objs.size = h'.objs.size + 1 := Heap.size_push ..
      rw [hS'] at hT hz8
      rw [hS']
      refine hQ _ _ _ _ hf (Heap.get?_push_of_some _ hz') (Heap.get?_push_of_some _ hTO') how (fun j i l e1 e2 => ?_) hT hz8 fun c o c1 c2 c3 e => Heap.get?_push_of_some _ (hk' c o c1 c3 e)
      have z1 := hI' j i l e1 e2
      dsimp only at z1
      rw [if_pos (List.getElem?_eq_some_iff.mp e1).1] at z1
      exact z1.at fun o e => Heap.get?_push_of_some _ e
    · show h₁.IsTupleIter i l (if j < 0 then k + 1 else k)
      rw [if_neg (Nat.not_lt_zero _)]
      exact (hI j i l hi hl').extBut hs₁.extBut (fun q => D.zi (by rw [← q]; exact List.mem_of_getElem? hi))
theorem zn_end {z TI TO : Addr} {is ls : List Addr} {k : Nat} {f0 f1 : Value} {ow : Array Value} {Q : PySem.Fin → Shared → Prop} (hh : A.handled = none) (D : ZA z TI TO is ls) (hz : ZRec s.heap z TI TO f0 f1) (hf : f0 = .none ∨ ∃ T : Nat, f0 = rawInt T)
    (hTI : TupAt s.heap TI (is.map Value.ref).toArray) (hTO : TupAt s.heap TO ow) (hI : Its s.heap is ls fun _ => k) (hV : ∀ l, ls[0]? = some l → ∃ items, s.heap.IsTuple l items ∧ items[k]? = none)
    (hE : ∀ h' e, (∀ c o, c ≠ z → c ≠ TO → c ∉ is → s.heap.get? c = some o → h'.get? c = some o) → (∃ o, h'.get? e = some o ∧ o.cls = .type "StopIteration") → E (.ref e) { s with heap := h' }) :
    wpAny (model prog w) A (Builtin.«zip.__next__» ⟨[.ref z], []⟩) Q E s := by
  show wpAny _ _ (field (.ref z) 2 >>= _) _ _ _
  refine wpAny_bind (wpAny_field hz rfl (x := .bool false) rfl ?_)
  show wpAny _ _ (field (.ref z) 3 >>= _) _ _ _
  refine wpAny_bind (wpAny_field hz rfl (x := .ref TI) rfl ?_)
  refine wpAny_bind (wpAny_seqItems hTI rfl ?_)
  obtain ⟨i0, is', e0⟩ : ∃ i0 is', is = i0 :: is' := by
    cases is with
    | nil => exact absurd rfl D.ne
    | cons a l => exact ⟨a, l, rfl⟩
  obtain ⟨l0, ls', e1⟩ : ∃ l0 ls', ls = l0 :: ls' := by
    cases ls with
    | nil =>
      have q := D.len
      rw [e0] at q
      cases q
    | cons a l => exact ⟨a, l, rfl⟩
  subst e0 e1
  have hne : (((i0 :: is').map Value.ref).toArray).isEmpty = false := rfl
  dsimp only
  rw [if_neg (by rw [hne]; exact Bool.false_ne_true)]
  obtain ⟨items, ⟨ot, eot, rot⟩, hx⟩ := hV l0 rfl
  obtain ⟨lz1, lz2, lz3⟩ := D.lz l0 List.mem_cons_self
  have hit := hI 0 i0 l0 rfl rfl
  have iz : i0 ≠ z := fun q => D.zi (by rw [← q]; exact List.mem_cons_self)
  show wpAny _ _ (Builtin.SmallTypes.ownedTupleIsFree (.ref z) >>= _) _ _ _
  refine wpAny_bind (held_any hz hf ?_ fun h₁ hz₁ hs₁ => ?_)
  · simp only [if_true]
    refine wpAny_bind (wpAny_rule ?_)
    refine wpAny_bind (wpAny_field hz rfl (x := .ref TO) rfl ?_)
    refine wpAny_bind (wpAny_setField_rec hz (by simp) fun h₁ hz₁ hs₁ => ?_)
    replace hz₁ : ZRec h₁ z TI TO .ellipsis f1 := hz₁
    refine wpAny_bind ?_
    simp only [List.map_cons, List.zipIdx_cons, List.forIn_cons]
    refine wpAny_bind (wpAny_bind (wpAny_onRaise ?_))
    show wpAny _ _ (Builtin.SmallTypes.nextOf (.ref i0) >>= _) _ _ _
    refine wpAny_bind (RZ.nextOf_tuple_end hh (hit.extBut hs₁.extBut iz) ⟨ot, hs₁.extBut _ _ lz1 eot, rot⟩ hx fun h₂ e hs₂ he => ?_)
    obtain ⟨oe, hoe, hce⟩ := he
    have hz₂ : ZRec h₂ z TI TO .ellipsis f1 := hs₂ _ _ (Ne.symm iz) hz₁
    have hez : e ≠ z := fun x => by
      subst x
      rw [hz₂] at hoe
      cases hoe
      simp at hce
    refine wpAny_setField_rec hz₂ (by simp) fun h₃ _ hs₃ => hE h₃ e (fun c o c1 _ c3 x => hs₃.extBut _ _ c1 (hs₂ _ _ (fun q => c3 (by rw [q]; exact List.mem_cons_self)) (hs₁.extBut _ _ c1 x))) ⟨oe, hs₃.extBut _ _ hez hoe, hce⟩
  · simp only [Bool.false_eq_true, if_false]
    refine wpAny_bind ?_
    rw [← Array.forIn_toList]
    simp only [List.map_cons, List.forIn_cons]
    refine wpAny_bind (wpAny_bind (wpAny_holding ?_))
    show wpAny _ _ (Builtin.SmallTypes.nextOf (.ref i0) >>= _) _ _ _
    refine wpAny_bind (RZ.nextOf_tuple_end hh (hit.extBut hs₁.extBut iz) ⟨ot, hs₁.extBut _ _ lz1 eot, rot⟩ hx fun h₂ e hs₂ he => ?_)
    exact hE h₂ e (fun c o c1 _ c3 x => hs₂ _ _ (fun q => c3 (by rw [q]; exact List.mem_cons_self)) (hs₁.extBut _ _ c1 x)) he
theorem next_item {z TI TO : Addr} {is ls : List Addr} {k : Nat} {vals : List Value} {f0 f1 : Value} {ow : Array Value} {Q : Option Value → Shared → Prop} (D : ZA z TI TO is ls) (hz : ZRec s.heap z TI TO f0 f1) (hf : f0 = .none ∨ ∃ T : Nat, f0 = rawInt T)
    (hTI : TupAt s.heap TI (is.map Value.ref).toArray) (hTO : TupAt s.heap TO ow) (how : ow.size = is.length) (hI : Its s.heap is ls fun _ => k) (hV : Tups s.heap ls k vals) (hl : vals.length = is.length) (h1000 : is.length ≤ 1000)
    (hQ : ∀ h' f0' f1' ow', (f0' = .none ∨ ∃ T : Nat, f0' = rawInt T) → ZRec h' z TI TO f0' f1' → TupAt h' TO ow' → ow'.size = is.length → Its h' is ls (fun _ => k + 1) → TupAt h' s.heap.objs.size vals.toArray → h'.objs.size = s.heap.objs.size + 1 →
      (∀ c o, c ≠ z → c ≠ TO → c ∉ is → s.heap.get? c = some o → h'.get? c = some o) → Q (some (.ref s.heap.objs.size)) { s with heap := h' }) : wpAny (model prog w) A (pyNext (.ref z)) Q E s := by
  have hT : s.TypeIs (.ref z) "zip" := ⟨_, hz, rfl⟩
  unfold pyNext
  exact wpAny_bind (wpAny_attempt (wpAny_callSpecial?_slot (name := Str.ofString "__next__") hT F.slot_zip_next
    (wpAny_call_entry F.slot_zip_next hT F.entry_zip_next (zn_item D hz hf hTI hTO how hI hV hl h1000 fun h' a b c a1 a2 a3 a4 a5 a6 a7 a8 => wpAny_pure (hQ h' a b c a1 a2 a3 a4 a5 a6 a7 a8)) (F.args_zip_next_1 _))))
theorem next_end {z TI TO : Addr} {is ls : List Addr} {k : Nat} {f0 f1 : Value} {ow : Array Value} {Q : Option Value → Shared → Prop} (hh : A.handled = none) (D : ZA z TI TO is ls) (hz : ZRec s.heap z TI TO f0 f1) (hf : f0 = .none ∨ ∃ T : Nat, f0 = rawInt T)
    (hTI : TupAt s.heap TI (is.map Value.ref).toArray) (hTO : TupAt s.heap TO ow) (hI : Its s.heap is ls fun _ => k) (hV : ∀ l, ls[0]? = some l → ∃ items, s.heap.IsTuple l items ∧ items[k]? = none)
    (hQ : ∀ h', (∀ c o, c ≠ z → c ≠ TO → c ∉ is → s.heap.get? c = some o → h'.get? c = some o) → Q none { s with heap := h' }) : wpAny (model prog w) A (pyNext (.ref z)) Q E s := by
  have hT : s.TypeIs (.ref z) "zip" := ⟨_, hz, rfl⟩
  unfold pyNext
  refine wpAny_bind (wpAny_attempt (wpAny_callSpecial?_slot (name := Str.ofString "__next__") hT F.slot_zip_next
    (wpAny_call_entry F.slot_zip_next hT F.entry_zip_next (zn_end hh D hz hf hTI hTO hI hV fun h' e hk he => ?_) (F.args_zip_next_1 _))))
  obtain ⟨o, ho, hc⟩ := he
  refine wpAny_bind (wpAny_isInstance (T := "StopIteration") (b := true) ⟨o, ho, hc⟩ isSubtype_stop ?_)
  exact wpAny_pure (hQ _ hk)
theorem iter_self {z TI TO : Addr} {f0 f1 : Value} {Q : Value → Shared → Prop} (hz : ZRec s.heap z TI TO f0 f1) (h : Q (.ref z) s) : wpAny (model prog w) A (pyIter (.ref z)) Q E s := by
  have hT : s.TypeIs (.ref z) "zip" := ⟨_, hz, rfl⟩
  refine wpAny_pyIter_slot hT F.slot_zip_iter (wpAny_call_entry F.slot_zip_iter hT F.entry_zip_iter ?_ (F.args_zip_iter_1 _))
  show wpAny _ _ (ret (.ref z)) _ _ s
  exact wpAny_pure ⟨_, rfl, "zip", _, hT, F.slot_zip_next.lookup, h⟩
theorem type_ok (us : List Value) : checkTypeCall "zip" ⟨us, []⟩ = pure () := by kernel_rfl
theorem new_ok (u : Value) (us : List Value) : checkBuiltinCall "zip.__new__" ⟨.type "zip" :: u :: us, []⟩ = pure () := by kernel_rfl
theorem init_ok (v : Value) (us : List Value) : argsOk "object.__init__" ⟨v :: us, []⟩ := by unfold argsOk; kernel_rfl
/-- the heap with an iterator for each of the tuples -/
def itH : Heap → List Addr → Heap
  | h, [] => h
  | h, l :: ls => itH (h.push { cls := .type "tuple_iterator", data := .fields #[.ref l, .int 0 0] }) ls
theorem itH_size : ∀ (ls : List Addr) (h : Heap), (itH h ls).objs.size = h.objs.size + ls.length
  | [], h => rfl
  | l :: ls, h => by
    show (itH _ ls).objs.size = _
    rw [itH_size ls, Heap.size_push, List.length_cons]
    omega
theorem itH_keep : ∀ (ls : List Addr) (h : Heap) (c : Addr) (o : Obj), h.get? c = some o → (itH h ls).get? c = some o
  | [], _, _, _, e => e
  | l :: ls, h, c, o, e => itH_keep ls _ c o (Heap.get?_push_of_some _ e)
theorem itH_at : ∀ (ls : List Addr) (h : Heap) (j : Nat) (l : Addr), ls[j]? = some l → (itH h ls).get? (h.objs.size + j) = some { cls := .type "tuple_iterator", data := .fields #[.ref l, .int 0 0] }
  | [], _, j, l, e => by simp at e
  | a :: ls, h, 0, l, e => by
    cases e
    exact itH_keep ls _ _ _ (Heap.get?_push_size _ rfl)
  | a :: ls, h, j + 1, l, e => by
    have z := itH_at ls (h.push { cls := .type "tuple_iterator", data := .fields #[.ref a, .int 0 0] }) j l (by simpa using e)
    rw [Heap.size_push] at z
    have e1 : h.objs.size + (j + 1) = h.objs.size + 1 + j := by omega
    show (itH _ ls).get? _ = _
    rw [e1]
    exact z
theorem itH_snoc : ∀ (ls : List Addr) (h : Heap) (l : Addr), itH h (ls ++ [l]) = (itH h ls).push { cls := .type "tuple_iterator", data := .fields #[.ref l, .int 0 0] }
  | [], _, _ => rfl
  | a :: ls, h, l => itH_snoc ls _ l
/-- the iterators' places -/
def itA (h : Heap) (n : Nat) : List Addr := (List.range n).map fun j => h.objs.size + j
theorem itA_succ (h : Heap) (n : Nat) : itA h (n + 1) = itA h n ++ [h.objs.size + n] := by
  unfold itA
  rw [List.range_succ, List.map_append]
  rfl
theorem itA_length (h : Heap) (n : Nat) : (itA h n).length = n := by
  unfold itA
  rw [List.length_map, List.length_range]
theorem itA_at {h : Heap} {n j : Nat} {i : Addr} (e : (itA h n)[j]? = some i) : i = h.objs.size + j ∧ j < n := by
  unfold itA at e
  rw [List.getElem?_map] at e
  obtain ⟨k, e1, rfl⟩ := Option.map_eq_some_iff.mp e
  obtain ⟨h1, h2⟩ := List.getElem?_eq_some_iff.mp e1
  rw [List.getElem_range] at h2
  rw [List.length_range] at h1
  exact ⟨by rw [h2], h1⟩
theorem iter_all {ls : List Addr} {s : Shared} {Q : List Value → Shared → Prop} (h : ∀ l ∈ ls, ∃ items, s.heap.IsTuple l items) (hQ : Q ((itA s.heap ls.length).map Value.ref) { s with heap := itH s.heap ls }) :
    wpAny (model prog w) A (Builtin.SmallTypes.iterAll (ls.map Value.ref)) Q E s := by
  unfold Builtin.SmallTypes.iterAll
  refine wpAny_bind ?_
  refine wpAny_forIn_list _ (fun rest b s' => ∃ j, rest = (ls.drop j).map Value.ref ∧ j ≤ ls.length ∧ b = ((itA s.heap j).map Value.ref).toArray ∧ s' = { s with heap := itH s.heap (ls.take j) }) _ ?_ ?_ _ _ ⟨0, by simp, Nat.zero_le _, by simp [itA], by simp [itH]⟩
  · rintro x rest b s' ⟨j, hr, hj, rfl, rfl⟩
    have hjl : j < ls.length := by
      rcases Nat.lt_or_ge j ls.length with q | q
      · exact q
      · rw [List.drop_of_length_le q] at hr
        exact nomatch hr
    rw [List.drop_eq_getElem_cons hjl, List.map_cons] at hr
    obtain ⟨rfl, h2⟩ := List.cons.inj hr
    obtain ⟨items, ot, eot, rot⟩ := h _ (List.getElem_mem hjl)
    have et : ls.take (j + 1) = ls.take j ++ [ls[j]] := by
      rw [List.take_add_one, List.getElem?_eq_getElem hjl]
      rfl
    have ez : (itH s.heap (ls.take j)).objs.size = s.heap.objs.size + j := by
      rw [itH_size, List.length_take, Nat.min_eq_left (Nat.le_of_lt hjl)]
    refine wpAny_bind (wpAny_holding (wpAny_pyIter_tuple ⟨ot, itH_keep _ _ _ _ eot, rot⟩ (wpAny_pure ⟨j + 1, h2, hjl, ?_, ?_⟩)))
    · rw [itA_succ, List.map_append]
      show _ = _
      simp [ez]
    · rw [et, itH_snoc]
  · rintro b s' ⟨j, hr, hj, rfl, rfl⟩
    have hjn : j = ls.length := by
      rcases Nat.lt_or_ge j ls.length with q | q
      · rw [List.drop_eq_getElem_cons q, List.map_cons] at hr
        exact nomatch hr
      · exact Nat.le_antisymm hj q
    subst hjn
    rw [List.take_length]
    exact wpAny_pure hQ
abbrev zT (h : Heap) (ls : List Addr) : Heap := (itH h ls).push { cls := .type "tuple", data := .seq ((itA h ls.length).map Value.ref).toArray }
abbrev zO (h : Heap) (ls : List Addr) : Heap := (zT h ls).push { cls := .type "tuple", data := .seq (((itA h ls.length).map Value.ref).map fun _ => Value.none).toArray }
abbrev zZ (h : Heap) (ls : List Addr) : Heap := (zO h ls).push { cls := .type "zip", data := .fields #[.none, .bool false, .bool false, .ref (itH h ls).objs.size, .ref (zT h ls).objs.size] }
theorem meets_new (l : Addr) (ls : List Addr) : Meets (Builtin.«zip.__new__» ⟨.type "zip" :: .ref l :: ls.map Value.ref, []⟩) (fun _ R s => ((∀ x ∈ l :: ls, ∃ items, s.heap.IsTuple x items) ∧ (l :: ls).length ≤ 1000) ∧
    R (.ok (.ret (.ref (zO s.heap (l :: ls)).objs.size))) { s with heap := zZ s.heap (l :: ls) }) :=
  .of_wp fun prog w A R s h => by
    obtain ⟨hp, g, d, tk, os⟩ := s
    obtain ⟨⟨h1, h2⟩, h3⟩ := h
    have hsub := sub_zip
    have h16 := sizeLine_eq
    unfold Builtin.«zip.__new__»
    have hc : Builtin.SmallTypes.newClass "zip" ⟨Value.type "zip" :: Value.ref l :: ls.map Value.ref, []⟩ = pure (Value.type "zip", Value.ref l :: ls.map Value.ref) := by
      unfold Builtin.SmallTypes.newClass
      simp [isType, hsub]
    rw [hc]
    refine wpAny_bind (wpAny_pure ?_)
    show wpAny _ _ (Builtin.SmallTypes.iterAll ((l :: ls).map Value.ref) >>= _) _ _ _
    refine wpAny_bind (iter_all (ls := l :: ls) h1 ?_)
    have hz : ((itA hp (l :: ls).length).map Value.ref).length ≤ sizeLine := by
      rw [List.length_map, itA_length]
      omega
    refine wpAny_bind (wpAny_newTuple ?_ hz)
    refine wpAny_bind (wpAny_newTuple ?_ (by rw [List.length_map]; exact hz))
    refine wpAny_bind ?_
    show wpAny _ _ (newObj (.type "zip") (.fields #[.none, .bool false, .bool false, .ref (itH hp (l :: ls)).objs.size, .ref (zT hp (l :: ls)).objs.size])) _ _ _
    refine wpAny_newObj_type ?_ (by first | trivial | size_fits)
    exact wpAny_pure ⟨_, rfl, h3⟩
theorem zip_made {l : Addr} {ls : List Addr} {Q : Value → Shared → Prop} (h1 : ∀ x ∈ l :: ls, ∃ items, s.heap.IsTuple x items) (h2 : (l :: ls).length ≤ 1000) (h : Q (.ref (zO s.heap (l :: ls)).objs.size) { s with heap := zZ s.heap (l :: ls) }) :
    wpAny (model prog w) A (call (.type "zip") (.ref l :: ls.map Value.ref)) Q E s := by
  refine callType_new F.called_zip (by decide) (type_ok _) (new_ok _ _) (fun obj => init_ok obj _) F.entry_zip_new (meets_new l ls) ⟨⟨h1, h2⟩, ?_⟩
  exact ⟨⟨_, Heap.get?_push_size _ rfl, rfl⟩, h⟩
end
end FoU

set_option maxHeartbeats 4100000
/-! for x in zip(*e), e a tuple of tuples. -/
namespace FoU
open PySem PySem.Spec PyProof.Rows L2
/-- the tuples at ls as they stand at each turn, the items in new tuples -/
def Itn (K : PySem.W.Frag) (ls : List Addr) : It :=
  ⟨fun i H => ∃ vals : List V, vals.length = ls.length ∧ ∀ (j : Nat) (l : Addr) (v : V), ls[j]? = some l → vals[j]? = some v → ∃ xs, SqT K H l xs ∧ xs[i]? = some v,
    fun i H v H' => ∃ (T : Addr) (vals : List V), v = .ref T ∧ H T = none ∧ H' = upd H T (.tup vals) ∧ vals.length = ls.length ∧ ∀ (j : Nat) (l : Addr) (u : V), ls[j]? = some l → vals[j]? = some u → ∀ xs, SqT K H l xs → xs[i]? = some u,
    fun i H => ∀ l, ls[0]? = some l → ∃ xs, SqT K H l xs ∧ xs.length ≤ i⟩
/-- the machine's cells of it -/
def ZTn (z TI TO : Addr) (is ls : List Addr) (i : Nat) (h : Heap) : Prop := ∃ (f0 f1 : Value) (ow : Array Value), (f0 = .none ∨ ∃ T : Nat, f0 = rawInt T) ∧ ZRec h z TI TO f0 f1 ∧ TupAt h TI (is.map Value.ref).toArray ∧ TupAt h TO ow ∧ ow.size = is.length ∧ Its h is ls fun _ => i
theorem ls_of {ls is : List Addr} (h : ls.length = is.length) {j : Nat} {i : Addr} (e : is[j]? = some i) : ∃ l, ls[j]? = some l :=
  ⟨ls[j]'(by rw [h]; exact (List.getElem?_eq_some_iff.mp e).1), List.getElem?_eq_getElem _⟩
theorem step_zn {X : Cx} {A : Around} {pins : List (Addr × Obj)} {s : Shared} {σ : L2.St} {H : Hp} {E : Value → Shared → Prop} {i : Nat} {z TI TO : Addr} {is ls : List Addr} (D : ZA z TI TO is ls) (h1000 : is.length ≤ 1000) (I : Inv X pins σ H s)
    (hfp : ∀ b ∈ z :: TI :: TO :: is, FpOk X pins H b) (st : ZTn z TI TO is ls i s.heap) (hg : (Itn X.K ls).go i H) :
    wpAny (model X.prog X.w) A (pyNext (.ref z)) (fun r s1 => ∃ u x H', r = some u ∧ Inv X pins σ H' s1 ∧ RelV x u ∧ (Itn X.K ls).yld i H x H' ∧ ZTn z TI TO is ls (i + 1) s1.heap ∧ ∀ b ∈ z :: TI :: TO :: is, H' b = none) E s := by
  obtain ⟨f0, f1, ow, hf, hz, hTI, hTO, how, hI⟩ := st
  obtain ⟨vals, hl, hv⟩ := hg
  have look : ∀ (j : Nat) (l : Addr) (v : V), ls[j]? = some l → vals[j]? = some v → ∃ (xs : List V) (its : List Value) (u : Value), SqT X.K H l xs ∧ xs[i]? = some v ∧ Vals xs its ∧ s.heap.IsTuple l its.toArray ∧ its[i]? = some u ∧ RelV v u := fun j l v e1 e2 => by
    obtain ⟨xs, hq, hx⟩ := hv j l v e1 e2
    obtain ⟨its, rv, p, _⟩ := I.tuple hq
    obtain ⟨u, hu, ru⟩ := rv.get hx
    exact ⟨xs, its, u, hq, hx, rv, p, hu, ru⟩
  -- the machine's values
  have ex : ∀ n, n ≤ vals.length → ∃ us : List Value, us.length = n ∧ Vals (vals.take n) us ∧ ∀ (j : Nat) (l : Addr) (u : Value), ls[j]? = some l → us[j]? = some u → ∃ items, s.heap.IsTuple l items ∧ items[i]? = some u := fun n => by
    induction n with
    | zero => exact fun _ => ⟨[], rfl, .nil, fun j l u _ e => by simp at e⟩
    | succ n ih =>
      intro hn
      obtain ⟨us, e1, e2, e3⟩ := ih (by omega)
      have en : vals[n]? = some vals[n] := List.getElem?_eq_getElem (by omega)
      have el : ls[n]? = some (ls[n]'(by omega)) := List.getElem?_eq_getElem (by omega)
      obtain ⟨xs, its, u, hq, hx, rv, p, hu, ru⟩ := look n _ _ el en
      refine ⟨us ++ [u], by simp [e1], ?_, fun j l u' f1 f2 => ?_⟩
      · rw [List.take_add_one, en]
        exact e2.append (.cons ru .nil)
      · rw [List.getElem?_append] at f2
        split at f2
        · exact e3 j l u' f1 f2
        · have ej : j - us.length = 0 := by
            cases q : j - us.length with
            | zero => rfl
            | succ m =>
              rw [q] at f2
              simp at f2
          rw [ej] at f2
          cases f2
          have ej2 : j = n := by omega
          subst ej2
          rw [el] at f1
          cases f1
          exact ⟨_, p, by simpa using hu⟩
  obtain ⟨us, ul, rvs, hus⟩ := ex vals.length (Nat.le_refl _)
  rw [List.take_length] at rvs
  have hzl : z < s.heap.objs.size := Heap.lt_size hz
  refine next_item D hz hf hTI hTO how hI (vals := us) (fun j l u e1 e2 => hus j l u e1 e2) (by rw [ul, hl, D.len]) h1000 fun h' f0' f1' ow' hf' hz' hTO' how' hI' hT hsz hk => ?_
  have hvl : vals.length ≤ 1000 := by rw [hl, D.len]; exact h1000
  have new : ObjOk X.prog X.w (upd H s.heap.objs.size (.tup vals)) h' s.heap.objs.size (.tup vals) :=
    ⟨by rw [sizeLine_eq]; omega, us, rvs, ⟨_, hT, rfl, _, rfl⟩⟩
  have I1 : Inv X pins σ (upd H s.heap.objs.size (.tup vals)) { s with heap := h' } :=
    I.turnedNew (t' := s.toks) (ch := z :: TI :: TO :: is) (fun c o hb q => hk c o (fun q' => hb (by simp [q'])) (fun q' => hb (by simp [q'])) (fun q' => hb (by simp [q'])) q) hfp (Nat.le_refl _) new
  refine ⟨_, .ref s.heap.objs.size, _, rfl, I1, rfl, ⟨_, vals, rfl, I.hok.fresh (Nat.le_refl _), rfl, hl, fun j l u e1 e2 xs hx => ?_⟩, ⟨f0', f1', ow', hf', hz', hk _ _ D.TIz D.TITO D.TIi hTI, hTO', how', hI'⟩, fun c hcm => ?_⟩
  · obtain ⟨ys, hq, hy⟩ := hv j l u e1 e2
    rw [I.tuple_inj hx hq]
    exact hy
  · have hlt : c < s.heap.objs.size := by
      rcases List.mem_cons.mp hcm with rfl | hcm'
      · exact hzl
      rcases List.mem_cons.mp hcm' with rfl | hcm'
      · exact Heap.lt_size hTI
      rcases List.mem_cons.mp hcm' with rfl | hcm'
      · exact Heap.lt_size hTO
      obtain ⟨j, e⟩ := List.getElem?_of_mem hcm'
      obtain ⟨l, el⟩ := ls_of D.len e
      obtain ⟨o, eo, _⟩ := hI j c l e el
      exact Heap.lt_size eo
    rw [upd_ne (Nat.ne_of_lt hlt)]
    exact (hfp c hcm).1
theorem stop_zn {X : Cx} {A : Around} {pins : List (Addr × Obj)} {s : Shared} {σ : L2.St} {H : Hp} {E : Value → Shared → Prop} {i : Nat} {z TI TO : Addr} {is ls : List Addr} (hh : A.handled = none) (D : ZA z TI TO is ls) (I : Inv X pins σ H s)
    (hfp : ∀ b ∈ z :: TI :: TO :: is, FpOk X pins H b) (st : ZTn z TI TO is ls i s.heap) (hg : (Itn X.K ls).stop i H) :
    wpAny (model X.prog X.w) A (pyNext (.ref z)) (fun r s1 => r = none ∧ Inv X pins σ H s1) E s := by
  obtain ⟨f0, f1, ow, hf, hz, hTI, hTO, how, hI⟩ := st
  refine next_end hh D hz hf hTI hTO hI (fun l el => ?_) fun h' hk => ⟨rfl, I.turnedL (t' := s.toks) (ch := z :: TI :: TO :: is) (fun c o hb q =>
    hk c o (fun q' => hb (by simp [q'])) (fun q' => hb (by simp [q'])) (fun q' => hb (by simp [q'])) q) hfp⟩
  obtain ⟨xs, hq, hx⟩ := hg l el
  obtain ⟨its, rv, p, _⟩ := I.tuple hq
  have l1 := rv.length
  exact ⟨_, p, by simp; omega⟩
theorem turn_zn {P : Program} {w : World} {K : PySem.W.Frag} {x : Str} {px : Pos} {z TI TO : Addr} {is ls : List Addr} (D : ZA z TI TO is ls) (h1000 : is.length ≤ 1000) :
    Turn P w K (.Name x px) (Itn K ls) (z :: TI :: TO :: is) z (ZTn z TI TO is ls) where
  mem := List.mem_cons_self
  obj := fun i h st c hc => by
    obtain ⟨f0, f1, ow, hf, hz, hTI, hTO, how, hI⟩ := st
    rcases List.mem_cons.mp hc with rfl | hc
    · exact ⟨_, hz, fun v q => nomatch q⟩
    rcases List.mem_cons.mp hc with rfl | hc
    · exact ⟨_, hTI, fun v q => nomatch q⟩
    rcases List.mem_cons.mp hc with rfl | hc
    · exact ⟨_, hTO, fun v q => nomatch q⟩
    obtain ⟨j, e⟩ := List.getElem?_of_mem hc
    obtain ⟨l, el⟩ := ls_of D.len e
    obtain ⟨o, eo, _, d⟩ := hI j c l e el
    exact ⟨o, eo, fun v q => by rw [d] at q; cases q⟩
  keep := fun i h h' st k => by
    obtain ⟨f0, f1, ow, hf, hz, hTI, hTO, how, hI⟩ := st
    exact ⟨f0, f1, ow, hf, k z (by simp) _ hz, k TI (by simp) _ hTI, k TO (by simp) _ hTO, how, fun j c l e el => (hI j c l e el).at fun o q => k c (by simp [List.mem_of_getElem? e]) o q⟩
  item := by
    intro X hP hw hK hc i pins s σ H E I hfp st hg
    subst hP hw hK
    refine wpAny_mono (step_zn D h1000 I hfp st hg) (fun r s1 ⟨u, x, H', er, I1, rx, y, st', hn⟩ => ⟨u, er, ?_⟩) fun _ _ z => z
    unfold letOwnedTupleGo
    exact wpAny_pure ⟨x, H', I1, rx, y, st', hn⟩
  done := by
    intro X hP hw hK hc i pins s σ H E I hfp st hg
    subst hP hw hK
    exact stop_zn (I.ok.hd hc) D I hfp st hg
  self := fun A i s Q E st h => by
    obtain ⟨f0, f1, ow, hf, hz, _⟩ := st
    exact iter_self hz h
theorem vals_refs : ∀ {ls : List Addr} {us : List Value}, Vals (ls.map V.ref) us → us = ls.map Value.ref
  | [], _, .nil => rfl
  | l :: ls, _, .cons r rr => by
    cases r
    rw [vals_refs rr]
    rfl
theorem call_star {M : Model} {A : Around} {E : Value → Shared → Prop} {s : Shared} {env : Env} {pos p : Pos} {e : Expr} {Q : Value → Shared → Prop}
    (h : wpAny M A (eval e env) (fun v s₁ => PySem.W.StarOf M A E v (fun vs s₂ => wpAny M A (call (.type "zip") vs) Q E s₂) s₁) E s) (he : starEach [.Starred e p] env = [(true, eval e env)]) :
    wpAny M A (callWith pos (.type "zip") [] (backTo pos (starEach [.Starred e p] env)) []) Q E s := by
  rw [he]
  refine PySem.W.ks_call (P := fun _ => True) rfl (fun h _ => ⟨.machine, .inr (.inl rfl), PySem.W.Looks.of_pure (by first | rfl | kernel_rfl)⟩) (PySem.W.ks_lone (wpAny_mono h (fun v s1 hh => ?_) fun _ _ z => z))
  unfold PySem.W.StarOf at hh ⊢
  exact wpAny_mono hh (fun b s2 ⟨e1, hh2⟩ => ⟨e1, wpAny_mono hh2 (fun vs s3 h3 => ⟨trivial, h3⟩) fun _ _ z => z⟩) fun _ _ z => z
/-- zip(*e) in a for or a comprehension, the target a name -/
def iZipS (K : PySem.W.Frag) (te : TE) : TI := fun τ H R => te τ H fun x H1 => ∃ (t l : Addr) (ls : List Addr), x = .ref t ∧ SqT K H1 t ((l :: ls).map V.ref) ∧ (∀ y ∈ l :: ls, ∃ xs, SqT K H1 y xs) ∧ (l :: ls).length ≤ 1000 ∧ R (Itn K (l :: ls)) H1
theorem za_of {h : Heap} {l : Addr} {ls : List Addr} (hlt : ∀ y ∈ l :: ls, y < h.objs.size) : ZA (zO h (l :: ls)).objs.size (itH h (l :: ls)).objs.size (zT h (l :: ls)).objs.size (itA h (l :: ls).length) (l :: ls) := by
  have e1 : (itH h (l :: ls)).objs.size = h.objs.size + (l :: ls).length := itH_size _ _
  have e2 : (zT h (l :: ls)).objs.size = h.objs.size + (l :: ls).length + 1 := by rw [Heap.size_push, e1]
  have e3 : (zO h (l :: ls)).objs.size = h.objs.size + (l :: ls).length + 2 := by rw [Heap.size_push, e2]
  have mem : ∀ {a : Addr}, a ∈ itA h (l :: ls).length → ∃ j : Nat, a = h.objs.size + j ∧ j < (l :: ls).length := fun {a} q => by
    obtain ⟨j, e⟩ := List.getElem?_of_mem q
    exact ⟨j, itA_at e⟩
  have far : ∀ {b j n m : Nat}, j < n → b + n + m ≠ b + j := fun h q => by omega
  have low : ∀ {y b n m : Nat}, y < b → y ≠ b + n + m := fun h q => by omega
  have low0 : ∀ {y b j : Nat}, y < b → y ≠ b + j := fun h q => by omega
  have up : ∀ {b n m k : Nat}, m < k → b + n + m ≠ b + n + k := fun h q => by omega
  rw [e1, e2, e3]
  refine ⟨up (b := h.objs.size) (n := (l :: ls).length) (m := 0) (k := 2) (by decide), up (b := h.objs.size) (n := (l :: ls).length) (m := 1) (k := 2) (by decide), up (b := h.objs.size) (n := (l :: ls).length) (m := 0) (k := 1) (by decide), ?_, fun q => ?_, fun q => ?_, fun q => ?_, fun y hy => ⟨low (m := 2) (hlt y hy), low (m := 1) (hlt y hy), fun q => ?_⟩, by rw [itA_length], fun q => ?_⟩
  · unfold itA
    rw [List.Nodup, List.pairwise_map]
    exact List.Pairwise.imp (fun {a b} n q => n (Nat.add_left_cancel q)) List.nodup_range
  · obtain ⟨j, q1, q2⟩ := mem q
    exact far (m := 2) q2 q1
  · obtain ⟨j, q1, q2⟩ := mem q
    exact far (m := 0) q2 q1
  · obtain ⟨j, q1, q2⟩ := mem q
    exact far (m := 1) q2 q1
  · obtain ⟨j, q1, q2⟩ := mem q
    exact low0 (hlt y hy) q1
  · have z := itA_length h (l :: ls).length
    rw [q] at z
    cases z
theorem pi_zipS {X : Cx} {e : Expr} {te : TE} {x : Str} {px p sp pos : Pos} (hg : Gl X "zip") (hm : X.mg "zip" = none) (he : PE X e te) (hs : starEach [.Starred e sp] X.env = [(true, eval e X.env)] := by rfl) :
    PI X (.Name x px) (.Call (.Name "zip" p) [.Starred e sp] [] pos) (iZipS X.K te) := by
  refine ⟨fun pins s σ H R I h => ?_⟩
  refine Call_ (ld_blt I hg hm PyProof.Rows.boot_zip (call_star (thn (he.run pins s σ H _ I h) fun v s1 ⟨y, H1, I1, ry, t, l, ls, ey, hx, hy, hn, q⟩ => ?_) hs))
  subst ey
  obtain rfl : v = Value.ref t := ry
  refine StX.star_any I1 (.inl hx) fun us s2 I2 rv => ?_
  have eu := vals_refs rv
  subst eu
  have tups : ∀ y ∈ l :: ls, ∃ items, s2.heap.IsTuple y items := fun y hy' => by
    obtain ⟨xs, hq⟩ := hy y hy'
    obtain ⟨its, _, p, _⟩ := I2.tuple hq
    exact ⟨_, p⟩
  have lt : ∀ y ∈ l :: ls, y < s2.heap.objs.size := fun y hy' => by
    obtain ⟨items, o, eo, _⟩ := tups y hy'
    exact Heap.lt_size eo
  refine zip_made tups hn ?_
  have kp : ∀ c o, s2.heap.get? c = some o → (zZ s2.heap (l :: ls)).get? c = some o := fun c o e => Heap.get?_push_of_some _ (Heap.get?_push_of_some _ (Heap.get?_push_of_some _ (itH_keep _ _ _ _ e)))
  have I3 : Inv X pins σ H1 { s2 with heap := zZ s2.heap (l :: ls) } := I2.kept (t' := s2.toks) kp
  have D := za_of (h := s2.heap) lt
  have hz : ZRec (zZ s2.heap (l :: ls)) (zO s2.heap (l :: ls)).objs.size (itH s2.heap (l :: ls)).objs.size (zT s2.heap (l :: ls)).objs.size .none (.bool false) := Heap.get?_push_size _ rfl
  refine iter_self hz ⟨_, _, _, _, H1, rfl, I3, turn_zn D (by rw [itA_length]; exact hn), ⟨.none, .bool false, _, .inl rfl, hz, Heap.get?_push_of_some _ (Heap.get?_push_of_some _ (Heap.get?_push_size _ rfl)), Heap.get?_push_of_some _ (Heap.get?_push_size _ rfl), by simp, fun j i l' e1 e2 => ?_⟩, fun c hc => ?_, q⟩
  · obtain ⟨q1, q2⟩ := itA_at e1
    subst q1
    exact ⟨_, Heap.get?_push_of_some _ (Heap.get?_push_of_some _ (Heap.get?_push_of_some _ (itH_at _ _ _ _ e2))), rfl, rfl⟩
  · have hle : s2.heap.objs.size ≤ c := by
      have e1 : (itH s2.heap (l :: ls)).objs.size = s2.heap.objs.size + (l :: ls).length := itH_size _ _
      have e2 : (zT s2.heap (l :: ls)).objs.size = s2.heap.objs.size + (l :: ls).length + 1 := by rw [Heap.size_push, e1]
      have e3 : (zO s2.heap (l :: ls)).objs.size = s2.heap.objs.size + (l :: ls).length + 2 := by rw [Heap.size_push, e2]
      rcases List.mem_cons.mp hc with rfl | hc
      · rw [e3]
        exact Nat.le_add_right _ (_ + 2)
      rcases List.mem_cons.mp hc with rfl | hc
      · rw [e1]
        exact Nat.le_add_right _ _
      rcases List.mem_cons.mp hc with rfl | hc
      · rw [e2]
        exact Nat.le_add_right _ (_ + 1)
      obtain ⟨j, e⟩ := List.getElem?_of_mem hc
      obtain ⟨q1, q2⟩ := itA_at e
      rw [q1]
      exact Nat.le_add_right _ _
    exact I2.fpOk hle (I2.hok.fresh hle)
end FoU

set_option maxHeartbeats 4100000
/-! list(zip(..)) of tuples. -/
namespace FoU
open PySem PySem.Spec PyProof.Rows L2
theorem zip_no_len : typeLookup (.type "zip") "__len__" = pure none := am_miss_of_fast (by decide +kernel)
theorem zip_no_hint : typeLookup (.type "zip") "__length_hint__" = pure none := am_miss_of_fast (by decide +kernel)
theorem sqT_but {K : PySem.W.Frag} {H H' : Hp} {q l : Addr} {xs acc : List V} (h : SqT K H l xs) (hq : H q = some (.lst acc)) (e : ∀ b o, H b = some o → b ≠ q → H' b = some o) : SqT K H' l xs := by
  rcases h with (g | ⟨o, g⟩) | g
  · exact .inl (.inl (e _ _ g (fun z => by rw [z, hq] at g; cases g)))
  · exact .inl (.inr ⟨o, e _ _ g (fun z => by rw [z, hq] at g; cases g)⟩)
  · exact .inr g
/-- acc: new tuples, the j-th of the items at j of the columns -/
def Zac (ls : List Addr) (col : Addr → List V) (H : Hp) (acc : List V) : Prop := ∀ (j : Nat) (v : V), acc[j]? = some v → ∃ (T : Addr) (vals : List V), v = .ref T ∧ H T = some (.tup vals) ∧ vals.length = ls.length ∧
  ∀ (j' : Nat) (l : Addr) (u : V), ls[j']? = some l → vals[j']? = some u → (col l)[j]? = some u
theorem zloop {X : Cx} {A1 : Around} {pins : List (Addr × Obj)} {σ : L2.St} {q z TI TO : Addr} {is ls : List Addr} {n : Nat} {col : Addr → List V} {H0 : Hp} {a0 : List V} {Rs : Result → Shared → Prop} (hh : A1.in1.handled = none) (D : ZA z TI TO is ls) (h1000 : is.length ≤ 1000) (hn : n ≤ 1000)
    (hcol : ∀ l ∈ ls, (col l).length = n ∧ SqT X.K H0 l (col l)) (hq0 : H0 q = some (.lst a0)) (hdone : ∀ acc H s, Inv X pins σ H s → acc.length = n → H q = some (.lst acc) → (∀ b o, H0 b = some o → b ≠ q → H b = some o) → Zac ls col H acc → Rs (.ok (.ret .none)) s) :
    ∀ (m i : Nat) (acc : List V) (H : Hp) (s : Shared), n - i = m → i ≤ n → Inv X pins σ H s → (∀ b ∈ z :: TI :: TO :: is, FpOk X pins H b) → ZTn z TI TO is ls i s.heap → acc.length = i → H q = some (.lst acc) → (∀ b o, H0 b = some o → b ≠ q → H b = some o) → Zac ls col H acc →
      codeAny (model X.prog X.w) A1 (.builtin "list.extend.loop" ⟨[.ref q, .ref z, .none], []⟩) Rs s := by
  intro m
  induction m with
  | zero =>
    intro i acc H s hm hi I hfp st hl hq hk hz
    have hin : i = n := by omega
    subst hin
    refine codeAny_builtin PySem.F.entry_extend_loop ?_
    rw [Around.under_plainId PySem.F.plain_extend_loop _]
    show wpAny _ A1.in1 (pyNext (.ref z) >>= _) _ _ s
    have hg : (Itn X.K ls).stop i H := fun l el => by
      obtain ⟨c1, c2⟩ := hcol l (List.mem_of_getElem? el)
      exact ⟨col l, sqT_but c2 hq0 hk, by rw [c1]; exact Nat.le_refl _⟩
    refine wpAny_bind (wpAny_mono (stop_zn hh D I hfp st hg) (fun r s' ⟨er, I'⟩ => ?_) fun _ _ z => z)
    subst er
    exact wpAny_pure (hdone acc H s' I' hl hq hk hz)
  | succ m ih =>
    intro i acc H s hm hi I hfp st hl hq hk hz
    have hlt : i < n := by omega
    refine codeAny_builtin PySem.F.entry_extend_loop ?_
    rw [Around.under_plainId PySem.F.plain_extend_loop _]
    show wpAny _ A1.in1 (pyNext (.ref z) >>= _) _ _ s
    have hg : (Itn X.K ls).go i H := by
      refine ⟨ls.map fun l => ((col l)[i]?).getD .non, by rw [List.length_map], fun j l v e1 e2 => ?_⟩
      obtain ⟨c1, c2⟩ := hcol l (List.mem_of_getElem? e1)
      rw [List.getElem?_map, e1] at e2
      cases e2
      refine ⟨col l, sqT_but c2 hq0 hk, ?_⟩
      have ei : (col l)[i]? = some ((col l)[i]'(by rw [c1]; exact hlt)) := List.getElem?_eq_getElem _
      dsimp only
      rw [ei]
      rfl
    refine wpAny_bind (wpAny_mono (step_zn D h1000 I hfp st hg) (fun r s' ⟨u, x, H', er, I', rx, y, st', hnn⟩ => ?_) fun _ _ z => z)
    subst er
    obtain ⟨T, vals, rfl, hT, rfl, hvl, hvc⟩ := y
    have Tq : T ≠ q := fun z => by
      rw [z, hq] at hT
      cases hT
    have hq' : upd H T (.tup vals) q = some (.lst acc) := by
      rw [upd_ne (Ne.symm Tq)]
      exact hq
    show wpAny _ A1.in1 (updateSeq q (·.push u) >>= _) _ _ _
    obtain ⟨z1, its, k, r2, hl2, e⟩ := I'.lstM hq'
    have h16 := sizeLine_eq
    refine wpAny_bind (wpAny_updateSeq e rfl (wpAny_pure ⟨plainId_quiet PySem.F.plain_extend_loop _, ?_⟩) (by rw [List.size_toArray]; omega) (by show (its.toArray.push u).size ≤ sizeLine + 1; rw [Array.size_push, List.size_toArray]; omega))
    have nq : ∀ {b : Addr}, b ∈ z :: TI :: TO :: is → b ≠ q := fun {b} hb w => by
      have w1 := (hfp b hb).1
      rw [w, hq] at w1
      cases w1
    refine ih (i + 1) (acc ++ [V.ref T]) _ _ (by omega) hlt (I'.lset (its' := its ++ [u]) (t' := s'.toks) hq' e (by simp) (r2.append (.cons rx .nil)) (by rw [List.length_append, List.length_singleton]; omega)) (fun b hb => ⟨?_, (hfp b hb).2⟩)
      ((turn_zn (P := X.prog) (w := X.w) (K := X.K) (x := "x") (px := default) D h1000).keep (i + 1) s'.heap _ st' fun b hb o e1 => (Heap.get?_update_other _ _ (Ne.symm (nq hb))).trans e1) (by rw [List.length_append, hl]; rfl) upd_same (fun b o e1 e2 => ?_) (fun j v ej => ?_)
    · rw [upd_ne (nq hb)]
      exact hnn b hb
    · rw [upd_ne e2, upd_ne (ne_of_none (hk b o e1 e2) hT)]
      exact hk b o e1 e2
    · rw [List.getElem?_append] at ej
      split at ej
      · obtain ⟨T2, vals2, rfl, h2, l2, c2⟩ := hz j v ej
        refine ⟨T2, vals2, rfl, ?_, l2, c2⟩
        have n2 : T2 ≠ q := fun w => by
          rw [w, hq] at h2
          cases h2
        rw [upd_ne n2, upd_ne (ne_of_none h2 hT)]
        exact h2
      · have e0 : j - acc.length = 0 := by
          cases w : j - acc.length with
          | zero => rfl
          | succ m =>
            rw [w] at ej
            simp at ej
        rw [e0] at ej
        cases ej
        have ej2 : j = i := by omega
        subst ej2
        refine ⟨T, vals, rfl, ?_, hvl, fun j' l u' f1 f2 => ?_⟩
        · rw [upd_ne Tq, upd_same]
        · exact hvc j' l u' f1 f2 _ (sqT_but (hcol l (List.mem_of_getElem? f1)).2 hq0 hk)
theorem zip_hint {M : Model} {A : Around} {E : Value → Shared → Prop} {s : Shared} {z TI TO : Addr} {f0 f1 : Value} {Q : Bool → Shared → Prop} (hz : ZRec s.heap z TI TO f0 f1) (h : Q true s) : wpAny M A (Builtin.List.listLengthHint (.ref z)) Q E s := by
  have hT : s.TypeIs (.ref z) "zip" := ⟨_, hz, rfl⟩
  unfold Builtin.List.listLengthHint
  refine wpAny_bind (wpAny_specialOf hT zip_no_len ?_)
  show wpAny _ _ (specialOf (Value.ref z) (Str.ofString "__length_hint__") >>= _) _ _ _
  refine wpAny_bind (wpAny_specialOf hT zip_no_hint ?_)
  exact wpAny_pure h
theorem upd_back {H : Hp} {q : Addr} {o : HO} (h : H q = some o) : upd H q o = H := by
  funext b
  by_cases hb : b = q
  · rw [hb, upd_same, h]
  · rw [upd_ne hb]
/-- list(zip(a, b, ..)) of tuples of one length -/
theorem list_zip {X : Cx} {pins : List (Addr × Obj)} {σ : L2.St} {H : Hp} {s : Shared} {Q : VK} {l : Addr} {ls : List Addr} {col : Addr → List V} {n : Nat} (hc : X.calm = true) (I : Inv X pins σ H s)
    (hcol : ∀ y ∈ l :: ls, (col y).length = n ∧ SqT X.K H y (col y)) (h2 : (l :: ls).length ≤ 1000) (hn : n ≤ 1000)
    (h : ∀ (q : Addr) (H' : Hp) (acc : List V), H q = none → (∀ b o, H b = some o → H' b = some o) → H' q = some (.lst acc) → acc.length = n → Zac (l :: ls) col H' acc → Q (.ref q) H') :
    wpAny (model X.prog X.w) X.A (call (.type "zip") (.ref l :: ls.map Value.ref)) (fun v s1 => wpAny (model X.prog X.w) X.A (call (.type "list") [v]) (EP X pins σ Q) X.xe s1) X.xe s := by
  have tups : ∀ y ∈ l :: ls, ∃ items, s.heap.IsTuple y items := fun y hy' => by
    obtain ⟨its, _, p, _⟩ := I.tuple (hcol y hy').2
    exact ⟨_, p⟩
  have lt : ∀ y ∈ l :: ls, y < s.heap.objs.size := fun y hy' => by
    obtain ⟨items, o, eo, _⟩ := tups y hy'
    exact Heap.lt_size eo
  refine zip_made tups h2 ?_
  have kp : ∀ c o, s.heap.get? c = some o → (zZ s.heap (l :: ls)).get? c = some o := fun c o e => Heap.get?_push_of_some _ (Heap.get?_push_of_some _ (Heap.get?_push_of_some _ (itH_keep _ _ _ _ e)))
  have I3 : Inv X pins σ H { s with heap := zZ s.heap (l :: ls) } := I.kept (t' := s.toks) kp
  have D := za_of (h := s.heap) lt
  have hz : ZRec (zZ s.heap (l :: ls)) (zO s.heap (l :: ls)).objs.size (itH s.heap (l :: ls)).objs.size (zT s.heap (l :: ls)).objs.size .none (.bool false) := Heap.get?_push_size _ rfl
  have e1 : (itH s.heap (l :: ls)).objs.size = s.heap.objs.size + (l :: ls).length := itH_size _ _
  have e2 : (zT s.heap (l :: ls)).objs.size = s.heap.objs.size + (l :: ls).length + 1 := by rw [Heap.size_push, e1]
  have e3 : (zO s.heap (l :: ls)).objs.size = s.heap.objs.size + (l :: ls).length + 2 := by rw [Heap.size_push, e2]
  have e4 : (zZ s.heap (l :: ls)).objs.size = s.heap.objs.size + (l :: ls).length + 3 := by rw [Heap.size_push, e3]
  have st : ZTn (zO s.heap (l :: ls)).objs.size (itH s.heap (l :: ls)).objs.size (zT s.heap (l :: ls)).objs.size (itA s.heap (l :: ls).length) (l :: ls) 0 (zZ s.heap (l :: ls)) :=
    ⟨.none, .bool false, _, .inl rfl, hz, Heap.get?_push_of_some _ (Heap.get?_push_of_some _ (Heap.get?_push_size _ rfl)), Heap.get?_push_of_some _ (Heap.get?_push_size _ rfl), by simp, fun j i l' e1 e2 => by
      obtain ⟨q1, q2⟩ := itA_at e1
      subst q1
      exact ⟨_, Heap.get?_push_of_some _ (Heap.get?_push_of_some _ (Heap.get?_push_of_some _ (itH_at _ _ _ _ e2))), rfl, rfl⟩⟩
  have cells : ∀ c ∈ (zO s.heap (l :: ls)).objs.size :: (itH s.heap (l :: ls)).objs.size :: (zT s.heap (l :: ls)).objs.size :: itA s.heap (l :: ls).length, s.heap.objs.size ≤ c ∧ c ≠ (zZ s.heap (l :: ls)).objs.size := fun c hc => by
    have low : ∀ {b n m k : Nat}, m < k → b + n + m ≠ b + n + k := fun h q => by omega
    have low2 : ∀ {b j n k : Nat}, j < n → b + j ≠ b + n + k := fun h q => by omega
    rw [e4]
    rcases List.mem_cons.mp hc with rfl | hc
    · rw [e3]
      exact ⟨Nat.le_add_right _ (_ + 2), low (b := s.heap.objs.size) (n := (l :: ls).length) (m := 2) (k := 3) (by decide)⟩
    rcases List.mem_cons.mp hc with rfl | hc
    · rw [e1]
      exact ⟨Nat.le_add_right _ _, low (b := s.heap.objs.size) (n := (l :: ls).length) (m := 0) (k := 3) (by decide)⟩
    rcases List.mem_cons.mp hc with rfl | hc
    · rw [e2]
      exact ⟨Nat.le_add_right _ (_ + 1), low (b := s.heap.objs.size) (n := (l :: ls).length) (m := 1) (k := 3) (by decide)⟩
    obtain ⟨j, e⟩ := List.getElem?_of_mem hc
    obtain ⟨q1, q2⟩ := itA_at e
    rw [q1]
    exact ⟨Nat.le_add_right _ _, low2 (b := s.heap.objs.size) (j := j) (n := (l :: ls).length) (k := 3) q2⟩
  generalize (zO s.heap (l :: ls)).objs.size = z at *
  generalize (itH s.heap (l :: ls)).objs.size = TI at *
  generalize (zT s.heap (l :: ls)).objs.size = TO at *
  have fp0 : ∀ c ∈ z :: TI :: TO :: itA s.heap (l :: ls).length, FpOk X pins H c := fun c hc => I.fpOk (cells c hc).1 (I.hok.fresh (cells c hc).1)
  have ll : (itA s.heap (l :: ls).length).length ≤ 1000 := by rw [itA_length]; exact h2
  generalize itA s.heap (l :: ls).length = is at *
  generalize zZ s.heap (l :: ls) = G at *
  -- the call of list
  refine callType_codes (Q₁ := fun obj s₁ => obj = .ref G.objs.size ∧ s₁ = { s with heap := G.push { cls := .type "list", data := .seq #[] } }) PySem.F.called_list (PySem.F.typeCall_list_1 _) PySem.F.entry_list_init
    (code_list_new _ ⟨rfl, rfl⟩) fun obj s₁ h₁ => ?_
  obtain ⟨rfl, rfl⟩ := h₁
  have hS : (G.push { cls := .type "list", data := .seq #[] }).get? G.objs.size = some { cls := .type "list", data := .seq #[] } := Heap.get?_push_size _ rfl
  refine ⟨⟨_, hS, rfl⟩, PySem.F.args_list_init_2 _ _, ?_⟩
  have fr : H G.objs.size = none := I3.hok.fresh (Nat.le_refl _)
  have I1 : Inv X pins σ (upd H G.objs.size (.lst [])) { s with heap := G.push { cls := .type "list", data := .seq #[] } } := I3.lnew (its := []) (t' := s.toks) .nil (Nat.zero_le _)
  show wpAny _ _ (do let old ← Builtin.List.listItems (.ref G.objs.size); Builtin.List.listUpdate (.ref G.objs.size) (fun _ => #[]); letGo old.toList.reverse; Builtin.List.listExtendWith (.ref G.objs.size) (.ref z) .none) _ _ _
  refine wpAny_bind ?_
  unfold Builtin.List.listItems
  refine wpAny_bind (wpAny_seqItems hS rfl (wpAny_pure ?_))
  show wpAny _ _ (updateSeq G.objs.size (fun _ => #[]) >>= fun _ => letGo (#[] : Array Value).toList.reverse >>= fun _ => Builtin.List.listExtendWith (.ref G.objs.size) (.ref z) .none) _ _ _
  refine wpAny_bind (wpAny_updateSeq hS rfl ?_)
  have I2 := I1.lset (f := fun _ => #[]) (its := []) (its' := []) (ys := []) (t' := s.toks) upd_same hS rfl .nil (Nat.zero_le _)
  rw [upd_upd] at I2
  refine wpAny_bind (wpAny_letGo ?_)
  have zS : z ≠ G.objs.size := (cells z List.mem_cons_self).2
  have keepT : ∀ {h h' : Heap}, ZTn z TI TO is (l :: ls) 0 h → (∀ c o, c ≠ G.objs.size → h.get? c = some o → h'.get? c = some o) → ZTn z TI TO is (l :: ls) 0 h' := fun {h h'} st k =>
    (turn_zn (P := X.prog) (w := X.w) (K := X.K) (x := "x") (px := default) D ll).keep 0 h h' st fun b hb o e => k b o (cells b hb).2 e
  have st1 := keepT (h' := (G.push { cls := .type "list", data := .seq #[] }).update G.objs.size (Obj.mapSeq fun _ => #[])) st fun c o hcS e => (Heap.get?_update_other _ _ (Ne.symm hcS)).trans (Heap.get?_push_of_some _ e)
  have fp1 : ∀ c ∈ z :: TI :: TO :: is, FpOk X pins (upd H G.objs.size (.lst [])) c := fun c hcm => ⟨by rw [upd_ne (cells c hcm).2]; exact (fp0 c hcm).1, (fp0 c hcm).2⟩
  obtain ⟨f0, f1, ow, hf, hz1, _⟩ := id st1
  have hTz : Shared.TypeIs { s with heap := (G.push { cls := .type "list", data := .seq #[] }).update G.objs.size (Obj.mapSeq fun _ => #[]) } (.ref z) "zip" := ⟨_, hz1, rfl⟩
  have hcol1 : ∀ y ∈ l :: ls, (col y).length = n ∧ SqT X.K (upd H G.objs.size (.lst [])) y (col y) := fun y hy => by
    obtain ⟨c1, c2⟩ := hcol y hy
    refine ⟨c1, ?_⟩
    rcases c2 with (g | ⟨o, g⟩) | g
    · exact .inl (.inl (by rw [upd_ne (ne_of_none g fr)]; exact g))
    · exact .inl (.inr ⟨o, by rw [upd_ne (ne_of_none g fr)]; exact g⟩)
    · exact .inr g
  have fin : ∀ acc H' s', Inv X pins σ H' s' → acc.length = n → H' G.objs.size = some (.lst acc) → (∀ b o, upd H G.objs.size (.lst []) b = some o → b ≠ G.objs.size → H' b = some o) → Zac (l :: ls) col H' acc →
      wants (fun r s₂ => r = .none ∧ EP X pins σ Q (.ref G.objs.size) s₂) X.xe (.ok (.ret .none)) s' := fun acc H' s' I' e1 e2 e3 e4 =>
    ⟨rfl, .ref G.objs.size, H', I', rfl, h _ H' acc fr (fun b o e => e3 b o (by rw [upd_ne (ne_of_none e fr)]; exact e) (ne_of_none e fr)) e2 e1 e4⟩
  unfold Builtin.List.listExtendWith
  refine wpAny_bind (wpAny_typeOf hTz ?_)
  have h1 : Builtin.List.listSameRef (.ref G.objs.size) (.ref z) = false := by simp [Builtin.List.listSameRef, Ne.symm zS]
  have h3 : (Value.type "zip" == Value.type "list") = false := by decide
  have h4 : (Value.type "zip" == Value.type "tuple") = false := by decide
  simp only [h1, h3, h4, Bool.or_false, Bool.false_eq_true, if_false]
  refine wpAny_bind (iter_self hz1 ?_)
  refine wpAny_bind (wpAny_holding (zip_hint hz1 ?_))
  have hh : X.A.in1.in1.handled = none := I.ok.hd hc
  obtain ⟨z3, its, k3, r3, hl3, e5⟩ := I2.lstM upd_same
  cases r3
  refine wpAny_ite_split (fun _ => ?_) (fun _ => wpAny_pure ⟨plainId_quiet PySem.F.plain_extend_loop _, zloop (A1 := X.A.in1) hh D ll hn hcol1 upd_same fin n 0 [] _ _ (by omega) (Nat.zero_le _) I2 fp1 st1 rfl upd_same (fun b o e _ => e) (fun j v e => by simp at e)⟩)
  refine wpAny_bind (wpAny_rule ?_)
  refine wpAny_bind ?_
  show wpAny _ _ (updateSeq G.objs.size (·.push .none) >>= fun _ => updateSeq G.objs.size (·.pop)) _ _ _
  refine wpAny_bind (wpAny_updateSeq e5 rfl ?_)
  have J2 := I2.lset (f := (·.push Value.none)) (its' := [Value.none]) (ys := [.non]) (t' := s.toks) upd_same e5 (by simp) (.cons rfl .nil) (by rw [List.length_singleton, sizeLine_eq]; decide)
  obtain ⟨z4, its4, k4, r4, hl4, e6⟩ := J2.lstM upd_same
  obtain ⟨u4, rfl, ru4⟩ := r4.one
  refine wpAny_updateSeq e6 rfl ?_ (by show 1 ≤ sizeLine; rw [sizeLine_eq]; decide) (by show 0 ≤ sizeLine + 1; exact Nat.zero_le _)
  have J3 := J2.lset (f := (·.pop)) (its := [u4]) (its' := []) (ys := []) (t' := s.toks) upd_same e6 (by rfl) .nil (Nat.zero_le _)
  rw [upd_upd, upd_upd] at J3
  refine wpAny_pure ⟨plainId_quiet PySem.F.plain_extend_loop _, zloop (A1 := X.A.in1) hh D ll hn hcol1 upd_same fin n 0 [] _ _ (by omega) (Nat.zero_le _) J3 fp1 ?_ rfl upd_same (fun b o e _ => e) (fun j v e => by simp at e)⟩
  exact keepT (keepT st1 fun c o hcS e => (Heap.get?_update_other _ _ (Ne.symm hcS)).trans e) fun c o hcS e => (Heap.get?_update_other _ _ (Ne.symm hcS)).trans e
end FoU

set_option maxHeartbeats 4100000
/-! list(zip(*e)), list(zip(a, b)) as expressions. -/
namespace FoU
open PySem PySem.Spec PyProof.Rows L2
/-- the new list of the tuples' columns -/
def Lz (K : PySem.W.Frag) (ls : List Addr) (H1 : Hp) (Q : VK) : Prop := ∃ (col : Addr → List V) (n : Nat), (∀ y ∈ ls, (col y).length = n ∧ SqT K H1 y (col y)) ∧ ls.length ≤ 1000 ∧ n ≤ 1000 ∧
  ∀ (q : Addr) (H' : Hp) (acc : List V), H1 q = none → (∀ b o, H1 b = some o → H' b = some o) → H' q = some (.lst acc) → acc.length = n → Zac ls col H' acc → Q (.ref q) H'
def tLzS (K : PySem.W.Frag) (te : TE) : TE := fun τ H Q => te τ H fun x H1 => ∃ (t l : Addr) (ls : List Addr), x = .ref t ∧ SqT K H1 t ((l :: ls).map V.ref) ∧ Lz K (l :: ls) H1 Q
def tLz2 (K : PySem.W.Frag) (ta : TA) : TE := fun τ H Q => ta τ H fun vs H1 => ∃ (a b : Addr), vs = [.ref a, .ref b] ∧ Lz K [a, b] H1 Q
section
variable {X : Cx} {K' : PySem.W.Frag} {e e1 e2 : Expr} {te : TE} {ta : TA} {p p2 sp pos pos2 : Pos}
theorem pe_lzS (hc : X.calm = true) (hK : X.K = K') (hg : Gl X "list") (hm : X.mg "list" = none) (hg2 : Gl X "zip") (hm2 : X.mg "zip" = none) (he : PE X e te)
    (hs : starEach [.Call (.Name "zip" p2) [.Starred e sp] [] pos2] X.env = (false, eval (.Call (.Name "zip" p2) [.Starred e sp] [] pos2) X.env) :: starEach [] X.env := by rfl)
    (hs2 : starEach [.Starred e sp] X.env = [(true, eval e X.env)] := by rfl) :
    PE X (.Call (.Name "list" p) [.Call (.Name "zip" p2) [.Starred e sp] [] pos2] [] pos) (tLzS K' te) := by
  subst hK
  refine ⟨fun pz s τ H Q I h => ?_⟩
  refine Call_ (ld_blt I hg hm PyProof.Rows.Boot.«list» (PyProof.Rows.callWith_type1 ?_ hs (by rfl)))
  rw [hs]
  show wpAny _ _ (spliced ((false, eval (.Call (.Name "zip" p2) [.Starred e sp] [] pos2) X.env) :: backTo pos (starEach [] X.env))) _ _ s
  refine Calls.spliced_cons (Call_ (ld_blt I hg2 hm2 PyProof.Rows.boot_zip (call_star (thn (he.run pz s τ H _ I h) fun v s1 ⟨y, H1, I1, ry, t, l, ls, ey, hx, col, n, hcol, h2, hn, q⟩ => ?_) hs2)))
  subst ey
  obtain rfl : v = Value.ref t := ry
  refine StX.star_any I1 (.inl hx) fun us s2 I2 rv => ?_
  have eu := vals_refs rv
  subst eu
  exact wpAny_mono (list_zip hc I2 hcol h2 hn q) (fun v s3 h3 => Calls.spliced_nil h3) fun _ _ z => z
theorem pe_lz2 (hc : X.calm = true) (hK : X.K = K') (hg : Gl X "list") (hm : X.mg "list" = none) (hg2 : Gl X "zip") (hm2 : X.mg "zip" = none) (ha : PA X [e1, e2] ta)
    (hs : starEach [.Call (.Name "zip" p2) [e1, e2] [] pos2] X.env = (false, eval (.Call (.Name "zip" p2) [e1, e2] [] pos2) X.env) :: starEach [] X.env := by rfl)
    (hs2 : starEach [e1, e2] X.env = (false, eval e1 X.env) :: starEach [e2] X.env := by rfl) (hpl : (backTo pos2 (starEach [e2] X.env)).any (·.1) = false := by rfl) :
    PE X (.Call (.Name "list" p) [.Call (.Name "zip" p2) [e1, e2] [] pos2] [] pos) (tLz2 K' ta) := by
  subst hK
  refine ⟨fun pz s τ H Q I h => ?_⟩
  refine Call_ (ld_blt I hg hm PyProof.Rows.Boot.«list» (PyProof.Rows.callWith_type1 ?_ hs (by rfl)))
  rw [hs]
  show wpAny _ _ (spliced ((false, eval (.Call (.Name "zip" p2) [e1, e2] [] pos2) X.env) :: backTo pos (starEach [] X.env))) _ _ s
  refine Calls.spliced_cons (Call_ (ld_blt I hg2 hm2 PyProof.Rows.boot_zip (PyProof.Rows.callWith_type1 (thn (ha.run pos2 pz s τ H _ I h) fun us s1 ⟨vs, H1, I1, r1, a, b, ex, col, n, hcol, h2, hn, q⟩ => ?_) hs2 hpl)))
  subst ex
  cases r1 with
  | cons r rr =>
    cases rr with
    | cons r' rr =>
      cases rr
      cases r
      cases r'
      exact wpAny_mono (list_zip (l := a) (ls := [b]) hc I1 hcol h2 hn q) (fun v s3 h3 => Calls.spliced_nil h3) fun _ _ z => z
end
end FoU

set_option maxHeartbeats 4100000
namespace Fo
open PySem PySem.Spec PyProof.Rows L2
/-! ### lists of fractions -/
/-- all that is no list stands as it stood -/
def NLst (H H' : Hp) : Prop := ∀ b o, H b = some o → (∀ xs, o ≠ .lst xs) → H' b = some o
theorem NLst.refl (H : Hp) : NLst H H := fun _ _ h _ => h
theorem NLst.trans {H H1 H2 : Hp} (a : NLst H H1) (b : NLst H1 H2) : NLst H H2 := fun c o h n => b c o (a c o h n) n
theorem same_nl {H H' : Hp} (s : Same H H') : NLst H H' := fun b o h _ => s b o h
theorem nl_upd {H : Hp} {D : Addr} {xs : List V} {o : HO} (h : H D = some (.lst xs)) : NLst H (upd H D o) := fun b u e n => by
  rw [upd_ne (fun z => by rw [z, h] at e; cases e; exact n _ rfl)]
  exact e
theorem NLst.but {H H' : Hp} {D : Addr} {xs : List V} (h : H D = some (.lst xs)) (b : But D H H') : NLst H H' := fun c u e n => b c u e fun z => by
  rw [z, h] at e
  cases e
  exact n _ rfl
/-- told of a value in a heap, and not changed by what happens to lists -/
def Solid (R : Hp → V → Prop) : Prop := ∀ {H H' : Hp} {v : V}, NLst H H' → R H v → R H' v
/-- the values ws are the numbers l, in the sense of R -/
def Ls (R : Rat → Hp → V → Prop) (H : Hp) (ws : List V) (l : List Rat) : Prop := ws.length = l.length ∧ ∀ (i : Nat) (v : V), ws[i]? = some v → R (FoQ.co l i) H v
section
variable {R : Rat → Hp → V → Prop} {H H' : Hp} {ws : List V} {l : List Rat}
theorem Ls.nl (hR : ∀ r, Solid (R r)) (h : Ls R H ws l) (s : NLst H H') : Ls R H' ws l := ⟨h.1, fun i v e => hR _ s (h.2 i v e)⟩
theorem Ls.nil : Ls R H [] [] := ⟨rfl, fun i v e => by simp at e⟩
theorem Ls.take (h : Ls R H ws l) (n : Nat) : Ls R H (ws.take n) (l.take n) := by
  refine ⟨by rw [List.length_take, List.length_take, h.1], fun i v e => ?_⟩
  rw [List.getElem?_take] at e
  split at e
  · rename_i hi
    rw [FoQ.co_take, if_pos hi]
    exact h.2 i v e
  · cases e
theorem Ls.snoc {v : V} {r : Rat} (h : Ls R H ws l) (q : R r H v) : Ls R H (ws ++ [v]) (l ++ [r]) := by
  refine ⟨by simp [h.1], fun i u e => ?_⟩
  rw [List.getElem?_append] at e
  have c1 : FoQ.co (l ++ [r]) i = if i < l.length then FoQ.co l i else FoQ.co [r] (i - l.length) := by
    unfold FoQ.co List.getD
    rw [List.getElem?_append]
    split <;> rfl
  rw [c1]
  split at e
  · rename_i hi
    rw [if_pos (by rw [← h.1]; exact hi)]
    exact h.2 i u e
  · rename_i hi
    rw [if_neg (by rw [← h.1]; exact hi), ← h.1]
    cases q1 : i - ws.length with
    | zero =>
      rw [q1] at e
      cases e
      exact q
    | succ n =>
      rw [q1] at e
      simp at e
theorem Ls.at_ (h : Ls R H ws l) {i : Nat} (hi : i < l.length) : ∃ v, ws[i]? = some v ∧ R (FoQ.co l i) H v := by
  have e : i < ws.length := by rw [h.1]; exact hi
  exact ⟨ws[i], List.getElem?_eq_getElem e, h.2 i _ (List.getElem?_eq_getElem e)⟩
theorem Ls.imp {R' : Rat → Hp → V → Prop} (h : Ls R H ws l) (f : ∀ r v, R r H v → R' r H v) : Ls R' H ws l := ⟨h.1, fun i v e => f _ _ (h.2 i v e)⟩
end
/-- a Ratio -/
def Rr (K : PySem.W.Frag) (r : Rat) (H : Hp) (v : V) : Prop := ∃ a, v = .ref a ∧ RtAt K H a r
/-- a number -/
def Rn (K : PySem.W.Frag) (r : Rat) (H : Hp) (v : V) : Prop := NmV K H v r
/-- a fraction's tuple -/
def Rq (r : Rat) (H : Hp) (v : V) : Prop := ∃ a, v = .ref a ∧ FrQ H a r
theorem RtAt.nl {K : PySem.W.Frag} {H H' : Hp} {a : Addr} {r : Rat} (h : RtAt K H a r) (s : NLst H H') : RtAt K H' a r :=
  let ⟨dx, e⟩ := h
  ⟨dx, s _ _ e (fun xs z => by cases z)⟩
theorem FrQ.nl {H H' : Hp} {a : Addr} {r : Rat} (h : FrQ H a r) (s : NLst H H') : FrQ H' a r := s _ _ h (fun xs z => by cases z)
theorem rr_solid {K : PySem.W.Frag} (r : Rat) : Solid (Rr K r) := fun s ⟨a, e, h⟩ => ⟨a, e, h.nl s⟩
theorem rq_solid (r : Rat) : Solid (Rq r) := fun s ⟨a, e, h⟩ => ⟨a, e, h.nl s⟩
theorem rn_solid {K : PySem.W.Frag} (r : Rat) : Solid (Rn K r) := fun s h => by
  rcases h with ⟨a, e, h⟩ | h
  · exact .inl ⟨a, e, h.nl s⟩
  · exact .inr h
/-- a list that is being made: i items so far, each as R says -/
def LInv (R : Nat → Hp → V → Prop) (H1 : Hp) (D : Addr) (i : Nat) (H : Hp) : Prop := Same H1 H ∧ ∃ ws, H D = some (.lst ws) ∧ ws.length = i ∧ ∀ (j : Nat) (v : V), ws[j]? = some v → R j H v
section
variable {R : Nat → Hp → V → Prop} {H1 H H4 : Hp} {D : Addr} {i : Nat}
theorem LInv.start (nD : H1 D = none) : LInv R H1 D 0 (upd H1 D (.lst [])) := ⟨Same.upd nD, [], upd_same, rfl, fun j v e => by simp at e⟩
theorem same_set {H1 H : Hp} {D : Addr} {o : HO} (s : Same H1 H) (nD : H1 D = none) : Same H1 (upd H D o) := fun b u e => by
  rw [upd_ne (ne_of_none e nD)]
  exact s b u e
theorem LInv.next {v : V} (h : LInv R H1 D i H) (hs : ∀ j, Solid (R j)) (nD : H1 D = none) (s : Same H H4) (hv : R i H4 v) (hi : i < 100000) :
    ∃ acc, H4 D = some (.lst acc) ∧ acc.length < sizeLine ∧ LInv R H1 D (i + 1) (upd H4 D (.lst (acc ++ [v]))) := by
  obtain ⟨s1, ws, e, el, hw⟩ := h
  have e4 := s _ _ e
  have nl : NLst H4 (upd H4 D (.lst (ws ++ [v]))) := nl_upd e4
  refine ⟨ws, e4, by rw [el, sizeLine_eq]; omega, same_set (s1.trans s) nD, ws ++ [v], upd_same, by simp [el], fun j u q => ?_⟩
  rw [List.getElem?_append] at q
  split at q
  · exact hs j nl (hs j (same_nl s) (hw j u q))
  · rename_i hj
    have ej : j = i := by
      cases q1 : j - ws.length with
      | zero => omega
      | succ n =>
        rw [q1] at q
        simp at q
    subst ej
    rw [← el, Nat.sub_self] at q
    cases q
    exact hs _ nl hv
end
section
variable {P : Program} {w : World} {K : PySem.W.Frag} {mg : Str → Option Value} {base : Heap}
end

theorem sqT_sm {K : PySem.W.Frag} {H H' : Hp} {a : Addr} {xs : List V} (h : SqT K H a xs) (e : Same H H') : SqT K H' a xs := by
  rcases h with (g | ⟨o, g⟩) | g
  · exact .inl (.inl (e _ _ g))
  · exact .inl (.inr ⟨o, e _ _ g⟩)
  · exact .inr g
theorem sqL_sm {K : PySem.W.Frag} {H H' : Hp} {a : Addr} {xs : List V} (h : SqL K H a xs) (e : Same H H') : SqL K H' a xs := by
  rcases h with (g | ⟨o, g⟩) | g
  · exact .inl (.inl (e _ _ g))
  · exact .inl (.inr ⟨o, e _ _ g⟩)
  · exact .inr g
def AllSz (n : Nat) (l : List Rat) : Prop := ∀ i, FoQ.SzR n (FoQ.co l i)
/-! ### products of polynomials -/
def pneg' : Unit := ()
def intV (xs : List Int) : List V := xs.map V.int
theorem intV_at {xs : List Int} {i : Nat} (h : i < xs.length) : (intV xs)[i]? = some (.int (xs.getD i 0)) := by
  unfold intV
  rw [List.getElem?_map, List.getElem?_eq_getElem h, List.getD_eq_getElem?_getD, List.getElem?_eq_getElem h]
  rfl
theorem intV_some {xs : List Int} {i : Nat} {v : V} (h : (intV xs)[i]? = some v) : i < xs.length ∧ v = .int (xs.getD i 0) := by
  have hi : i < xs.length := by
    have := (List.getElem?_eq_some_iff.mp h).1
    simpa [intV] using this
  rw [intV_at hi] at h
  exact ⟨hi, (Option.some.inj h).symm⟩
/-- the integers that are the Ratios, times M -/
def whole (M : Nat) (l : List Rat) : List Int := (List.range l.length).map fun i => (FoQ.co l i).num * ((M : Int).fdiv ((FoQ.co l i).den : Int))
def spShared (K : PySem.W.Frag) : Sp := fun vs H Q _ => ∃ (t : Addr) (ws : List V) (l : List Rat), vs = [.ref t] ∧ (SqL K H t ws ∨ SqT K H t ws) ∧ Ls (Rr K) H ws l ∧ AllSz 40 l ∧ l.length ≤ 20 ∧ Q (.int (FoQ.lcmD l)) H
def spMult (K : PySem.W.Frag) : Sp := fun vs H Q _ => ∃ (t : Addr) (ws : List V) (l : List Rat) (M : Nat), vs = [.ref t, .int M] ∧ (SqL K H t ws ∨ SqT K H t ws) ∧ Ls (Rr K) H ws l ∧ AllSz 40 l ∧ l.length ≤ 20 ∧ 0 < M ∧ FoM.Sz 801 (M : Int) ∧
  ∀ p H', H p = none → Same H H' → H' p = some (.lst (intV (whole M l))) → Q (.ref p) H'
theorem sqT_inj {K : PySem.W.Frag} {H : Hp} {a : Addr} {xs : List V} (h : H a = some (.tup xs)) : SqT K H a xs := SqT.of h
section
variable {P : Program} {w : World} {K : PySem.W.Frag} {mg : Str → Option Value} {base : Heap}
theorem ok_shared (T : Tx K mg) : FnOk P w K mg base CX0 3 (He.ga K "shared_bottom") T.fd_shared_bottom ["ratios"] (spShared K) := by
  refine T.F_shared_bottom.ok sc_shared_bottom (fun vs H Q E h => ?_) (fun cdv A outer s H vs Q E hr h => ?_)
  · obtain ⟨t, ws, l, rfl, _⟩ := h
    rfl
  · obtain ⟨t, ws, l, rfl, hS, hL, hz, hl, q⟩ := h
    refine ⟨_, (pss_cons (ps_set (i := 1) sc_shared_bottom.nd rfl (.inl rfl) pe_int)
      (pss_cons (ps_for PassesOwn.never rfl (FoY.pi_or (pi_list (pv 0)) (pi_tup (pv 0))) (pg_name (i := 2) sc_shared_bottom.nd rfl (.inl rfl)) (pss_one (ps_set (i := 1) sc_shared_bottom.nd rfl (.inl rfl) (pe_callBfun FoL.cr_lcm (by rfl) T.i_lcm (pa_cons (pv 1) (pa_cons (pe_prop (pv 2) T.cl_R T.p_bottom (ok_bottomQ T) (hr.mono (by decide)) T.b_Ratio_bottom .nil pass0 (by rfl)) pa_nil))))))
      (pss_one (ps_ret (pv 1))))), ?_⟩
    rcases hS with hS | hS
    · refine .inl ⟨_, rfl, t, rfl, ⟨_, hS⟩, ?_⟩
      refine for_list (xs := ws) (fun i σ H' => H' = H ∧ i ≤ l.length ∧ ∃ o, σ = [some (.ref t), some (.int (FoQ.lcmD (l.take i))), o]) ⟨rfl, Nat.zero_le _, _, rfl⟩ (fun i σ H' _ h => h.1 ▸ hS) ?_ ?_
      · rintro i x σ H' ex ⟨rfl, hi, o, rfl⟩
        have hi' : i < l.length := by
          have := (List.getElem?_eq_some_iff.mp ex).1
          rw [hL.1] at this
          exact this
        obtain ⟨b, rfl, hb⟩ := hL.2 i x ex
        obtain ⟨dx, hb'⟩ := id hb
        have zM := FoQ.lcmD_sz hz i hi
        refine ⟨_, rfl, _, rfl, b, dx, _, rfl, hb', b, _, rfl, hb, _, _, rfl, (zM.mono (show 40 * i + 1 ≤ 6000 by omega)), ((hz i).2.mono (show 40 ≤ 6000 by decide)), rfl, hi', some (.ref b), ?_⟩
        show [some (V.ref t), some (V.int ((Nat.lcm ((FoQ.lcmD (l.take i) : Nat) : Int).natAbs (((FoQ.co l i).den : Nat) : Int).natAbs : Nat) : Int)), some (V.ref b)] = _
        rw [Int.natAbs_natCast, Int.natAbs_natCast, FoQ.lcmD_take hi']
      · rintro σ H' ⟨rfl, hi, o, rfl⟩
        refine ⟨_, rfl, ?_⟩
        rw [hL.1, List.take_length]
        exact q
    · refine .inr ⟨_, rfl, t, rfl, ⟨_, hS⟩, ?_⟩
      refine for_tup (xs := ws) (fun i σ H' => H' = H ∧ i ≤ l.length ∧ ∃ o, σ = [some (.ref t), some (.int (FoQ.lcmD (l.take i))), o]) ⟨rfl, Nat.zero_le _, _, rfl⟩ (fun i σ H' _ h => h.1 ▸ hS) ?_ ?_
      · rintro i x σ H' ex ⟨rfl, hi, o, rfl⟩
        have hi' : i < l.length := by
          have := (List.getElem?_eq_some_iff.mp ex).1
          rw [hL.1] at this
          exact this
        obtain ⟨b, rfl, hb⟩ := hL.2 i x ex
        obtain ⟨dx, hb'⟩ := id hb
        have zM := FoQ.lcmD_sz hz i hi
        refine ⟨_, rfl, _, rfl, b, dx, _, rfl, hb', b, _, rfl, hb, _, _, rfl, (zM.mono (show 40 * i + 1 ≤ 6000 by omega)), ((hz i).2.mono (show 40 ≤ 6000 by decide)), rfl, hi', some (.ref b), ?_⟩
        show [some (V.ref t), some (V.int ((Nat.lcm ((FoQ.lcmD (l.take i) : Nat) : Int).natAbs (((FoQ.co l i).den : Nat) : Int).natAbs : Nat) : Int)), some (V.ref b)] = _
        rw [Int.natAbs_natCast, Int.natAbs_natCast, FoQ.lcmD_take hi']
      · rintro σ H' ⟨rfl, hi, o, rfl⟩
        refine ⟨_, rfl, ?_⟩
        rw [hL.1, List.take_length]
        exact q
theorem ok_mult (T : Tx K mg) : FnOk P w K mg base CX0 3 (He.ga K "multiplied") T.fd_multiplied ["ratios", "bottom"] (spMult K) := by
  refine T.F_multiplied.ok sc_multiplied (fun vs H Q E h => ?_) (fun cdv A outer s H vs Q E hr h => ?_)
  · obtain ⟨t, ws, l, M, rfl, _⟩ := h
    rfl
  · obtain ⟨t, ws, l, M, rfl, hS, hL, hz, hl, hM, zM, q⟩ := h
    refine ⟨_, (pss_one (ps_ret (pe_lc (own := [("ratio", 2)]) (g := gName 2) rfl sc_multiplied.nd (FoY.pi_or (pi_list (pv 0)) (pi_tup (pv 0))) (blkOk_by (own := [("ratio", 2)]) (N := ["ratios", "bottom", "ratio"]) (sc := defScope s_multiplied) (by decide +kernel)) (fun _ _ _ _ _ => (pg_name (i := 2) sc_multiplied.nd rfl (.inl rfl))) (fun _ _ _ _ _ => pts_nil) (fun _ _ _ _ _ => (pe_op op_mulW (pe_prop (pv 2) T.cl_R T.p_top (ok_topQ T) (hr.mono (by decide)) T.b_Ratio_top .nil pass0 (by rfl)) (pe_op FoA.op_fdivZ (pv 1) (pe_prop (pv 2) T.cl_R T.p_bottom (ok_bottomQ T) (hr.mono (by decide)) T.b_Ratio_bottom .nil pass0 (by rfl)))))))), ?_⟩
    rcases hS with hS | hS
    · refine .inl ⟨_, rfl, t, rfl, ⟨_, hS⟩, fun D nD => ?_⟩
      refine lc_list (LInv (fun j H v => v = .int ((FoQ.co l j).num * ((M : Int).fdiv ((FoQ.co l j).den : Int)))) H D) (LInv.start nD) (fun i H2 hi h => sqL_sm hS h.1) (fun i x H2 ex h => ?_) (fun H2 h => ?_)
      · obtain ⟨b, rfl, hb⟩ := hL.2 i x ex
        have hb2 := hb.same h.1
        obtain ⟨dx, hb'⟩ := id hb2
        refine ⟨rfl, _, rfl, b, dx, _, rfl, hb', b, _, rfl, hb2, _, rfl, _, rfl, b, dx, _, rfl, hb', b, _, rfl, hb2, _, _, rfl, rfl, FoA.divZ_of (FoQ.den_ne _) (hz i).2 (by decide) (by decide), _, _, rfl, rfl, ?_, ?_⟩
        · refine FoM.Sz.mulok (n := 40) (m := 801) (hz i).1 (FoM.Sz.le zM ?_)
          rw [FoQ.fdiv_whole, Int.natAbs_natCast, Int.natAbs_natCast]
          exact Nat.div_le_self _ _
        · exact h.next (fun j => @fun _ _ _ _ q => q) nD (Same.refl _) rfl (by have := (List.getElem?_eq_some_iff.mp ex).1; rw [hL.1] at this; omega)
      · obtain ⟨s1, us, e, el, hu⟩ := h
        refine q D H2 nD s1 ?_
        rw [e]
        congr 2
        refine List.ext_getElem? fun j => ?_
        have wl : (whole M l).length = l.length := by simp [whole]
        by_cases c : j < l.length
        · obtain ⟨v, ev⟩ : ∃ v, us[j]? = some v := ⟨us[j]'(by rw [el, hL.1]; exact c), List.getElem?_eq_getElem _⟩
          rw [ev, hu j v ev, intV_at (by rw [wl]; exact c)]
          simp [whole, c]
        · rw [List.getElem?_eq_none (by rw [el, hL.1]; omega), List.getElem?_eq_none (by simp [intV, wl]; omega)]
    · refine .inr ⟨_, rfl, t, rfl, ⟨_, hS⟩, fun D nD => ?_⟩
      refine lc_tup (LInv (fun j H v => v = .int ((FoQ.co l j).num * ((M : Int).fdiv ((FoQ.co l j).den : Int)))) H D) (LInv.start nD) (fun i H2 hi h => sqT_sm hS h.1) (fun i x H2 ex h => ?_) (fun H2 h => ?_)
      · obtain ⟨b, rfl, hb⟩ := hL.2 i x ex
        have hb2 := hb.same h.1
        obtain ⟨dx, hb'⟩ := id hb2
        refine ⟨rfl, _, rfl, b, dx, _, rfl, hb', b, _, rfl, hb2, _, rfl, _, rfl, b, dx, _, rfl, hb', b, _, rfl, hb2, _, _, rfl, rfl, FoA.divZ_of (FoQ.den_ne _) (hz i).2 (by decide) (by decide), _, _, rfl, rfl, ?_, ?_⟩
        · refine FoM.Sz.mulok (n := 40) (m := 801) (hz i).1 (FoM.Sz.le zM ?_)
          rw [FoQ.fdiv_whole, Int.natAbs_natCast, Int.natAbs_natCast]
          exact Nat.div_le_self _ _
        · exact h.next (fun j => @fun _ _ _ _ q => q) nD (Same.refl _) rfl (by have := (List.getElem?_eq_some_iff.mp ex).1; rw [hL.1] at this; omega)
      · obtain ⟨s1, us, e, el, hu⟩ := h
        refine q D H2 nD s1 ?_
        rw [e]
        congr 2
        refine List.ext_getElem? fun j => ?_
        have wl : (whole M l).length = l.length := by simp [whole]
        by_cases c : j < l.length
        · obtain ⟨v, ev⟩ : ∃ v, us[j]? = some v := ⟨us[j]'(by rw [el, hL.1]; exact c), List.getElem?_eq_getElem _⟩
          rw [ev, hu j v ev, intV_at (by rw [wl]; exact c)]
          simp [whole, c]
        · rw [List.getElem?_eq_none (by rw [el, hL.1]; omega), List.getElem?_eq_none (by simp [intV, wl]; omega)]
end

end Fo

set_option maxHeartbeats 4100000
namespace Fo
open PySem PySem.Spec PyProof.Rows L2
theorem intV_len (xs : List Int) : (intV xs).length = xs.length := by simp [intV]
theorem sz_0 {n : Nat} : FoM.Sz n 0 := by
  unfold FoM.Sz
  exact Nat.two_pow_pos n
theorem lcmD_all {l : List Rat} (h : AllSz 40 l) (hl : l.length ≤ 20) : FoM.Sz 801 ((FoQ.lcmD l : Nat) : Int) := by
  have := FoQ.lcmD_sz h l.length (Nat.le_refl _)
  rw [List.take_length] at this
  exact this.mono (by omega)
theorem whole_len (M : Nat) (l : List Rat) : (whole M l).length = l.length := by simp [whole]
theorem whole_getD (M : Nat) (l : List Rat) (i : Nat) : (whole M l).getD i 0 = if i < l.length then (FoQ.co l i).num * ((M : Int).fdiv ((FoQ.co l i).den : Int)) else 0 := by
  rw [List.getD_eq_getElem?_getD]
  by_cases h : i < l.length
  · rw [if_pos h]
    simp [whole, h]
  · rw [if_neg h]
    simp [whole, h]
theorem whole_szs {M : Nat} {l : List Rat} (h : AllSz 40 l) (g : FoM.Sz 801 (M : Int)) (i : Nat) : FoM.Sz 850 ((whole M l).getD i 0) := by
  rw [whole_getD]
  split
  · exact (FoQ.whole_sz (h i) g).mono (by decide)
  · exact sz_0
theorem ci_whole {M : Nat} {l : List Rat} (h : ∀ i, i < l.length → (FoQ.co l i).den ∣ M) (i : Nat) : FoQ.ci (whole M l) i = FoQ.co l i * ((M : Int) : Rat) := by
  unfold FoQ.ci
  rw [whole_getD]
  split
  · rename_i hi
    exact FoQ.whole_eq (h i hi)
  · rename_i hi
    rw [FoQ.co_ge (by omega)]
    show ((0 : Int) : Rat) = 0 * _
    rw [show ((0 : Int) : Rat) = 0 from rfl]
    grind
/-! ### inner products -/
def dotI (xs ys : List Int) : Nat → Int
  | 0 => 0
  | n + 1 => dotI xs ys n + xs.getD n 0 * ys.getD n 0
def dotQ (x y : List Rat) : Nat → Rat
  | 0 => 0
  | n + 1 => dotQ x y n + FoQ.co x n * FoQ.co y n
theorem dot_whole {x y : List Rat} {M N : Nat} (hx : ∀ i, i < x.length → (FoQ.co x i).den ∣ M) (hy : ∀ i, i < y.length → (FoQ.co y i).den ∣ N) : ∀ n, ((dotI (whole M x) (whole N y) n : Int) : Rat) = dotQ x y n * ((M : Int) : Rat) * ((N : Int) : Rat)
  | 0 => by
    show ((0 : Int) : Rat) = 0 * _ * _
    rw [show ((0 : Int) : Rat) = 0 from rfl]
    grind
  | n + 1 => by
    have h1 := dot_whole hx hy n
    have h2 := ci_whole hx n
    have h3 := ci_whole hy n
    unfold FoQ.ci at h2 h3
    show ((dotI (whole M x) (whole N y) n + (whole M x).getD n 0 * (whole N y).getD n 0 : Int) : Rat) = (dotQ x y n + FoQ.co x n * FoQ.co y n) * _ * _
    rw [Rat.intCast_add, Rat.intCast_mul, h1, h2, h3]
    grind
theorem dotI_sz {xs ys : List Int} (hx : ∀ i, FoM.Sz 850 (xs.getD i 0)) (hy : ∀ i, FoM.Sz 850 (ys.getD i 0)) : ∀ n, FoM.Sz (1700 + n + 1) (dotI xs ys n)
  | 0 => sz_0
  | n + 1 => by
    have h1 := dotI_sz hx hy n
    have h2 : FoM.Sz 1700 (xs.getD n 0 * ys.getD n 0) := (hx n).mul (hy n)
    exact h1.add (h2.mono (by omega))
def spWInner (K : PySem.W.Frag) : Sp := fun vs H Q _ => ∃ (a b : Addr) (xs ys : List Int), vs = [.ref a, .ref b] ∧ SqL K H a (intV xs) ∧ SqL K H b (intV ys) ∧ xs.length = ys.length ∧ xs.length ≤ 20 ∧ (∀ i, FoM.Sz 850 (xs.getD i 0)) ∧ (∀ i, FoM.Sz 850 (ys.getD i 0)) ∧
  ∀ H', Same H H' → Q (.int (dotI xs ys xs.length)) H'
section
variable {P : Program} {w : World} {K : PySem.W.Frag} {mg : Str → Option Value} {base : Heap}
theorem ok_winner (T : Tx K mg) : FnOk P w K mg base CX0 1 (He.ga K "whole_inner") T.fd_whole_inner ["one", "other"] (spWInner K) := by
  refine T.F_whole_inner.ok sc_whole_inner (fun vs H Q E h => ?_) (fun cdv A outer s H vs Q E hr h => ?_)
  · obtain ⟨a, b, xs, ys, rfl, _⟩ := h
    rfl
  · obtain ⟨a, b, xs, ys, rfl, hA, hB, hl, hn, zx, zy, q⟩ := h
    refine ⟨_, (pss_cons (ps_set (i := 2) sc_whole_inner.nd rfl (.inl rfl) pe_int)
      (pss_cons (ps_for PassesOwn.never rfl (pi_zip (by rfl) T.z_zip (pa_cons (pv 0) (pa_cons (pv 1) pa_nil))) (pg_tup (by rfl) (pgs_cons (pg_name (i := 3) sc_whole_inner.nd rfl (.inl rfl)) (pgs_cons (pg_name (i := 4) sc_whole_inner.nd rfl (.inl rfl)) pgs_nil))) (pss_one (ps_set (i := 2) sc_whole_inner.nd rfl (.inl rfl) (pe_op op_add (pv 2) (pe_op op_mulW (pv 3) (pv 4))))))
      (pss_one (ps_ret (pv 2))))), ?_⟩
    refine ⟨_, rfl, _, rfl, a, b, _, _, rfl, hA, hB, ?_⟩
    refine RZ.for_zipL (by rw [intV_len, intV_len, hl]) (fun i σ H' => Same H H' ∧ ∃ o1 o2, σ = [some (.ref a), some (.ref b), some (.int (dotI xs ys i)), o1, o2]) ⟨Same.refl H, _, _, rfl⟩ (fun i σ H' h => ⟨sqL_sm hA h.1, sqL_sm hB h.1⟩) ?_ ?_
    · rintro i x y t σ H' ex ey ⟨s1, o1, o2, rfl⟩ nt
      obtain ⟨hi, rfl⟩ := intV_some ex
      obtain ⟨hi2, rfl⟩ := intV_some ey
      refine ⟨t, _, rfl, SqT.of upd_same, rfl, _, _, rfl, _, _, rfl, rfl, _, rfl, _, rfl, _, rfl, _, _, rfl, rfl, ?_, _, _, rfl, rfl, s1.trans (Same.upd nt), _, _, rfl⟩
      exact FoM.Sz.mulok (zx i) (zy i) (by decide)
    · rintro σ H' ⟨s1, o1, o2, rfl⟩
      refine ⟨_, rfl, ?_⟩
      rw [intV_len]
      exact q _ s1
end

end Fo

set_option maxHeartbeats 4100000
namespace Fo
open PySem PySem.Spec PyProof.Rows L2
/-! ### beams of whole numbers over one bottom -/
def WbAt (H : Hp) (p : Addr) (l : List Rat) : Prop := ∃ d, H p = some (.tup [.ref d, .int (FoQ.lcmD l)]) ∧ H d = some (.lst (intV (whole (FoQ.lcmD l) l)))
theorem WbAt.same {H H' : Hp} {p : Addr} {l : List Rat} (h : WbAt H p l) (s : Same H H') : WbAt H' p l := by
  obtain ⟨d, h1, h2⟩ := h
  exact ⟨d, s _ _ h1, s _ _ h2⟩
def spWBeam (K : PySem.W.Frag) : Sp := fun vs H Q _ => ∃ (t : Addr) (ws : List V) (l : List Rat), vs = [.ref t] ∧ (SqL K H t ws ∨ SqT K H t ws) ∧ Ls (Rr K) H ws l ∧ AllSz 40 l ∧ l.length ≤ 20 ∧ ∀ p d H', H p = none → H d = none → Same H H' → H' p = some (.tup [.ref d, .int (FoQ.lcmD l)]) → H' d = some (.lst (intV (whole (FoQ.lcmD l) l))) → Q (.ref p) H'
def spInOver (K : PySem.W.Frag) : Sp := fun vs H Q _ => ∃ (a b : Addr) (l m : List Rat), vs = [.ref a, .ref b] ∧ WbAt H a l ∧ WbAt H b m ∧ AllSz 40 l ∧ AllSz 40 m ∧ l.length = m.length ∧ l.length ≤ 20 ∧ ∀ r H', H r = none → Same H H' → RtAt K H' r (dotQ l m l.length) → Q (.ref r) H'
def spInner (K : PySem.W.Frag) : Sp := fun vs H Q _ => ∃ (a b : Addr) (ws us : List V) (l m : List Rat), vs = [.ref a, .ref b] ∧ (SqL K H a ws ∨ SqT K H a ws) ∧ (SqL K H b us ∨ SqT K H b us) ∧ Ls (Rr K) H ws l ∧ Ls (Rr K) H us m ∧ AllSz 40 l ∧ AllSz 40 m ∧ l.length = m.length ∧ l.length ≤ 20 ∧
  ∀ r H', H r = none → Same H H' → RtAt K H' r (dotQ l m l.length) → Q (.ref r) H'
theorem sq_sm {K : PySem.W.Frag} {H H' : Hp} {a : Addr} {xs : List V} (h : SqL K H a xs ∨ SqT K H a xs) (e : Same H H') : SqL K H' a xs ∨ SqT K H' a xs := h.elim (fun h => .inl (sqL_sm h e)) (fun h => .inr (sqT_sm h e))
section
variable {P : Program} {w : World} {K : PySem.W.Frag} {mg : Str → Option Value} {base : Heap}
theorem ok_wbeam (T : Tx K mg) : FnOk P w K mg base CX0 4 (He.ga K "whole_beam") T.fd_whole_beam ["ratios"] (spWBeam K) := by
  refine T.F_whole_beam.ok sc_whole_beam (fun vs H Q E h => ?_) (fun cdv A outer s H vs Q E hr h => ?_)
  · obtain ⟨t, ws, l, rfl, _⟩ := h
    rfl
  · obtain ⟨t, ws, l, rfl, hS, hL, hz, hl, q⟩ := h
    refine ⟨_, (pss_cons (ps_set (i := 1) sc_whole_beam.nd rfl (.inl rfl) (pe_call (ok_shared T) (hr.mono (by decide)) (by rfl) T.g_shared_bottom T.F_shared_bottom.kp T.b_shared_bottom .nil pass0 (pa_cons (pv 0) pa_nil)))
      (pss_one (ps_ret (pe_tup (pa_cons (pe_call (ok_mult T) (hr.mono (by decide)) (by rfl) T.g_multiplied T.F_multiplied.kp T.b_multiplied .nil pass0 (pa_cons (pv 0) (pa_cons (pv 1) pa_nil))) (pa_cons (pv 1) pa_nil)))))), ?_⟩
    refine ⟨_, rfl, t, ws, l, rfl, hS, hL, hz, hl, ?_⟩
    refine ⟨_, rfl, _, rfl, t, ws, l, FoQ.lcmD l, rfl, hS, hL, hz, hl, FoQ.lcmD_pos l, lcmD_all hz hl, fun d H1 nd s1 h1 => ?_⟩
    refine ⟨_, rfl, (by show 2 ≤ sizeLine; rw [sizeLine_eq]; decide), fun p np => q p d _ (s1.free np) nd (s1.trans (Same.upd np)) upd_same ((Same.upd np) _ _ h1)⟩
theorem ok_inover (T : Tx K mg) : FnOk P w K mg base CX0 4 (He.ga K "inner_over") T.fd_inner_over ["one", "other"] (spInOver K) := by
  refine T.F_inner_over.ok sc_inner_over (fun vs H Q E h => ?_) (fun cdv A outer s H vs Q E hr h => ?_)
  · obtain ⟨a, b, l, m, rfl, _⟩ := h
    rfl
  · obtain ⟨a, b, l, m, rfl, ⟨da, a1, a2⟩, ⟨db, b1, b2⟩, zl, zm, hl, hn, q⟩ := h
    refine ⟨_, (pss_one (ps_ret (pe_make T.mk_R (ok_initQ T) (hr.mono (by decide)) (by rfl) T.c_Ratio (bind_init2 T) .nil pass0 (pa_cons (pe_call (ok_winner T) (hr.mono (by decide)) (by rfl) T.g_whole_inner T.F_whole_inner.kp T.b_whole_inner .nil pass0 (pa_cons (pe_ix ix_tup (pv 0) pe_int (fun _ _ => rfl)) (pa_cons (pe_ix ix_tup (pv 1) pe_int (fun _ _ => rfl)) pa_nil))) (pa_cons (pe_op op_mulW (pe_ix ix_tup (pv 0) pe_int (fun _ _ => rfl)) (pe_ix ix_tup (pv 1) pe_int (fun _ _ => rfl))) pa_nil))))), ?_⟩
    have zM := lcmD_all zl hn
    have zN := lcmD_all zm (by rw [← hl]; exact hn)
    have pM := FoQ.lcmD_pos l
    have pN := FoQ.lcmD_pos m
    refine ⟨_, rfl, a, _, 0, _, rfl, rfl, SqT.of a1, rfl, _, rfl, b, _, 0, _, rfl, rfl, SqT.of b1, rfl, da, db, _, _, rfl, SqL.of a2, SqL.of b2, by rw [whole_len, whole_len, hl], by rw [whole_len]; exact hn, whole_szs zl zM, whole_szs zm zN, fun H1 s1 => ?_⟩
    have c1 := s1 _ _ a1
    have c2 := s1 _ _ b1
    refine ⟨_, rfl, a, _, 1, _, rfl, rfl, SqT.of c1, rfl, _, rfl, b, _, 1, _, rfl, rfl, SqT.of c2, rfl, _, _, rfl, rfl, FoM.Sz.mulok zM zN, ?_⟩
    rw [whole_len]
    refine rq_make (Int.mul_ne_zero (by omega) (by omega)) ((zM.mul zN).mono (by decide)) (FoQ.divInt_whole (s := dotQ l m l.length) pM pN ?_) fun r H2 nr s2 hr2 => ⟨rfl, q r H2 (s1.free nr) (s1.trans s2) hr2⟩
    rw [dot_whole (fun i hi => FoQ.lcmD_dvd hi) (fun i hi => FoQ.lcmD_dvd hi)]
    grind
end

end Fo

set_option maxHeartbeats 4100000
namespace Fo
open PySem PySem.Spec PyProof.Rows L2
/-! ### inner products of rows; what has numbers -/
/-- a number, or no number -/
def NumB (K : PySem.W.Frag) (H : Hp) (v : V) (b : Bool) : Prop := (b = true ∧ ∃ r, NmV K H v r) ∨ (b = false ∧ NoNum H v)
theorem NoNum.same {H H' : Hp} {v : V} (h : NoNum H v) (e : Same H H') : NoNum H' v := by
  cases h with
  | non => exact .non
  | bl b => exact .bl b
  | str x => exact .str x
  | lst a => exact .lst (e _ _ a)
  | tup a => exact .tup (e _ _ a)
  | dK a => exact .dK (e _ _ a)
theorem NumB.same {K : PySem.W.Frag} {H H' : Hp} {v : V} {b : Bool} (h : NumB K H v b) (e : Same H H') : NumB K H' v b := by
  rcases h with ⟨h, r, g⟩ | ⟨h, g⟩
  · exact .inl ⟨h, r, g.same e⟩
  · exact .inr ⟨h, g.same e⟩
/-- the values' marks -/
def Nums (K : PySem.W.Frag) (H : Hp) (ws : List V) (bs : List Bool) : Prop := bs.length = ws.length ∧ ∀ (i : Nat) (v : V) (b : Bool), ws[i]? = some v → bs[i]? = some b → NumB K H v b
theorem Nums.same {K : PySem.W.Frag} {H H' : Hp} {ws : List V} {bs : List Bool} (h : Nums K H ws bs) (e : Same H H') : Nums K H' ws bs := ⟨h.1, fun i v b e1 e2 => (h.2 i v b e1 e2).same e⟩
/-- neither a list nor a tuple -/
inductive NoSeq (H : Hp) : V → Prop where
  | non : NoSeq H .non
  | bl (b : Bool) : NoSeq H (.bl b)
  | int (i : Int) : NoSeq H (.int i)
  | str (x : Str) : NoSeq H (.str x)
theorem NoSeq.ty {K : PySem.W.Frag} {H : Hp} {y : V} (h : NoSeq H y) : ∃ t, (∀ H', TyX K H' y t) ∧ PySem.W.kitAny K t [.type "list", .type "tuple"] = some false := by
  cases h with
  | non => exact ⟨_, fun _ => .base .non, kitAny_cons (kit_ty (by decide +kernel)) (fun _ => kitAny_cons (kit_ty (by decide +kernel)) (fun _ => rfl) (fun z => z)) (fun z => z)⟩
  | bl b => exact ⟨_, fun _ => .base (.bl b), kitAny_cons (kit_ty (by decide +kernel)) (fun _ => kitAny_cons (kit_ty (by decide +kernel)) (fun _ => rfl) (fun z => z)) (fun z => z)⟩
  | int i => exact ⟨_, fun _ => .base (.int i), kitAny_cons (kit_ty (by decide +kernel)) (fun _ => kitAny_cons (kit_ty (by decide +kernel)) (fun _ => rfl) (fun z => z)) (fun z => z)⟩
  | str x => exact ⟨_, fun _ => .base (.str x), kitAny_cons (kit_ty (by decide +kernel)) (fun _ => kitAny_cons (kit_ty (by decide +kernel)) (fun _ => rfl) (fun z => z)) (fun z => z)⟩
/-- a list or tuple that was made here -/
def SqHere (H : Hp) (a : Addr) (ws : List V) : Prop := H a = some (.lst ws) ∨ H a = some (.tup ws)
theorem SqHere.same {H H' : Hp} {a : Addr} {ws : List V} (h : SqHere H a ws) (e : Same H H') : SqHere H' a ws := h.elim (fun h => .inl (e _ _ h)) (fun h => .inr (e _ _ h))
theorem SqHere.ty {K : PySem.W.Frag} {H : Hp} {a : Addr} {ws : List V} (h : SqHere H a ws) : ∃ t, TyX K H (.ref a) t ∧ PySem.W.kitAny K t [.type "list", .type "tuple"] = some true := by
  rcases h with h | h
  · exact ⟨_, .base (.lst h), kitAny_cons (b := true) (kit_ty (by decide +kernel)) (fun z => nomatch z) (fun _ => rfl)⟩
  · exact ⟨_, .base (.tup h), kitAny_cons (b := false) (kit_ty (by decide +kernel)) (fun _ => kitAny_cons (b := true) (kit_ty (by decide +kernel)) (fun z => nomatch z) (fun _ => rfl)) (fun z => nomatch z)⟩
def BsI (bs : List Bool) (H0 : Hp) (D : Addr) (i : Nat) (H2 : Hp) : Prop := Same H0 H2 ∧ H2 D = some (.lst ((bs.take i).map V.bl))
def spHasN (K : PySem.W.Frag) : Sp := fun vs H Q _ => ∃ (y : V) (m : Int), vs = [y, .int m] ∧ ((∃ a ws bs, y = .ref a ∧ SqHere H a ws ∧ Nums K H ws bs ∧ ws.length ≤ 1000 ∧ ∀ H', Same H H' → Q (.bl (decide ((ws.length : Int) = m) && bs.all id)) H') ∨ (NoSeq H y ∧ ∀ H', Same H H' → Q (.bl false) H'))
section
variable {P : Program} {w : World} {K : PySem.W.Frag} {mg : Str → Option Value} {base : Heap}
theorem ok_inner (T : Tx K mg) : FnOk P w K mg base CX0 5 (He.ga K "inner") T.fd_inner ["one", "other"] (spInner K) := by
  refine T.F_inner.ok sc_inner (fun vs H Q E h => ?_) (fun cdv A outer s H vs Q E hr h => ?_)
  · obtain ⟨a, b, ws, us, l, m, rfl, _⟩ := h
    rfl
  · obtain ⟨a, b, ws, us, l, m, rfl, hA, hB, hL, hM, zl, zm, hl, hn, q⟩ := h
    refine ⟨_, (pss_one (ps_ret (pe_call (ok_inover T) (hr.mono (by decide)) (by rfl) T.g_inner_over T.F_inner_over.kp T.b_inner_over .nil pass0 (pa_cons (pe_call (ok_wbeam T) (hr.mono (by decide)) (by rfl) T.g_whole_beam T.F_whole_beam.kp T.b_whole_beam .nil pass0 (pa_cons (pv 0) pa_nil)) (pa_cons (pe_call (ok_wbeam T) (hr.mono (by decide)) (by rfl) T.g_whole_beam T.F_whole_beam.kp T.b_whole_beam .nil pass0 (pa_cons (pv 1) pa_nil)) pa_nil))))), ?_⟩
    refine ⟨_, rfl, a, ws, l, rfl, hA, hL, zl, hn, fun p1 d1 H1 n1 _ s1 v1 v2 => ?_⟩
    have w1 : WbAt H1 p1 l := ⟨d1, v1, v2⟩
    refine ⟨_, rfl, b, us, m, rfl, sq_sm hB s1, hM.nl rr_solid (same_nl s1), zm, by rw [← hl]; exact hn, fun p2 d2 H2 n2 _ s2 v3 v4 => ?_⟩
    have w2 : WbAt H2 p2 m := ⟨d2, v3, v4⟩
    exact ⟨p1, p2, l, m, rfl, w1.same s2, w2, zl, zm, hl, hn, fun r H3 nr s3 h3 => q r H3 ((s1.trans s2).free nr) (s1.trans (s2.trans s3)) h3⟩
theorem ok_hasn (T : Tx K mg) : FnOk P w K mg base CX0 3 (He.ga K "has_numbers") T.fd_has_numbers ["given", "many"] (spHasN K) := by
  refine T.F_has_numbers.ok sc_has_numbers (fun vs H Q E h => ?_) (fun cdv A outer s H vs Q E hr h => ?_)
  · obtain ⟨y, m, rfl, _⟩ := h
    rfl
  · obtain ⟨y, m, rfl, h⟩ := h
    refine ⟨_, (pss_cons (ps_if (PW.pt (pw_or (pt_not (pt_val (pe_callB call_isiT (by rfl) T.z_isinstance (by decide +kernel) (pa_cons (pv 0) (pa_cons (pe_tup (pa_cons (pe_bltn (v := V.ty "list") (u := Value.type "list") (by rfl) T.z_list (by decide +kernel) rfl) (pa_cons (pe_bltn (v := V.ty "tuple") (u := Value.type "tuple") (by rfl) T.z_tuple (by decide +kernel) rfl) pa_nil))) pa_nil))))) (pw_or1 (pt_cmpR op_ne (pe_callB call_len_seq (by rfl) T.z_len PySem.boot_len (pa_cons (pv 0) pa_nil)) (pv 1) (nomark _))))) (pss_one (ps_ret pe_bl)) pss_nil)
      (pss_one (ps_ret (pe_callB (FoY.call_all rfl rfl) (by rfl) T.z_all (by decide +kernel) (pa_cons (pe_lc (own := [("item", 2)]) (g := gName 2) rfl sc_has_numbers.nd (FoY.pi_or (pi_list (pv 0)) (pi_tup (pv 0))) (blkOk_by (own := [("item", 2)]) (N := ["given", "many", "item"]) (sc := defScope s_has_numbers) (by decide +kernel)) (fun _ _ _ _ _ => (pg_name (i := 2) sc_has_numbers.nd rfl (.inl rfl))) (fun _ _ _ _ _ => pts_nil) (fun _ _ _ _ _ => (pe_call (ok_is_number T) (hr.mono (by decide)) (by rfl) T.g_is_number T.F_is_number.kp T.b_is_number .nil pass0 (pa_cons (pv 2) pa_nil)))) pa_nil))))), ?_⟩
    have pc : Paired ClsV [.ty "list", .ty "tuple"] [.type "list", .type "tuple"] := .cons (.ty _) (.cons (.ty _) .nil)
    rcases h with ⟨a, ws, bs, rfl, hS, hN, hn, q⟩ | ⟨hN, q⟩
    · refine ⟨_, rfl, (by show 2 ≤ sizeLine; rw [sizeLine_eq]; decide), fun tp ntp => ?_⟩
      have s0 := Same.upd ntp (o := .tup [.ty "list", .ty "tuple"])
      obtain ⟨t, ty, kt⟩ := (hS.same s0).ty (K := K)
      have hS0 := hS.same s0
      refine ⟨_, tp, _, t, _, true, rfl, upd_same, pc, ty, kt, true, rfl, iteF ?_⟩
      refine ⟨_, rfl, a, ws, rfl, hS0.elim (fun h => .inl (SqL.of h)) (fun h => .inr (SqT.of h)), _, rfl, rfl, _, rfl, ?_⟩
      refine ite2 (fun e => ?_) (fun e => ?_)
      · have z := q _ s0
        have e1 : decide ((ws.length : Int) = m) = false := by
          refine decide_eq_false fun w => ?_
          rw [w, decide_eq_true rfl] at e
          cases e
        rw [e1, Bool.false_and] at z
        exact z
      · have e1 : decide ((ws.length : Int) = m) = true := by
          cases c : decide ((ws.length : Int) = m) with
          | true => rfl
          | false =>
            refine absurd ?_ e
            rw [decide_eq_false (fun w => (of_decide_eq_false c) (V.int.inj w))]
            rfl
        rw [e1] at q
        have hN0 := hN.same s0
        generalize upd H tp (.tup [.ty "list", .ty "tuple"]) = H0 at *
        have step : ∀ {D : Addr} (_ : H0 D = none) {i : Nat} {v : V} {H2 : Hp}, ws[i]? = some v → BsI bs H0 D i H2 → ∃ b, bs[i]? = some b ∧ NumB K H2 v b ∧ ∃ acc, H2 D = some (.lst acc) ∧ acc.length < sizeLine ∧ BsI bs H0 D (i + 1) (upd H2 D (.lst (acc ++ [.bl b]))) := fun {D} nD {i v H2} ev h => by
          have hi := (List.getElem?_eq_some_iff.mp ev).1
          have hb : i < bs.length := by rw [hN0.1]; exact hi
          have eb : bs[i]? = some bs[i] := List.getElem?_eq_getElem hb
          refine ⟨_, eb, (hN0.2 i v _ ev eb).same h.1, _, h.2, ?_, fun c o z => ?_, ?_⟩
          · rw [List.length_map, List.length_take, sizeLine_eq]
            omega
          · rw [upd_ne (ne_of_none z nD)]
            exact h.1 _ _ z
          · rw [upd_same, List.take_add_one, eb, List.map_append]
            rfl
        have fin : ∀ {D : Addr} {H2 : Hp}, BsI bs H0 D ws.length H2 → ∃ (a : Addr) (bs' : List Bool), [V.ref D] = [V.ref a] ∧ SqL K H2 a (bs'.map V.bl) ∧ Q (.bl (bs'.all id)) H2 := fun {D H2} h => by
          obtain ⟨h1, h2⟩ := h
          rw [← hN0.1, List.take_length] at h2
          exact ⟨D, bs, rfl, SqL.of h2, q _ (s0.trans h1)⟩
        rcases hS0 with hL | hT
        · refine .inl ⟨_, rfl, a, rfl, ⟨_, SqL.of hL⟩, fun D nD => ?_⟩
          refine lc_list (BsI bs H0 D) ⟨Same.upd nD, upd_same⟩ (fun i H2 hi h => SqL.of (h.1 _ _ hL)) (fun i v H2 ev h => ?_) (fun H2 h => fin h)
          obtain ⟨b, eb, nb, acc, h1, h2, h3⟩ := step nD ev h
          rcases nb with ⟨rfl, r, hr⟩ | ⟨rfl, hno⟩
          · exact ⟨rfl, _, rfl, v, rfl, .inl ⟨_, _, hr.num, acc, h1, h2, h3⟩⟩
          · exact ⟨rfl, _, rfl, v, rfl, .inr ⟨hno, acc, h1, h2, h3⟩⟩
        · refine .inr ⟨_, rfl, a, rfl, ⟨_, SqT.of hT⟩, fun D nD => ?_⟩
          refine lc_tup (BsI bs H0 D) ⟨Same.upd nD, upd_same⟩ (fun i H2 hi h => SqT.of (h.1 _ _ hT)) (fun i v H2 ev h => ?_) (fun H2 h => fin h)
          obtain ⟨b, eb, nb, acc, h1, h2, h3⟩ := step nD ev h
          rcases nb with ⟨rfl, r, hr⟩ | ⟨rfl, hno⟩
          · exact ⟨rfl, _, rfl, v, rfl, .inl ⟨_, _, hr.num, acc, h1, h2, h3⟩⟩
          · exact ⟨rfl, _, rfl, v, rfl, .inr ⟨hno, acc, h1, h2, h3⟩⟩
    · obtain ⟨t, ty, kt⟩ := hN.ty (K := K)
      refine ⟨_, rfl, (by show 2 ≤ sizeLine; rw [sizeLine_eq]; decide), fun tp ntp => ?_⟩
      refine ⟨_, tp, _, t, _, false, rfl, upd_same, pc, ty _, kt, false, rfl, iteT ?_⟩
      exact q _ (Same.upd ntp)
end

end Fo

set_option maxHeartbeats 4100000
namespace Fo
open PySem PySem.Spec PyProof.Rows L2
/-! ### tables -/
theorem rf_cons (u d : Int) : rf u d ≠ [] := fun z => by
  have := rf_top u d
  rw [z] at this
  cases this
/-- a Ratio is not an instance that is still empty -/
theorem rat_ne {K : PySem.W.Frag} {H : Hp} {a p : Addr} {r : Rat} {C dx : Addr} (h : RtAt K H a r) (e : H p = some (.ins C dx [])) : a ≠ p := fun z => by
  obtain ⟨dy, q⟩ := h
  rw [z, e] at q
  have := Option.some.inj q
  injection this with _ _ w
  exact rf_cons _ _ w.symm
abbrev TC (K : PySem.W.Frag) : Addr := He.ga K "Table"
theorem tf_look (v : V) : (putF ("_rows" : Str) v []).lookup ("_rows" : Str) = some v := by rw [lookup_putF, if_pos rfl]
/-- a row: a tuple of Ratios -/
def RowAt (K : PySem.W.Frag) (l : List Rat) (H : Hp) (v : V) : Prop := ∃ a ws, v = .ref a ∧ H a = some (.tup ws) ∧ Ls (Rr K) H ws l
theorem row_solid {K : PySem.W.Frag} (l : List Rat) : Solid (RowAt K l) := fun s ⟨a, ws, e, h, g⟩ => ⟨a, ws, e, s _ _ h (fun xs z => by cases z), g.nl rr_solid s⟩
/-- rows of a table -/
def Rows (K : PySem.W.Frag) (H : Hp) (rs : List V) (m : List (List Rat)) : Prop := rs.length = m.length ∧ ∀ (i : Nat) (v : V), rs[i]? = some v → RowAt K (m.getD i []) H v
theorem Rows.nl {K : PySem.W.Frag} {H H' : Hp} {rs : List V} {m : List (List Rat)} (h : Rows K H rs m) (s : NLst H H') : Rows K H' rs m := ⟨h.1, fun i v e => row_solid _ s (h.2 i v e)⟩
/-- a row as it is handed in -/
def RowIn (K : PySem.W.Frag) (H : Hp) (n : Nat) (v : V) (l : List Rat) : Prop := ∃ a ws, v = .ref a ∧ SqHere H a ws ∧ Ls (Rn K) H ws l ∧ l.length = n
theorem RowIn.same {K : PySem.W.Frag} {H H' : Hp} {n : Nat} {v : V} {l : List Rat} (h : RowIn K H n v l) (e : Same H H') : RowIn K H' n v l := by
  obtain ⟨a, ws, e1, e2, e3, e4⟩ := h
  exact ⟨a, ws, e1, e2.same e, e3.nl (fun r => rn_solid r) (same_nl e), e4⟩
theorem Ls.nums {K : PySem.W.Frag} {H : Hp} {ws : List V} {l : List Rat} (h : Ls (Rn K) H ws l) : Nums K H ws (List.replicate ws.length true) :=
  ⟨by rw [List.length_replicate], fun i v b e1 e2 => by
    rw [List.getElem?_replicate] at e2
    split at e2
    · cases e2
      exact .inl ⟨rfl, _, h.2 i v e1⟩
    · cases e2⟩
theorem all_rep (n : Nat) : (List.replicate n true).all id = true := by
  rw [List.all_replicate]
  cases n <;> rfl
/-- at p: the table with the rows m -/
def TabAt (K : PySem.W.Frag) (H : Hp) (p : Addr) (m : List (List Rat)) : Prop := ∃ dx t rs, H p = some (.ins (TC K) dx (putF "_rows" (.ref t) [])) ∧ H t = some (.tup rs) ∧ Rows K H rs m
theorem TabAt.nl {K : PySem.W.Frag} {H H' : Hp} {p : Addr} {m : List (List Rat)} (h : TabAt K H p m) (s : NLst H H') : TabAt K H' p m :=
  let ⟨dx, t, rs, e1, e2, e3⟩ := h
  ⟨dx, t, rs, s _ _ e1 (fun xs z => by cases z), s _ _ e2 (fun xs z => by cases z), e3.nl s⟩
theorem TabAt.same {K : PySem.W.Frag} {H H' : Hp} {p : Addr} {m : List (List Rat)} (h : TabAt K H p m) (s : Same H H') : TabAt K H' p m := h.nl (same_nl s)
def spTIn (K : PySem.W.Frag) : Sp := fun vs H Q _ => ∃ (p dx a : Addr) (rs : List V) (m : List (List Rat)), vs = [.ref p, .ref a] ∧ H p = some (.ins (TC K) dx []) ∧ SqHere H a rs ∧ rs.length = m.length ∧ 1 ≤ rs.length ∧ rs.length ≤ 8 ∧
  (∀ (i : Nat) (v : V), rs[i]? = some v → RowIn K H rs.length v (m.getD i [])) ∧ ∀ H', TabAt K H' p m → But p H H' → Q .non H'
section
variable {P : Program} {w : World} {K : PySem.W.Frag} {mg : Str → Option Value} {base : Heap}
theorem ok_Tinit (T : Tx K mg) : FnOk P w K mg base CX0 4 (He.ma K (He.ga K "Table") "__init__") T.fd_Table_init ["self", "rows"] (spTIn K) := by
  refine T.F_Table_init.ok sc_Table_init (fun vs H Q E h => ?_) (fun cdv A outer s H vs Q E hr h => ?_)
  · obtain ⟨p, dx, a, rs, m, rfl, _⟩ := h
    rfl
  · obtain ⟨p, dx, a, rs, m, rfl, hp, hS, hm, h1, h8, hR, q⟩ := h
    refine ⟨_, (pss_cons (ps_if (PW.pt (pw_or (pt_not (pt_val (pe_callB call_isiT (by rfl) T.z_isinstance (by decide +kernel) (pa_cons (pv 1) (pa_cons (pe_tup (pa_cons (pe_bltn (v := V.ty "list") (u := Value.type "list") (by rfl) T.z_list (by decide +kernel) rfl) (pa_cons (pe_bltn (v := V.ty "tuple") (u := Value.type "tuple") (by rfl) T.z_tuple (by decide +kernel) rfl) pa_nil))) pa_nil))))) (pw_or1 (pt_not (pt_chain op_le op_le pe_int (pe_callB call_len_seq (by rfl) T.z_len PySem.boot_len (pa_cons (pv 1) pa_nil)) (pe_glob (v := V.int 8) (by rfl) T.k_LONGEST.choose_spec ⟨_, rfl⟩)))))) (pss_one ps_never) pss_nil)
      (pss_cons (ps_if (pt_not (pt_val (pe_callB (FoY.call_all rfl rfl) (by rfl) T.z_all (by decide +kernel) (pa_cons (pe_lc (own := [("row", 2)]) (g := gName 2) rfl sc_Table_init.nd (FoY.pi_or (pi_list (pv 1)) (pi_tup (pv 1))) (blkOk_by (own := [("row", 2)]) (N := ["self", "rows", "row", "item"]) (sc := defScope s_Table_init) (by decide +kernel)) (fun _ _ _ _ _ => (pg_name (i := 2) sc_Table_init.nd rfl (.inl rfl))) (fun _ _ _ _ _ => pts_nil) (fun _ _ _ _ _ => (pe_call (ok_hasn T) (hr.mono (by decide)) (by rfl) T.g_has_numbers T.F_has_numbers.kp T.b_has_numbers .nil pass0 (pa_cons (pv 2) (pa_cons (pe_callB (FoK.call_lenK (K' := K) (by rfl)) (by rfl) T.z_len PySem.boot_len (pa_cons (pv 1) pa_nil)) pa_nil))))) pa_nil)))) (pss_one ps_never) pss_nil)
      (pss_one (ps_fld (pv 0) (pe_callTy call_tuple_of (by rfl) T.z_tuple (by decide +kernel) (pa_cons (pe_lc (own := [("row", 2)]) (g := gName 2) rfl sc_Table_init.nd (FoY.pi_or (pi_list (pv 1)) (pi_tup (pv 1))) (blkOk_by (own := [("row", 2)]) (N := ["self", "rows", "row", "item"]) (sc := defScope s_Table_init) (by decide +kernel)) (fun _ _ _ _ _ => (pg_name (i := 2) sc_Table_init.nd rfl (.inl rfl))) (fun _ _ _ _ _ => pts_nil) (fun _ _ _ _ _ => (pe_callTy (FoK.call_tupleK (K' := K) (by rfl)) (by rfl) T.z_tuple (by decide +kernel) (pa_cons (pe_lc (own := [("item", 3)]) (g := gName 3) rfl sc_Table_init.nd (FoY.pi_or (FoK.pi_listK (K' := K) (by rfl) (pv 2)) (FoK.pi_tupK (K' := K) (by rfl) (pv 2))) (blkOk_by (own := [("item", 3)]) (N := ["self", "rows", "row", "item"]) (sc := _) (by kernel_rfl)) (fun _ _ _ _ _ => (pg_name (i := 3) sc_Table_init.nd rfl (.inl rfl))) (fun _ _ _ _ _ => pts_nil) (fun _ _ _ _ _ => (pe_call (ok_asQ T) (hr.mono (by decide)) (by rfl) T.g_as_ratio T.F_as_ratio.kp T.b_as_ratio .nil pass0 (pa_cons (pv 3) pa_nil)))) pa_nil)))) pa_nil)) rfl)))), ?_⟩
    have pc : Paired ClsV [.ty "list", .ty "tuple"] [.type "list", .type "tuple"] := .cons (.ty _) (.cons (.ty _) .nil)
    refine ⟨_, rfl, (by show 2 ≤ sizeLine; rw [sizeLine_eq]; decide), fun tp ntp => ?_⟩
    have s0 := Same.upd ntp (o := .tup [.ty "list", .ty "tuple"])
    have hS0 := hS.same s0
    obtain ⟨t, ty, kt⟩ := hS0.ty (K := K)
    refine ⟨_, tp, _, t, _, true, rfl, upd_same, pc, ty, kt, true, rfl, iteF ?_⟩
    refine ⟨_, rfl, a, rs, rfl, hS0.elim (fun h => .inl (SqL.of h)) (fun h => .inr (SqT.of h)), _, _, rfl, rfl, true, congrArg V.bl (decide_eq_true (by omega)), iteT ⟨_, _, rfl, rfl, true, congrArg V.bl (decide_eq_true (by omega)), iteF ?_⟩⟩
    have hR0 : ∀ (i : Nat) (v : V), rs[i]? = some v → RowIn K _ rs.length v (m.getD i []) := fun i v e => (hR i v e).same s0
    generalize upd H tp (.tup [.ty "list", .ty "tuple"]) = H0 at *
    dsimp only [tNext]
    rcases hS0 with hL | hT
    · have q1 : ∀ {H'}, Same H0 H' → SqL K H' a rs := fun e => SqL.of (e _ _ hL)
      refine .inl ⟨_, rfl, a, rfl, ⟨_, q1 (Same.refl _)⟩, fun D nD => ?_⟩
      refine lc_list (BsI (List.replicate rs.length true) H0 D) ⟨Same.upd nD, upd_same⟩ (fun i H2 hi h => q1 h.1) (fun i v H2 ev h => ?_) (fun H2 h => ?_)
      · obtain ⟨b, ws, rfl, hb, hN, hl⟩ := (hR0 i v ev).same h.1
        have hi := (List.getElem?_eq_some_iff.mp ev).1
        have hw : ws.length = rs.length := hN.1.trans hl
        refine ⟨rfl, _, rfl, _, rfl, a, rs, rfl, .inl (q1 h.1), .ref b, rs.length, rfl, .inl ⟨b, ws, _, rfl, hb, hN.nums, by omega, fun H3 s3 => ?_⟩⟩
        rw [all_rep, hw, decide_eq_true rfl]
        refine ⟨_, s3 _ _ h.2, ?_, fun c o z => ?_, ?_⟩
        · rw [List.length_map, List.length_take, sizeLine_eq]
          omega
        · rw [upd_ne (ne_of_none z nD)]
          exact s3 _ _ (h.1 _ _ z)
        · have er : (List.replicate rs.length true)[i]? = some true := by
            rw [List.getElem?_replicate, if_pos hi]
          rw [upd_same, List.take_add_one, er, List.map_append]
          rfl
      · have h2 := h.2
        have e9 : (List.replicate rs.length true).take rs.length = List.replicate rs.length true := by
          rw [List.take_of_length_le (by rw [List.length_replicate]; exact Nat.le_refl _)]
        rw [e9] at h2
        refine ⟨D, _, rfl, SqL.of h2, true, by rw [all_rep], iteF ?_⟩
        have s2 : Same H0 H2 := h.1
        refine .inl ⟨_, rfl, a, rfl, ⟨_, q1 s2⟩, fun D1 nD1 => ?_⟩
        refine lc_list (LInv (fun j H v => RowAt K (m.getD j []) H v) H2 D1) (LInv.start nD1) (fun i H3 hi h3 => q1 (s2.trans h3.1)) (fun i v H3 ev h3 => ?_) (fun H3 h3 => ?_)
        · have hi := (List.getElem?_eq_some_iff.mp ev).1
          obtain ⟨b, ws, rfl, hb, hN, hl⟩ := (hR0 i v ev).same (s2.trans h3.1)
          refine ⟨rfl, ?_⟩
          -- a row's numbers
          have fin : ∀ (D2 : Addr) (H4 : Hp), H3 D2 = none → LInv (fun j => Rr K (FoQ.co (m.getD i []) j)) H3 D2 ws.length H4 → ∃ us, SqL K H4 D2 us ∧ ∀ p4, H4 p4 = none → ∃ acc, upd H4 p4 (.tup us) D1 = some (.lst acc) ∧ acc.length < sizeLine ∧ LInv (fun j H v => RowAt K (m.getD j []) H v) H2 D1 (i + 1) (upd (upd H4 p4 (.tup us)) D1 (.lst (acc ++ [V.ref p4]))) := fun D2 H4 nD2 h4 => by
            obtain ⟨s4, us, e4, el, hu⟩ := h4
            refine ⟨us, SqL.of e4, fun p4 np4 => ?_⟩
            have s5 := s4.trans (Same.upd np4 (o := .tup us))
            refine h3.next (fun j => row_solid _) nD1 s5 ⟨p4, us, rfl, upd_same, ⟨by rw [el, hN.1], fun j w ew => ?_⟩⟩ (by omega)
            obtain ⟨a4, e5, h5⟩ := hu j w ew
            exact ⟨a4, e5, h5.same (Same.upd np4)⟩
          rcases hb with hb | hb
          · refine .inl ⟨_, rfl, b, rfl, ⟨_, SqL.of hb⟩, fun D2 nD2 => ?_⟩
            refine lc_list (LInv (fun j => Rr K (FoQ.co (m.getD i []) j)) H3 D2) (LInv.start nD2) (fun j H4 hj h4 => SqL.of (h4.1 _ _ hb)) (fun j w H4 ew h4 => ?_) (fun H4 h4 => ?_)
            · have hj := (List.getElem?_eq_some_iff.mp ew).1
              exact ⟨rfl, _, rfl, w, _, rfl, rn_solid _ (same_nl h4.1) (hN.2 j w ew), fun b5 H5 s5 h5 => h4.next (fun j => rr_solid _) nD2 s5 ⟨b5, rfl, h5⟩ (by have := hN.1; omega)⟩
            · obtain ⟨us, hu, k4⟩ := fin D2 H4 nD2 h4
              exact ⟨D2, us, rfl, .inl ⟨hu, k4⟩⟩
          · refine .inr ⟨_, rfl, b, rfl, ⟨_, SqT.of hb⟩, fun D2 nD2 => ?_⟩
            refine lc_tup (LInv (fun j => Rr K (FoQ.co (m.getD i []) j)) H3 D2) (LInv.start nD2) (fun j H4 hj h4 => SqT.of (h4.1 _ _ hb)) (fun j w H4 ew h4 => ?_) (fun H4 h4 => ?_)
            · have hj := (List.getElem?_eq_some_iff.mp ew).1
              exact ⟨rfl, _, rfl, w, _, rfl, rn_solid _ (same_nl h4.1) (hN.2 j w ew), fun b5 H5 s5 h5 => h4.next (fun j => rr_solid _) nD2 s5 ⟨b5, rfl, h5⟩ (by have := hN.1; omega)⟩
            · obtain ⟨us, hu, k4⟩ := fin D2 H4 nD2 h4
              exact ⟨D2, us, rfl, .inl ⟨hu, k4⟩⟩
        · obtain ⟨s3, us, e3, el, hu⟩ := h3
          refine ⟨D1, us, rfl, .inl ⟨SqL.of e3, fun t4 nt4 => ?_⟩⟩
          have s03 := s0.trans (s2.trans s3)
          have hp3 : H3 p = some (.ins (TC K) dx []) := s03 _ _ hp
          have tp4 : t4 ≠ p := fun z => by rw [z, hp3] at nt4; cases nt4
          refine ⟨_, rfl, p, _, dx, _, rfl, (Same.upd nt4) _ _ hp3, T.cl_T, T.nR_T, (by show 0 < 1000; decide), ?_⟩
          refine q _ ⟨dx, t4, us, upd_same, by rw [upd_ne tp4, upd_same], ⟨by rw [el, hm], fun j v ev => ?_⟩⟩ ((But.of_same s03).trans ((But.of_same (Same.upd nt4)).trans But.upd))
          obtain ⟨a5, ws5, e5, h5, g5⟩ := hu j v ev
          have n5 : a5 ≠ p := fun z => by
            rw [z, hp3] at h5
            cases h5
          have h6 := (Same.upd nt4 (o := .tup us)) _ _ h5
          refine ⟨a5, ws5, e5, by rw [upd_ne n5]; exact h6, g5.1, fun i w ew => ?_⟩
          obtain ⟨a6, e6, h7⟩ := g5.2 i w ew
          have h8 := h7.same (Same.upd nt4 (o := .tup us))
          have n6 := rat_ne h8 (Same.upd nt4 (o := .tup us) _ _ hp3)
          obtain ⟨dx6, h9⟩ := h8
          exact ⟨a6, e6, dx6, by rw [upd_ne n6]; exact h9⟩
    · have q1 : ∀ {H'}, Same H0 H' → SqT K H' a rs := fun e => SqT.of (e _ _ hT)
      refine .inr ⟨_, rfl, a, rfl, ⟨_, q1 (Same.refl _)⟩, fun D nD => ?_⟩
      refine lc_tup (BsI (List.replicate rs.length true) H0 D) ⟨Same.upd nD, upd_same⟩ (fun i H2 hi h => q1 h.1) (fun i v H2 ev h => ?_) (fun H2 h => ?_)
      · obtain ⟨b, ws, rfl, hb, hN, hl⟩ := (hR0 i v ev).same h.1
        have hi := (List.getElem?_eq_some_iff.mp ev).1
        have hw : ws.length = rs.length := hN.1.trans hl
        refine ⟨rfl, _, rfl, _, rfl, a, rs, rfl, .inr (q1 h.1), .ref b, rs.length, rfl, .inl ⟨b, ws, _, rfl, hb, hN.nums, by omega, fun H3 s3 => ?_⟩⟩
        rw [all_rep, hw, decide_eq_true rfl]
        refine ⟨_, s3 _ _ h.2, ?_, fun c o z => ?_, ?_⟩
        · rw [List.length_map, List.length_take, sizeLine_eq]
          omega
        · rw [upd_ne (ne_of_none z nD)]
          exact s3 _ _ (h.1 _ _ z)
        · have er : (List.replicate rs.length true)[i]? = some true := by
            rw [List.getElem?_replicate, if_pos hi]
          rw [upd_same, List.take_add_one, er, List.map_append]
          rfl
      · have h2 := h.2
        have e9 : (List.replicate rs.length true).take rs.length = List.replicate rs.length true := by
          rw [List.take_of_length_le (by rw [List.length_replicate]; exact Nat.le_refl _)]
        rw [e9] at h2
        refine ⟨D, _, rfl, SqL.of h2, true, by rw [all_rep], iteF ?_⟩
        have s2 : Same H0 H2 := h.1
        refine .inr ⟨_, rfl, a, rfl, ⟨_, q1 s2⟩, fun D1 nD1 => ?_⟩
        refine lc_tup (LInv (fun j H v => RowAt K (m.getD j []) H v) H2 D1) (LInv.start nD1) (fun i H3 hi h3 => q1 (s2.trans h3.1)) (fun i v H3 ev h3 => ?_) (fun H3 h3 => ?_)
        · have hi := (List.getElem?_eq_some_iff.mp ev).1
          obtain ⟨b, ws, rfl, hb, hN, hl⟩ := (hR0 i v ev).same (s2.trans h3.1)
          refine ⟨rfl, ?_⟩
          -- a row's numbers
          have fin : ∀ (D2 : Addr) (H4 : Hp), H3 D2 = none → LInv (fun j => Rr K (FoQ.co (m.getD i []) j)) H3 D2 ws.length H4 → ∃ us, SqL K H4 D2 us ∧ ∀ p4, H4 p4 = none → ∃ acc, upd H4 p4 (.tup us) D1 = some (.lst acc) ∧ acc.length < sizeLine ∧ LInv (fun j H v => RowAt K (m.getD j []) H v) H2 D1 (i + 1) (upd (upd H4 p4 (.tup us)) D1 (.lst (acc ++ [V.ref p4]))) := fun D2 H4 nD2 h4 => by
            obtain ⟨s4, us, e4, el, hu⟩ := h4
            refine ⟨us, SqL.of e4, fun p4 np4 => ?_⟩
            have s5 := s4.trans (Same.upd np4 (o := .tup us))
            refine h3.next (fun j => row_solid _) nD1 s5 ⟨p4, us, rfl, upd_same, ⟨by rw [el, hN.1], fun j w ew => ?_⟩⟩ (by omega)
            obtain ⟨a4, e5, h5⟩ := hu j w ew
            exact ⟨a4, e5, h5.same (Same.upd np4)⟩
          rcases hb with hb | hb
          · refine .inl ⟨_, rfl, b, rfl, ⟨_, SqL.of hb⟩, fun D2 nD2 => ?_⟩
            refine lc_list (LInv (fun j => Rr K (FoQ.co (m.getD i []) j)) H3 D2) (LInv.start nD2) (fun j H4 hj h4 => SqL.of (h4.1 _ _ hb)) (fun j w H4 ew h4 => ?_) (fun H4 h4 => ?_)
            · have hj := (List.getElem?_eq_some_iff.mp ew).1
              exact ⟨rfl, _, rfl, w, _, rfl, rn_solid _ (same_nl h4.1) (hN.2 j w ew), fun b5 H5 s5 h5 => h4.next (fun j => rr_solid _) nD2 s5 ⟨b5, rfl, h5⟩ (by have := hN.1; omega)⟩
            · obtain ⟨us, hu, k4⟩ := fin D2 H4 nD2 h4
              exact ⟨D2, us, rfl, .inl ⟨hu, k4⟩⟩
          · refine .inr ⟨_, rfl, b, rfl, ⟨_, SqT.of hb⟩, fun D2 nD2 => ?_⟩
            refine lc_tup (LInv (fun j => Rr K (FoQ.co (m.getD i []) j)) H3 D2) (LInv.start nD2) (fun j H4 hj h4 => SqT.of (h4.1 _ _ hb)) (fun j w H4 ew h4 => ?_) (fun H4 h4 => ?_)
            · have hj := (List.getElem?_eq_some_iff.mp ew).1
              exact ⟨rfl, _, rfl, w, _, rfl, rn_solid _ (same_nl h4.1) (hN.2 j w ew), fun b5 H5 s5 h5 => h4.next (fun j => rr_solid _) nD2 s5 ⟨b5, rfl, h5⟩ (by have := hN.1; omega)⟩
            · obtain ⟨us, hu, k4⟩ := fin D2 H4 nD2 h4
              exact ⟨D2, us, rfl, .inl ⟨hu, k4⟩⟩
        · obtain ⟨s3, us, e3, el, hu⟩ := h3
          refine ⟨D1, us, rfl, .inl ⟨SqL.of e3, fun t4 nt4 => ?_⟩⟩
          have s03 := s0.trans (s2.trans s3)
          have hp3 : H3 p = some (.ins (TC K) dx []) := s03 _ _ hp
          have tp4 : t4 ≠ p := fun z => by rw [z, hp3] at nt4; cases nt4
          refine ⟨_, rfl, p, _, dx, _, rfl, (Same.upd nt4) _ _ hp3, T.cl_T, T.nR_T, (by show 0 < 1000; decide), ?_⟩
          refine q _ ⟨dx, t4, us, upd_same, by rw [upd_ne tp4, upd_same], ⟨by rw [el, hm], fun j v ev => ?_⟩⟩ ((But.of_same s03).trans ((But.of_same (Same.upd nt4)).trans But.upd))
          obtain ⟨a5, ws5, e5, h5, g5⟩ := hu j v ev
          have n5 : a5 ≠ p := fun z => by
            rw [z, hp3] at h5
            cases h5
          have h6 := (Same.upd nt4 (o := .tup us)) _ _ h5
          refine ⟨a5, ws5, e5, by rw [upd_ne n5]; exact h6, g5.1, fun i w ew => ?_⟩
          obtain ⟨a6, e6, h7⟩ := g5.2 i w ew
          have h8 := h7.same (Same.upd nt4 (o := .tup us))
          have n6 := rat_ne h8 (Same.upd nt4 (o := .tup us) _ _ hp3)
          obtain ⟨dx6, h9⟩ := h8
          exact ⟨a6, e6, dx6, by rw [upd_ne n6]; exact h9⟩
end

end Fo

set_option maxHeartbeats 4100000
namespace Fo
open PySem PySem.Spec PyProof.Rows L2
/-! ### tables made of rows -/
/-- a row of Ratios, a list or a tuple -/
def RowR (K : PySem.W.Frag) (l : List Rat) (H : Hp) (v : V) : Prop := ∃ a ws, v = .ref a ∧ SqHere H a ws ∧ Ls (Rr K) H ws l
theorem RowR.same {K : PySem.W.Frag} {H H' : Hp} {v : V} {l : List Rat} (h : RowR K l H v) (e : Same H H') : RowR K l H' v := by
  obtain ⟨a, ws, e1, e2, e3⟩ := h
  exact ⟨a, ws, e1, e2.same e, e3.nl rr_solid (same_nl e)⟩
/-- a Ratio is no table -/
theorem rat_ne2 {K : PySem.W.Frag} {H : Hp} {a p : Addr} {r : Rat} {C dx : Addr} {y : V} (h : RtAt K H a r) (e : H p = some (.ins C dx (putF "_rows" y []))) : a ≠ p := fun z => by
  obtain ⟨dy, q⟩ := h
  rw [z, e] at q
  have := Option.some.inj q
  injection this with _ _ w
  have t := rf_top r.num r.den
  rw [← w, lookup_putF, if_neg (by decide)] at t
  cases t
def spMade (K : PySem.W.Frag) : Sp := fun vs H Q _ => ∃ (a : Addr) (rs : List V) (m : List (List Rat)), vs = [.ref a] ∧ SqL K H a rs ∧ rs.length = m.length ∧ rs.length ≤ 100 ∧ (∀ (i : Nat) (v : V), rs[i]? = some v → RowR K (m.getD i []) H v) ∧
  ∀ p H', H p = none → Same H H' → TabAt K H' p m → Q (.ref p) H'
theorem putF_putF (f : Str) (v w : V) : putF f w (putF f v []) = putF f w [] := by
  simp [putF]
section
variable {P : Program} {w : World} {K : PySem.W.Frag} {mg : Str → Option Value} {base : Heap}
theorem ok_made (T : Tx K mg) : FnOk P w K mg base CX0 6 (He.ga K "made_table") T.fd_made_table ["rows"] (spMade K) := by
  refine T.F_made_table.ok sc_made_table (fun vs H Q E h => ?_) (fun cdv A outer s H vs Q E hr h => ?_)
  · obtain ⟨a, rs, m, rfl, _⟩ := h
    rfl
  · obtain ⟨a, rs, m, rfl, hS, hm, hn, hR, q⟩ := h
    refine ⟨_, (pss_cons (ps_set (i := 1) sc_made_table.nd rfl (.inl rfl) (pe_make T.mk_T (ok_Tinit T) (hr.mono (by decide)) (by rfl) T.c_Table T.b_Table_init .nil pass0 (pa_cons (pe_tup (pa_cons (pe_tup (pa_cons pe_int pa_nil)) pa_nil)) pa_nil)))
      (pss_cons (ps_fld (pv 1) (pe_callTy call_tuple_of (by rfl) T.z_tuple (by decide +kernel) (pa_cons (pe_lc (own := [("row", 2)]) (g := gName 2) rfl sc_made_table.nd (pi_list (pv 0)) (blkOk_by (own := [("row", 2)]) (N := ["rows", "table", "row"]) (sc := defScope s_made_table) (by decide +kernel)) (fun _ _ _ _ _ => (pg_name (i := 2) sc_made_table.nd rfl (.inl rfl))) (fun _ _ _ _ _ => pts_nil) (fun _ _ _ _ _ => (pe_callTy (FoK.call_tupleK (K' := K) (by rfl)) (by rfl) T.z_tuple (by decide +kernel) (pa_cons (pv 2) pa_nil)))) pa_nil)) rfl)
      (pss_one (ps_ret (pv 1))))), ?_⟩
    refine ⟨(by show 1 ≤ sizeLine; rw [sizeLine_eq]; decide), fun t1 n1 => ⟨(by show 1 ≤ sizeLine; rw [sizeLine_eq]; decide), fun t2 n2 => fun x dx nx ndx ne => ?_⟩⟩
    have s1 := Same.upd n1 (o := .tup [.int 0])
    have s2 := Same.upd n2 (o := .tup [.ref t1])
    have s12 := s1.trans s2
    have l1 := s2 _ _ (show upd H t1 (.tup [.int 0]) t1 = some (.tup [.int 0]) from upd_same)
    have l2 : upd (upd H t1 (.tup [.int 0])) t2 (.tup [.ref t1]) t2 = some (.tup [.ref t1]) := upd_same
    generalize upd (upd H t1 (.tup [.int 0])) t2 (.tup [.ref t1]) = H2 at *
    have s3 : Same H2 (upd (upd H2 dx (.own x)) x (.ins (TC K) dx [])) := (Same.upd ndx).trans (Same.upd (by rw [upd_ne (Ne.symm ne)]; exact nx))
    have nm0 : NmV K (upd (upd H2 dx (.own x)) x (.ins (TC K) dx [])) (.int 0) 0 := .inr ⟨0, rfl, rfl⟩
    refine ⟨x, dx, t2, [.ref t1], [[0]], rfl, upd_same, .inr (s3 _ _ l2), rfl, (by show 1 ≤ 1; decide), (by show 1 ≤ 8; decide), fun i v e => ?_, fun H' hT hB => ⟨rfl, ?_⟩⟩
    · have hi : i = 0 := by
        have := (List.getElem?_eq_some_iff.mp e).1
        simp at this
        exact this
      subst hi
      cases e
      refine ⟨t1, [.int 0], rfl, .inr (s3 _ _ l1), ⟨rfl, fun j w ew => ?_⟩, rfl⟩
      have hj : j = 0 := by
        have := (List.getElem?_eq_some_iff.mp ew).1
        simp at this
        exact this
      subst hj
      cases ew
      exact nm0
    have sT : Same H H' := s12.trans (Same.made nx ndx hB)
    have nxH : H x = none := s12.free nx
    obtain ⟨dx', t', rs', hx, ht', _⟩ := hT
    refine ⟨_, rfl, a, rfl, ⟨_, sqL_sm hS sT⟩, fun D nD => ?_⟩
    refine lc_list (LInv (fun j H v => RowAt K (m.getD j []) H v) H' D) (LInv.start nD) (fun i H3 hi h => sqL_sm hS (sT.trans h.1)) (fun i v H3 ev h => ?_) (fun H3 h => ?_)
    · have hi := (List.getElem?_eq_some_iff.mp ev).1
      obtain ⟨b, ws, rfl, hb, hL⟩ := (hR i v ev).same (sT.trans h.1)
      rcases hb with hb | hb
      · exact ⟨rfl, _, rfl, b, ws, rfl, .inl ⟨SqL.of hb, fun p np => h.next (fun j => row_solid _) nD (Same.upd np) ⟨p, ws, rfl, upd_same, hL.nl rr_solid (same_nl (Same.upd np))⟩ (by omega)⟩⟩
      · exact ⟨rfl, _, rfl, b, ws, rfl, .inr ⟨SqT.of hb, h.next (fun j => row_solid _) nD (Same.refl _) ⟨b, ws, rfl, hb, hL⟩ (by omega)⟩⟩
    · obtain ⟨s4, us, e4, el, hu⟩ := h
      refine ⟨D, us, rfl, .inl ⟨SqL.of e4, fun t4 nt4 => ?_⟩⟩
      have s5 := s4.trans (Same.upd nt4 (o := .tup us))
      have hx5 := s5 _ _ hx
      refine ⟨_, rfl, x, _, dx', _, rfl, hx5, T.cl_T, T.nR_T, (by show 1 < 1000; decide), ?_⟩
      refine ⟨_, rfl, q x _ nxH (fun c o e => ?_) ⟨dx', t4, us, ?_, ?_, ⟨by rw [el, hm], fun j v ev => ?_⟩⟩⟩
      · rw [upd_ne (ne_of_none e nxH)]
        exact s5 _ _ (sT _ _ e)
      · rw [putF_putF, upd_same]
      · have n4 : t4 ≠ x := fun z => by rw [z, s4 _ _ hx] at nt4; cases nt4
        rw [upd_ne n4, upd_same]
      · obtain ⟨a5, ws5, e5, h5, g5⟩ := hu j v ev
        have h6 := (Same.upd nt4 (o := .tup us)) _ _ h5
        have n5 : a5 ≠ x := fun z => by
          rw [z, hx5] at h6
          cases h6
        refine ⟨a5, ws5, e5, by rw [upd_ne n5]; exact h6, g5.1, fun i w ew => ?_⟩
        obtain ⟨a6, e6, h7⟩ := g5.2 i w ew
        have h8 := h7.same (Same.upd nt4 (o := .tup us))
        have n6 := rat_ne2 h8 hx5
        obtain ⟨dx6, h9⟩ := h8
        exact ⟨a6, e6, dx6, by rw [upd_ne n6]; exact h9⟩
end

end Fo

set_option maxHeartbeats 4100000
namespace Fo
open PySem PySem.Spec PyProof.Rows L2
/-! ### the table's methods -/
def ent (m : List (List Rat)) (i j : Nat) : Rat := FoQ.co (m.getD i []) j
/-- as many numbers in each row as there are rows -/
def Sqr (m : List (List Rat)) : Prop := 1 ≤ m.length ∧ m.length ≤ 8 ∧ ∀ i, i < m.length → (m.getD i []).length = m.length
def tab (n : Nat) (f : Nat → Nat → Rat) : List (List Rat) := (List.range n).map fun i => (List.range n).map fun j => f i j
theorem tab_len (n : Nat) (f : Nat → Nat → Rat) : (tab n f).length = n := by simp [tab]
theorem tab_row {n : Nat} {f : Nat → Nat → Rat} {i : Nat} (h : i < n) : (tab n f).getD i [] = (List.range n).map fun j => f i j := by
  unfold tab
  rw [List.getD_eq_getElem?_getD, List.getElem?_map, List.getElem?_range h]
  rfl
def flip (m : List (List Rat)) : List (List Rat) := tab m.length fun i j => ent m j i
def spTRows (K : PySem.W.Frag) : Sp := fun vs H Q _ => ∃ (a : Addr) (m : List (List Rat)), vs = [.ref a] ∧ TabAt K H a m ∧ ∀ p H' rs, H p = none → Same H H' → H' p = some (.lst rs) → Rows K H' rs m → Q (.ref p) H'
def spTLen (K : PySem.W.Frag) : Sp := fun vs H Q _ => ∃ (a : Addr) (m : List (List Rat)), vs = [.ref a] ∧ TabAt K H a m ∧ Q (.int m.length) H
def spTMir (K : PySem.W.Frag) : Sp := fun vs H Q _ => ∃ (a : Addr) (m : List (List Rat)), vs = [.ref a] ∧ TabAt K H a m ∧ Sqr m ∧ ∀ p H', H p = none → Same H H' → TabAt K H' p (flip m) → Q (.ref p) H'
/-- the tuples' addresses -/
theorem rows_refs {K : PySem.W.Frag} {H : Hp} : ∀ {rs : List V}, (∀ v ∈ rs, ∃ a ws, v = V.ref a ∧ H a = some (.tup ws)) → ∃ as : List Addr, rs = as.map V.ref
  | [], _ => ⟨[], rfl⟩
  | v :: rs, h => by
    obtain ⟨a, ws, rfl, _⟩ := h v List.mem_cons_self
    obtain ⟨as, rfl⟩ := rows_refs (K := K) (H := H) (rs := rs) fun w hw => h w (List.mem_cons_of_mem _ hw)
    exact ⟨a :: as, rfl⟩
def colOf (H : Hp) (a : Addr) : List V := match H a with
  | some (.tup ws) => ws
  | _ => []
section
variable {P : Program} {w : World} {K : PySem.W.Frag} {mg : Str → Option Value} {base : Heap}
theorem ok_Trows (T : Tx K mg) : FnOk P w K mg base CX0 1 (He.ma K (He.ga K "Table") "rows") T.fd_Table_rows ["self"] (spTRows K) := by
  refine T.F_Table_rows.ok sc_Table_rows (fun vs H Q E h => ?_) (fun cdv A outer s H vs Q E hr h => ?_)
  · obtain ⟨a, l, rfl, _⟩ := h
    rfl
  · obtain ⟨a, l, rfl, ⟨dx, t, ws, e1, e2, e3⟩, q⟩ := h
    refine ⟨_, (pss_one (ps_ret (pe_callTy call_list_of (by rfl) T.z_list (by decide +kernel) (pa_cons (pe_fld (pv 0) rfl) pa_nil)))), ?_⟩
    refine ⟨_, rfl, a, _, dx, _, _, rfl, e1, T.cl_T, T.nR_T, tf_look _, t, ws, rfl, .inr (SqT.of e2), fun p np => ?_⟩
    exact q p _ ws np (Same.upd np) upd_same (e3.nl (same_nl (Same.upd np)))
theorem ok_Tlen (T : Tx K mg) : FnOk P w K mg base CX0 1 (He.ma K (He.ga K "Table") "__len__") T.fd_Table_len ["self"] (spTLen K) := by
  refine T.F_Table_len.ok sc_Table_len (fun vs H Q E h => ?_) (fun cdv A outer s H vs Q E hr h => ?_)
  · obtain ⟨a, l, rfl, _⟩ := h
    rfl
  · obtain ⟨a, l, rfl, ⟨dx, t, ws, e1, e2, e3⟩, q⟩ := h
    refine ⟨_, (pss_one (ps_ret (pe_callB call_len_seq (by rfl) T.z_len PySem.boot_len (pa_cons (pe_fld (pv 0) rfl) pa_nil)))), ?_⟩
    refine ⟨_, rfl, a, _, dx, _, _, rfl, e1, T.cl_T, T.nR_T, tf_look _, t, ws, rfl, .inr (SqT.of e2), ?_⟩
    rw [e3.1]
    exact q
theorem ok_Tmirror (T : Tx K mg) : FnOk P w K mg base CX0 7 (He.ma K (He.ga K "Table") "mirror") T.fd_Table_mirror ["self"] (spTMir K) := by
  refine T.F_Table_mirror.ok sc_Table_mirror (fun vs H Q E h => ?_) (fun cdv A outer s H vs Q E hr h => ?_)
  · obtain ⟨a, l, rfl, _⟩ := h
    rfl
  · obtain ⟨a, m, rfl, ⟨dx, t, rs, e1, e2, e3⟩, ⟨h1, h8, hsq⟩, q⟩ := h
    refine ⟨_, (pss_one (ps_ret (pe_call (ok_made T) (hr.mono (by decide)) (by rfl) T.g_made_table T.F_made_table.kp T.b_made_table .nil pass0 (pa_cons (FoU.pe_lzS rfl rfl (by rfl) T.z_list (by rfl) T.z_zip (pe_fld (pv 0) rfl)) pa_nil)))), ?_⟩
    obtain ⟨as, rfl⟩ := rows_refs (K := K) (H := H) (rs := rs) fun v hv => by
      obtain ⟨i, e⟩ := List.getElem?_of_mem hv
      obtain ⟨a, ws, e4, e5, _⟩ := e3.2 i v e
      exact ⟨a, ws, e4, e5⟩
    have la : as.length = m.length := by
      have := e3.1
      simpa using this
    have rowi : ∀ (i : Nat) (y : Addr), as[i]? = some y → H y = some (.tup (colOf H y)) ∧ Ls (Rr K) H (colOf H y) (m.getD i []) ∧ i < m.length := fun i y e => by
      obtain ⟨b, ws, e4, e5, e6⟩ := e3.2 i (.ref y) (by rw [List.getElem?_map, e]; rfl)
      cases e4
      have ec : colOf H y = ws := by
        unfold colOf
        rw [e5]
      rw [ec]
      exact ⟨e5, e6, by rw [← la]; exact (List.getElem?_eq_some_iff.mp e).1⟩
    cases as with
    | nil =>
      exfalso
      have : (0 : Nat) = m.length := la
      omega
    | cons l ls =>
      refine ⟨_, rfl, a, _, dx, _, _, rfl, e1, T.cl_T, T.nR_T, tf_look _, t, l, ls, rfl, SqT.of e2, colOf H, m.length, fun y hy => ?_, by rw [la]; omega, by omega, fun p H' acc np sm hp hl hz => ?_⟩
      · obtain ⟨i, e⟩ := List.getElem?_of_mem hy
        obtain ⟨r1, r2, r3⟩ := rowi i y e
        exact ⟨r2.1.trans (hsq i r3), SqT.of r1⟩
      · have sm : Same H H' := sm
        refine ⟨p, acc, flip m, rfl, SqL.of hp, by rw [hl]; unfold flip; rw [tab_len], by omega, fun j v ev => ?_, fun p2 H2 np2 s2 hT => q p2 H2 (sm.free np2) (sm.trans s2) hT⟩
        have hj := (List.getElem?_eq_some_iff.mp ev).1
        rw [hl] at hj
        obtain ⟨b, vals, rfl, hb, lv, cv⟩ := hz j v ev
        unfold flip
        rw [tab_row hj]
        refine ⟨b, vals, rfl, .inr hb, ⟨by rw [lv, la]; simp, fun i u eu => ?_⟩⟩
        have hi := (List.getElem?_eq_some_iff.mp eu).1
        have hi2 : i < (l :: ls).length := by rw [← lv]; exact hi
        have el : (l :: ls)[i]? = some (l :: ls)[i] := List.getElem?_eq_getElem hi2
        obtain ⟨r1, r2, r3⟩ := rowi i _ el
        rw [FoQ.co_map, if_pos r3]
        exact rr_solid _ (same_nl sm) (r2.2 j u (cv i _ u el eu))
end

end Fo

set_option maxHeartbeats 4100000
/-! a comprehension over zip(*e). -/
namespace FoU
open PySem PySem.Spec PyProof.Rows L2
theorem lc_zn {K : PySem.W.Frag} {l0 : Addr} {ls : List Addr} {n : Nat} {col : Addr → List V} {g : TG} {tt : TT} {te : TE} {vs : List Nat} {σ : L2.St} {H1 : Hp} {D : Addr} {Qd : Hp → Prop} (Pv : Nat → Hp → Prop) (h0 : Pv 0 (upd H1 D (.lst [])))
    (hq : ∀ i H, Pv i H → ∀ y ∈ l0 :: ls, (col y).length = n ∧ SqT K H y (col y))
    (hs : ∀ (i : Nat) (T : Addr) (vals : List V) (H : Hp), i < n → vals.length = (l0 :: ls).length → (∀ (j : Nat) (l : Addr) (u : V), (l0 :: ls)[j]? = some l → vals[j]? = some u → (col l)[i]? = some u) → Pv i H → H T = none →
      g (.ref T) (wipe σ vs) (upd H T (.tup vals)) fun σ2 H2 => wipe σ2 vs = wipe σ vs ∧ tt σ2 H2 fun b H3 =>
        if b = true then te σ2 H3 fun y H4 => ∃ acc, H4 D = some (.lst acc) ∧ acc.length < sizeLine ∧ Pv (i + 1) (upd H4 D (.lst (acc ++ [y]))) else Pv (i + 1) H3) (hd : ∀ H, Pv n H → Qd H) :
    ∃ W : Nat → Nat → Hp → Prop, (∃ m, W 0 m (upd H1 D (.lst []))) ∧ ∀ i m H, W i m H →
      ((Itn K (l0 :: ls)).stop i H ∧ Qd H) ∨ ((Itn K (l0 :: ls)).go i H ∧ ∃ Nx : Hp → Prop, (∀ H', Nx H' → ∃ m', m' < m ∧ W (i + 1) m' H') ∧ ∀ x H', (Itn K (l0 :: ls)).yld i H x H' → g x (wipe σ vs) H' fun σ2 H2 => wipe σ2 vs = wipe σ vs ∧ tt σ2 H2 fun b H3 =>
        if b = true then te σ2 H3 fun y H4 => ∃ acc, H4 D = some (.lst acc) ∧ acc.length < sizeLine ∧ Nx (upd H4 D (.lst (acc ++ [y]))) else Nx H3) := by
  refine ⟨fun i m H => m = n - i ∧ i ≤ n ∧ Pv i H, ⟨n, by simp, Nat.zero_le _, h0⟩, ?_⟩
  rintro i m H ⟨rfl, hi, p⟩
  have q := hq i H p
  by_cases hlt : i < n
  · refine .inr ⟨⟨(l0 :: ls).map fun l => ((col l)[i]?).getD .non, by rw [List.length_map], fun j l v e1 e2 => ?_⟩, Pv (i + 1), fun H' p' => ⟨n - (i + 1), by omega, rfl, hlt, p'⟩, fun x H' y => ?_⟩
    · obtain ⟨c1, c2⟩ := q l (List.mem_of_getElem? e1)
      rw [List.getElem?_map, e1] at e2
      cases e2
      refine ⟨col l, c2, ?_⟩
      have ei : (col l)[i]? = some ((col l)[i]'(by rw [c1]; exact hlt)) := List.getElem?_eq_getElem _
      dsimp only
      rw [ei]
      rfl
    · obtain ⟨T, vals, rfl, hT, rfl, hvl, hvc⟩ := y
      exact hs i T vals H hlt hvl (fun j l u e1 e2 => hvc j l u e1 e2 _ (q l (List.mem_of_getElem? e1)).2) p hT
  · have e : i = n := by omega
    subst e
    refine .inl ⟨fun l el => ?_, hd H p⟩
    obtain ⟨c1, c2⟩ := q l (List.mem_of_getElem? el)
    exact ⟨col l, c2, by rw [c1]; exact Nat.le_refl _⟩
end FoU

set_option maxHeartbeats 4100000
namespace Fo
open PySem PySem.Spec PyProof.Rows L2
/-! ### products of tables -/
/-- whole beams that are being put into the list at D, none of them resting on it -/
def WInv (f : Nat → List Rat) (H1 : Hp) (D : Addr) (i : Nat) (H : Hp) : Prop := Same H1 H ∧ ∃ ws, H D = some (.lst ws) ∧ ws.length = i ∧ ∀ (j : Nat) (v : V), ws[j]? = some v → ∃ p d, v = .ref p ∧ d ≠ D ∧ p ≠ D ∧ H p = some (.tup [.ref d, .int (FoQ.lcmD (f j))]) ∧ H d = some (.lst (intV (whole (FoQ.lcmD (f j)) (f j))))
theorem WInv.start {f : Nat → List Rat} {H1 : Hp} {D : Addr} (nD : H1 D = none) : WInv f H1 D 0 (upd H1 D (.lst [])) := ⟨Same.upd nD, [], upd_same, rfl, fun j v e => by simp at e⟩
theorem WInv.next {f : Nat → List Rat} {H1 H H4 : Hp} {D p d : Addr} {i : Nat} (h : WInv f H1 D i H) (nD : H1 D = none) (s : Same H H4) (np : H p = none) (nd : H d = none) (hp : H4 p = some (.tup [.ref d, .int (FoQ.lcmD (f i))])) (hd : H4 d = some (.lst (intV (whole (FoQ.lcmD (f i)) (f i))))) (hi : i < 1000) :
    ∃ acc, H4 D = some (.lst acc) ∧ acc.length < sizeLine ∧ WInv f H1 D (i + 1) (upd H4 D (.lst (acc ++ [V.ref p]))) := by
  obtain ⟨s1, ws, e, el, hw⟩ := h
  have pD : p ≠ D := fun z => by rw [z, e] at np; cases np
  have dD : d ≠ D := fun z => by rw [z, e] at nd; cases nd
  refine ⟨ws, s _ _ e, by rw [el, sizeLine_eq]; omega, same_set (s1.trans s) nD, _, upd_same, by rw [List.length_append, el]; rfl, fun j v ev => ?_⟩
  rw [List.getElem?_append] at ev
  split at ev
  · obtain ⟨p1, d1, e1, n1, n2, g1, g2⟩ := hw j v ev
    exact ⟨p1, d1, e1, n1, n2, by rw [upd_ne n2]; exact s _ _ g1, by rw [upd_ne n1]; exact s _ _ g2⟩
  · have ej : j - ws.length = 0 := by
      cases q : j - ws.length with
      | zero => rfl
      | succ m =>
        rw [q] at ev
        simp at ev
    rw [ej] at ev
    cases ev
    have ej2 : j = i := by omega
    subst ej2
    exact ⟨p, d, rfl, dD, pD, by rw [upd_ne pD]; exact hp, by rw [upd_ne dD]; exact hd⟩
def spChk (K : PySem.W.Frag) : Sp := fun vs H Q _ => ∃ (a b : Addr) (m k : List (List Rat)), vs = [.ref a, .ref b] ∧ TabAt K H a m ∧ TabAt K H b k ∧ m.length = k.length ∧ m.length ≤ 100 ∧ Q .non H
section
variable {P : Program} {w : World} {K : PySem.W.Frag} {mg : Str → Option Value} {base : Heap}
theorem ok_chk (T : Tx K mg) : FnOk P w K mg base CX0 3 (He.ga K "_check_lengths") T.fd_check_lengths ["one", "other"] (spChk K) := by
  refine T.F_check_lengths.ok sc_check_lengths (fun vs H Q E h => ?_) (fun cdv A outer s H vs Q E hr h => ?_)
  · obtain ⟨a, b, m, k, rfl, _⟩ := h
    rfl
  · obtain ⟨a, b, m, k, rfl, hA, hB, hl, hn, q⟩ := h
    refine ⟨_, (pss_one (ps_if (pt_cmpR op_ne (pe_callB (FoL.call_lenO (ok_Tlen T) (hr.mono (by decide)) T.b_Table_len pass0 T.mT_len.at_ T.mT_len.fn) (by rfl) T.z_len PySem.boot_len (pa_cons (pv 0) pa_nil)) (pe_callB (FoL.call_lenO (ok_Tlen T) (hr.mono (by decide)) T.b_Table_len pass0 T.mT_len.at_ T.mT_len.fn) (by rfl) T.z_len PySem.boot_len (pa_cons (pv 1) pa_nil)) (nomark _)) (pss_one ps_never) pss_nil)), ?_⟩
    obtain ⟨dx, t, rs, e1, e2, e3⟩ := id hA
    obtain ⟨dy, t2, rs2, f1, f2, f3⟩ := id hB
    refine ⟨_, rfl, a, dx, _, rfl, e1, ⟨a, m, rfl, hA, ⟨_, rfl, by omega, ?_⟩⟩⟩
    refine ⟨_, rfl, b, dy, _, rfl, f1, ⟨b, k, rfl, hB, ⟨_, rfl, by omega, rfl, _, rfl, ?_⟩⟩⟩
    rw [hl, decide_eq_true rfl]
    exact iteF q
end

end Fo

set_option maxHeartbeats 4100000
namespace Fo
open PySem PySem.Spec PyProof.Rows L2
/-! ### the product -/
def colm (k : List (List Rat)) (j : Nat) : List Rat := (List.range k.length).map fun i => ent k i j
def AllE (n : Nat) (m : List (List Rat)) : Prop := ∀ i, AllSz n (m.getD i [])
def tmul (m k : List (List Rat)) : List (List Rat) := tab m.length fun i j => dotQ (m.getD i []) (colm k j) m.length
theorem colm_sz {n : Nat} {k : List (List Rat)} (h : AllE n k) (n0 : 0 < n) (j : Nat) : AllSz n (colm k j) := fun i => by
  unfold colm
  rw [FoQ.co_map]
  split
  · exact h i j
  · exact FoQ.SzR.zero n0
/-- lists of Ratios that are being put into the list at D -/
def GInv (K : PySem.W.Frag) (f : Nat → List Rat) (H1 : Hp) (D : Addr) (i : Nat) (H : Hp) : Prop := Same H1 H ∧ ∃ ws, H D = some (.lst ws) ∧ ws.length = i ∧ ∀ (j : Nat) (v : V), ws[j]? = some v → ∃ q us, v = .ref q ∧ q ≠ D ∧ H q = some (.lst us) ∧ Ls (Rr K) H us (f j)
theorem GInv.start {K : PySem.W.Frag} {f : Nat → List Rat} {H1 : Hp} {D : Addr} (nD : H1 D = none) : GInv K f H1 D 0 (upd H1 D (.lst [])) := ⟨Same.upd nD, [], upd_same, rfl, fun j v e => by simp at e⟩
theorem GInv.next {K : PySem.W.Frag} {f : Nat → List Rat} {H1 H H4 : Hp} {D q : Addr} {us : List V} {i : Nat} (h : GInv K f H1 D i H) (nD : H1 D = none) (s : Same H H4) (nq : H q = none) (hq : H4 q = some (.lst us)) (hu : Ls (Rr K) H4 us (f i)) (hi : i < 1000) :
    ∃ acc, H4 D = some (.lst acc) ∧ acc.length < sizeLine ∧ GInv K f H1 D (i + 1) (upd H4 D (.lst (acc ++ [V.ref q]))) := by
  obtain ⟨s1, ws, e, el, hw⟩ := h
  have qD : q ≠ D := fun z => by rw [z, e] at nq; cases nq
  refine ⟨ws, s _ _ e, by rw [el, sizeLine_eq]; omega, same_set (s1.trans s) nD, _, upd_same, by rw [List.length_append, el]; rfl, fun j v ev => ?_⟩
  have nl : NLst H4 (upd H4 D (.lst (ws ++ [V.ref q]))) := nl_upd (s _ _ e)
  rw [List.getElem?_append] at ev
  split at ev
  · obtain ⟨q1, us1, e1, n1, g1, g2⟩ := hw j v ev
    exact ⟨q1, us1, e1, n1, by rw [upd_ne n1]; exact s _ _ g1, (g2.nl rr_solid (same_nl s)).nl rr_solid nl⟩
  · have ej : j - ws.length = 0 := by
      cases q : j - ws.length with
      | zero => rfl
      | succ m =>
        rw [q] at ev
        simp at ev
    rw [ej] at ev
    cases ev
    have ej2 : j = i := by omega
    subst ej2
    exact ⟨q, us, rfl, qD, by rw [upd_ne qD]; exact hq, hu.nl rr_solid nl⟩
def spT2 (K : PySem.W.Frag) (f : List (List Rat) → List (List Rat) → List (List Rat)) : Sp := fun vs H Q _ => ∃ (a b : Addr) (m k : List (List Rat)), vs = [.ref a, .ref b] ∧ TabAt K H a m ∧ TabAt K H b k ∧ Sqr m ∧ Sqr k ∧ m.length = k.length ∧ AllE 40 m ∧ AllE 40 k ∧
  ∀ p H', H p = none → Same H H' → TabAt K H' p (f m k) → Q (.ref p) H'
section
variable {P : Program} {w : World} {K : PySem.W.Frag} {mg : Str → Option Value} {base : Heap}
theorem ok_Tmul (T : Tx K mg) : FnOk P w K mg base CX0 7 (He.ma K (He.ga K "Table") "__mul__") T.fd_Table_mul ["self", "other"] (spT2 K tmul) := by
  refine T.F_Table_mul.ok sc_Table_mul (fun vs H Q E h => ?_) (fun cdv A outer s H vs Q E hr h => ?_)
  · obtain ⟨a, b, m, k, rfl, _⟩ := h
    rfl
  · obtain ⟨a, b, m, k, rfl, hA, hB, ⟨h1, h8, sm⟩, ⟨k1, k8, sk⟩, hl, zm, zk, q⟩ := h
    refine ⟨_, (pss_cons (ps_expr (pe_call (ok_chk T) (hr.mono (by decide)) (by rfl) T.g_check_lengths T.F_check_lengths.kp T.b_check_lengths .nil pass0 (pa_cons (pv 0) (pa_cons (pv 1) pa_nil))))
      (pss_cons (ps_setLc (i := 3) (own := [("row", 2)]) (g := gName 2) rfl sc_Table_mul.nd rfl rfl (sw_true rfl rfl rfl (by decide +kernel)) (pi_tup (pe_fld (pv 0) rfl)) (blkOk_by (own := [("row", 2)]) (N := ["self", "other", "row", "rows", "column", "columns"]) (sc := defScope s_Table_mul) (by decide +kernel)) (fun _ _ _ _ _ => (pg_name (i := 2) sc_Table_mul.nd rfl (.inl rfl))) (fun _ _ _ _ _ => pts_nil) (fun _ _ _ _ _ => (pe_call (ok_wbeam T) (hr.mono (by decide)) (by rfl) T.g_whole_beam T.F_whole_beam.kp T.b_whole_beam .nil pass0 (pa_cons (pv 2) pa_nil))))
      (pss_cons (ps_set (i := 5) sc_Table_mul.nd rfl (.inr rfl) (pe_lc (own := [("column", 4)]) (g := gName 4) rfl sc_Table_mul.nd (FoU.pi_zipS (by rfl) T.z_zip (pe_fld (pv 1) rfl)) (blkOk_by (own := [("column", 4)]) (N := ["self", "other", "row", "rows", "column", "columns"]) (sc := defScope s_Table_mul) (by decide +kernel)) (fun _ _ _ _ _ => (pg_name (i := 4) sc_Table_mul.nd rfl (.inl rfl))) (fun _ _ _ _ _ => pts_nil) (fun _ _ _ _ _ => (pe_call (ok_wbeam T) (hr.mono (by decide)) (by rfl) T.g_whole_beam T.F_whole_beam.kp T.b_whole_beam .nil pass0 (pa_cons (pv 4) pa_nil)))))
      (pss_one (ps_ret (pe_call (ok_made T) (hr.mono (by decide)) (by rfl) T.g_made_table T.F_made_table.kp T.b_made_table .nil pass0 (pa_cons (pe_lc (own := [("row", 2)]) (g := gName 2) rfl sc_Table_mul.nd (pi_list (pv 3)) (blkOk_by (own := [("row", 2)]) (N := ["self", "other", "row", "rows", "column", "columns"]) (sc := defScope s_Table_mul) (by decide +kernel)) (fun _ _ _ _ _ => (pg_name (i := 2) sc_Table_mul.nd rfl (.inr rfl))) (fun _ _ _ _ _ => pts_nil) (fun _ _ _ _ _ => (pe_lc (own := [("column", 4)]) (g := gName 4) rfl sc_Table_mul.nd (FoK.pi_listK (K' := K) (by rfl) (pv 5)) (blkOk_by (own := [("column", 4)]) (N := ["self", "other", "row", "rows", "column", "columns"]) (sc := _) (by kernel_rfl)) (fun _ _ _ _ _ => (pg_name (i := 4) sc_Table_mul.nd rfl (.inl rfl))) (fun _ _ _ _ _ => pts_nil) (fun _ _ _ _ _ => (pe_call (ok_inover T) (hr.mono (by decide)) (by rfl) T.g_inner_over T.F_inner_over.kp T.b_inner_over .nil pass0 (pa_cons (pv 2) (pa_cons (pv 4) pa_nil))))))) pa_nil))))))), ?_⟩
    refine ⟨_, rfl, _, rfl, a, b, m, k, rfl, hA, hB, hl, by omega, ?_⟩
    obtain ⟨dx, t, rs, e1, e2, e3⟩ := id hA
    refine ⟨_, rfl, a, _, dx, _, _, rfl, e1, T.cl_T, T.nR_T, tf_look _, t, rfl, ⟨_, SqT.of e2⟩, fun D nD => ?_⟩
    refine lc_tup (WInv (fun j => m.getD j []) H D) (WInv.start nD) (fun i H2 hi h => SqT.of (h.1 _ _ e2)) (fun i v H2 ev h => ?_) (fun H2 h => ?_)
    · have hi := (List.getElem?_eq_some_iff.mp ev).1
      rw [e3.1] at hi
      obtain ⟨b1, ws, rfl, hb, hL⟩ := row_solid _ (same_nl h.1) (e3.2 i v ev)
      exact ⟨rfl, _, rfl, b1, ws, m.getD i [], rfl, .inr (SqT.of hb), hL, zm i, by rw [sm i hi]; omega, fun p d H4 np nd s4 v1 v2 => h.next nD s4 np nd v1 v2 (by omega)⟩
    · obtain ⟨s1, wr, er, lr, hw1⟩ := h
      obtain ⟨dy, t2, rs2, f1, f2, f3⟩ := id hB
      obtain ⟨as, rfl⟩ := rows_refs (K := K) (H := H) (rs := rs2) fun v hv => by
        obtain ⟨i, e⟩ := List.getElem?_of_mem hv
        obtain ⟨a, ws, e4, e5, _⟩ := f3.2 i v e
        exact ⟨a, ws, e4, e5⟩
      have la : as.length = k.length := by
        have := f3.1
        simpa using this
      have rowi : ∀ (i : Nat) (y : Addr), as[i]? = some y → H y = some (.tup (colOf H y)) ∧ Ls (Rr K) H (colOf H y) (k.getD i []) ∧ i < k.length := fun i y e => by
        obtain ⟨b, ws, e4, e5, e6⟩ := f3.2 i (.ref y) (by rw [List.getElem?_map, e]; rfl)
        cases e4
        have ec : colOf H y = ws := by
          unfold colOf
          rw [e5]
        rw [ec]
        exact ⟨e5, e6, by rw [← la]; exact (List.getElem?_eq_some_iff.mp e).1⟩
      cases as with
      | nil =>
        exfalso
        have : (0 : Nat) = k.length := la
        omega
      | cons l ls =>
        have cols : ∀ {H' : Hp}, Same H H' → ∀ y ∈ l :: ls, (colOf H y).length = k.length ∧ SqT K H' y (colOf H y) := fun {H'} sx y hy => by
          obtain ⟨i, e⟩ := List.getElem?_of_mem hy
          obtain ⟨r1, r2, r3⟩ := rowi i y e
          exact ⟨r2.1.trans (sk i r3), SqT.of (sx _ _ r1)⟩
        have lcol : ∀ i, (colm k i).length = k.length := fun i => by simp [colm]
        refine ⟨_, rfl, b, _, dy, _, _, rfl, s1 _ _ f1, T.cl_T, T.nR_T, tf_look _, t2, l, ls, rfl, SqT.of (s1 _ _ f2), fun y hy => ⟨_, (cols s1 y hy).2⟩, by rw [la]; omega, fun D2 nD2 => ?_⟩
        refine FoU.lc_zn (col := colOf H) (n := k.length) (WInv (fun j => colm k j) H2 D2) (WInv.start nD2) (fun i H3 h => cols (s1.trans h.1)) (fun i T4 vals H3 hi hv hc h nT => ?_) (fun H3 h => ?_)
        · have s34 := Same.upd nT (o := .tup vals)
          refine ⟨rfl, _, rfl, T4, vals, colm k i, rfl, .inr (SqT.of upd_same), ⟨by rw [hv, la, lcol], fun j u eu => ?_⟩, colm_sz zk (by decide) i, by rw [lcol]; omega, fun p d H4 np nd s4 v1 v2 => h.next nD2 (s34.trans s4) (s34.free np) (s34.free nd) v1 v2 (by omega)⟩
          have hj := (List.getElem?_eq_some_iff.mp eu).1
          have hj2 : j < (l :: ls).length := by rw [← hv]; exact hj
          have el : (l :: ls)[j]? = some (l :: ls)[j] := List.getElem?_eq_getElem hj2
          obtain ⟨r1, r2, r3⟩ := rowi j _ el
          unfold colm
          rw [FoQ.co_map, if_pos r3]
          exact rr_solid _ (same_nl (s1.trans (h.1.trans s34))) (r2.2 i u (hc j _ u el eu))
        · obtain ⟨s2, wc, ec, lc, hw2⟩ := h
          refine ⟨_, rfl, D, rfl, ⟨_, SqL.of (s2 _ _ er)⟩, fun D3 nD3 => ?_⟩
          refine lc_list (GInv K (fun i => (List.range m.length).map fun j => dotQ (m.getD i []) (colm k j) m.length) H3 D3) (GInv.start nD3) (fun i H4 hi h => SqL.of (h.1 _ _ (s2 _ _ er))) (fun i v H4 ev h => ?_) (fun H4 h => ?_)
          · have hi := (List.getElem?_eq_some_iff.mp ev).1
            rw [lr, e3.1] at hi
            obtain ⟨p, d, rfl, _, _, v1, v2⟩ := hw1 i v ev
            have s3 := s2.trans h.1
            refine ⟨rfl, _, rfl, D2, rfl, ⟨_, SqL.of (h.1 _ _ ec)⟩, fun D4 nD4 => ?_⟩
            refine lc_list (LInv (fun j => Rr K (dotQ (m.getD i []) (colm k j) m.length)) H4 D4) (LInv.start nD4) (fun j H5 hj h5 => SqL.of (h5.1 _ _ (h.1 _ _ ec))) (fun j v H5 ew h5 => ?_) (fun H5 h5 => ?_)
            · have hj := (List.getElem?_eq_some_iff.mp ew).1
              obtain ⟨p2, d2, rfl, _, _, v3, v4⟩ := hw2 j v ew
              have s45 := h.1.trans h5.1
              have e9 : (m.getD i []).length = m.length := sm i hi
              refine ⟨rfl, _, rfl, _, rfl, p, p2, m.getD i [], colm k j, rfl, ⟨d, (s2.trans s45) _ _ v1, (s2.trans s45) _ _ v2⟩, ⟨d2, s45 _ _ v3, s45 _ _ v4⟩, zm i, colm_sz zk (by decide) j, by rw [e9, lcol, hl], by rw [e9]; omega, fun r H6 nr s6 h6 => ?_⟩
              rw [e9] at h6
              exact h5.next (fun j => rr_solid _) nD4 s6 ⟨r, rfl, h6⟩ (by omega)
            · obtain ⟨s5, us, e5, l5, hu⟩ := h5
              refine h.next nD3 s5 nD4 e5 ⟨by rw [l5, lc]; simp [hl], fun j u eu => ?_⟩ (by omega)
              have hj := (List.getElem?_eq_some_iff.mp eu).1
              rw [FoQ.co_map, if_pos (by omega)]
              exact hu j u eu
          · obtain ⟨s4, us, e4, l4, hu⟩ := h
            have sA : Same H H4 := s1.trans (s2.trans s4)
            refine ⟨D3, us, tmul m k, rfl, SqL.of e4, by rw [l4, lr, e3.1]; unfold tmul; rw [tab_len], by rw [l4, lr, e3.1]; omega, fun j v ev => ?_, fun p H5 np s5 hT => q p H5 (sA.free np) (sA.trans s5) hT⟩
            have hj := (List.getElem?_eq_some_iff.mp ev).1
            rw [l4, lr, e3.1] at hj
            obtain ⟨q1, us1, e1', _, g1, g2⟩ := hu j v ev
            unfold tmul
            rw [tab_row hj]
            exact ⟨q1, us1, e1', .inl g1, g2⟩
end

end Fo

set_option maxHeartbeats 4100000
namespace Fo
open PySem PySem.Spec PyProof.Rows L2
/-! ### what a table sends -/
def spBeam (K : PySem.W.Frag) : Sp := fun vs H Q _ => ∃ (a : Addr) (m : Int) (ws : List V) (l : List Rat), vs = [.ref a, .int m] ∧ SqHere H a ws ∧ Ls (Rn K) H ws l ∧ (ws.length : Int) = m ∧ ws.length ≤ 1000 ∧ ∀ p H' us, H p = none → Same H H' → H' p = some (.lst us) → Ls (Rr K) H' us l → Q (.ref p) H'
def sentQ (m : List (List Rat)) (l : List Rat) : List Rat := (List.range m.length).map fun i => dotQ (m.getD i []) l m.length
def spSent (K : PySem.W.Frag) : Sp := fun vs H Q _ => ∃ (a b : Addr) (ws : List V) (m : List (List Rat)) (l : List Rat), vs = [.ref a, .ref b] ∧ TabAt K H a m ∧ Sqr m ∧ AllE 40 m ∧ SqHere H b ws ∧ Ls (Rn K) H ws l ∧ l.length = m.length ∧ AllSz 40 l ∧
  ∀ p H' us, H p = none → Same H H' → H' p = some (.lst us) → Ls (Rr K) H' us (sentQ m l) → Q (.ref p) H'
section
variable {P : Program} {w : World} {K : PySem.W.Frag} {mg : Str → Option Value} {base : Heap}
theorem ok_beam (T : Tx K mg) : FnOk P w K mg base CX0 4 (He.ga K "beam_of") T.fd_beam_of ["given", "many"] (spBeam K) := by
  refine T.F_beam_of.ok sc_beam_of (fun vs H Q E h => ?_) (fun cdv A outer s H vs Q E hr h => ?_)
  · obtain ⟨a, m, ws, l, rfl, _⟩ := h
    rfl
  · obtain ⟨a, m, ws, l, rfl, hS, hN, hm, hn, q⟩ := h
    refine ⟨_, (pss_cons (ps_if (pt_not (pt_val (pe_call (ok_hasn T) (hr.mono (by decide)) (by rfl) T.g_has_numbers T.F_has_numbers.kp T.b_has_numbers .nil pass0 (pa_cons (pv 0) (pa_cons (pv 1) pa_nil))))) (pss_one ps_never) pss_nil)
      (pss_one (ps_ret (pe_lc (own := [("item", 2)]) (g := gName 2) rfl sc_beam_of.nd (FoY.pi_or (pi_list (pv 0)) (pi_tup (pv 0))) (blkOk_by (own := [("item", 2)]) (N := ["given", "many", "item"]) (sc := defScope s_beam_of) (by decide +kernel)) (fun _ _ _ _ _ => (pg_name (i := 2) sc_beam_of.nd rfl (.inl rfl))) (fun _ _ _ _ _ => pts_nil) (fun _ _ _ _ _ => (pe_call (ok_asQ T) (hr.mono (by decide)) (by rfl) T.g_as_ratio T.F_as_ratio.kp T.b_as_ratio .nil pass0 (pa_cons (pv 2) pa_nil))))))), ?_⟩
    refine ⟨_, rfl, _, rfl, .ref a, m, rfl, .inl ⟨a, ws, _, rfl, hS, hN.nums, hn, fun H1 s1 => ?_⟩⟩
    rw [all_rep, decide_eq_true hm]
    refine ⟨true, rfl, iteF ?_⟩
    have hS1 := hS.same s1
    have hN1 : Ls (Rn K) H1 ws l := hN.nl (fun r => rn_solid r) (same_nl s1)
    have fin : ∀ (D : Addr) (H2 : Hp), H1 D = none → LInv (fun j => Rr K (FoQ.co l j)) H1 D ws.length H2 → Q (.ref D) H2 := fun D H2 nD h => by
      obtain ⟨s2, us, e2, el, hu⟩ := h
      exact q D H2 us (s1.free nD) (s1.trans s2) e2 ⟨by rw [el, hN.1], hu⟩
    rcases hS1 with hL | hT
    · refine .inl ⟨_, rfl, a, rfl, ⟨_, SqL.of hL⟩, fun D nD => ?_⟩
      refine lc_list (LInv (fun j => Rr K (FoQ.co l j)) H1 D) (LInv.start nD) (fun j H4 hj h4 => SqL.of (h4.1 _ _ hL)) (fun j w H4 ew h4 => ?_) (fun H4 h4 => fin D H4 nD h4)
      have hj := (List.getElem?_eq_some_iff.mp ew).1
      exact ⟨rfl, _, rfl, w, _, rfl, rn_solid _ (same_nl h4.1) (hN1.2 j w ew), fun b5 H5 s5 h5 => h4.next (fun j => rr_solid _) nD s5 ⟨b5, rfl, h5⟩ (by omega)⟩
    · refine .inr ⟨_, rfl, a, rfl, ⟨_, SqT.of hT⟩, fun D nD => ?_⟩
      refine lc_tup (LInv (fun j => Rr K (FoQ.co l j)) H1 D) (LInv.start nD) (fun j H4 hj h4 => SqT.of (h4.1 _ _ hT)) (fun j w H4 ew h4 => ?_) (fun H4 h4 => fin D H4 nD h4)
      have hj := (List.getElem?_eq_some_iff.mp ew).1
      exact ⟨rfl, _, rfl, w, _, rfl, rn_solid _ (same_nl h4.1) (hN1.2 j w ew), fun b5 H5 s5 h5 => h4.next (fun j => rr_solid _) nD s5 ⟨b5, rfl, h5⟩ (by omega)⟩
theorem ok_Tsent (T : Tx K mg) : FnOk P w K mg base CX0 6 (He.ma K (He.ga K "Table") "sent") T.fd_Table_sent ["self", "beam"] (spSent K) := by
  refine T.F_Table_sent.ok sc_Table_sent (fun vs H Q E h => ?_) (fun cdv A outer s H vs Q E hr h => ?_)
  · obtain ⟨a, b, ws, m, l, rfl, _⟩ := h
    rfl
  · obtain ⟨a, b, ws, m, l, rfl, hA, ⟨h1, h8, sm⟩, zm, hS, hN, hl, zl, q⟩ := h
    refine ⟨_, (pss_cons (ps_set (i := 2) sc_Table_sent.nd rfl (.inr rfl) (pe_call (ok_beam T) (hr.mono (by decide)) (by rfl) T.g_beam_of T.F_beam_of.kp T.b_beam_of .nil pass0 (pa_cons (pv 1) (pa_cons (pe_callB call_len_seq (by rfl) T.z_len PySem.boot_len (pa_cons (pe_fld (pv 0) rfl) pa_nil)) pa_nil))))
      (pss_one (ps_ret (pe_lc (own := [("row", 3)]) (g := gName 3) rfl sc_Table_sent.nd (pi_tup (pe_fld (pv 0) rfl)) (blkOk_by (own := [("row", 3)]) (N := ["self", "beam", "numbers", "row"]) (sc := defScope s_Table_sent) (by decide +kernel)) (fun _ _ _ _ _ => (pg_name (i := 3) sc_Table_sent.nd rfl (.inl rfl))) (fun _ _ _ _ _ => pts_nil) (fun _ _ _ _ _ => (pe_call (ok_inner T) (hr.mono (by decide)) (by rfl) T.g_inner T.F_inner.kp T.b_inner .nil pass0 (pa_cons (pv 3) (pa_cons (pv 2) pa_nil)))))))), ?_⟩
    obtain ⟨dx, t, rs, e1, e2, e3⟩ := id hA
    refine ⟨_, rfl, _, rfl, a, _, dx, _, _, rfl, e1, T.cl_T, T.nR_T, tf_look _, t, rs, rfl, .inr (SqT.of e2), b, rs.length, ws, l, rfl, hS, hN, by rw [hN.1, hl, e3.1], by rw [hN.1, hl]; omega, fun p H1 us np s1 hp hu => ?_⟩
    refine ⟨_, rfl, a, _, dx, _, _, rfl, s1 _ _ e1, T.cl_T, T.nR_T, tf_look _, t, rfl, ⟨_, SqT.of (s1 _ _ e2)⟩, fun D nD => ?_⟩
    refine lc_tup (LInv (fun i => Rr K (dotQ (m.getD i []) l m.length)) H1 D) (LInv.start nD) (fun i H2 hi h => SqT.of (h.1 _ _ (s1 _ _ e2))) (fun i v H2 ev h => ?_) (fun H2 h => ?_)
    · have hi := (List.getElem?_eq_some_iff.mp ev).1
      rw [e3.1] at hi
      obtain ⟨b1, ws1, rfl, hb, hL⟩ := row_solid _ (same_nl (s1.trans h.1)) (e3.2 i v ev)
      have e9 : (m.getD i []).length = m.length := sm i hi
      refine ⟨rfl, _, rfl, _, rfl, b1, p, ws1, us, m.getD i [], l, rfl, .inr (SqT.of hb), .inl (SqL.of (h.1 _ _ hp)), hL, hu.nl rr_solid (same_nl h.1), zm i, zl, by rw [e9, hl], by rw [e9]; omega, fun r H6 nr s6 h6 => ?_⟩
      rw [e9] at h6
      exact h.next (fun j => rr_solid _) nD s6 ⟨r, rfl, h6⟩ (by omega)
    · obtain ⟨s2, us2, e4, l4, hu2⟩ := h
      refine q D H2 us2 (s1.free nD) (s1.trans s2) e4 ⟨by rw [l4, e3.1]; simp [sentQ], fun j u eu => ?_⟩
      have hj := (List.getElem?_eq_some_iff.mp eu).1
      rw [l4, e3.1] at hj
      unfold sentQ
      rw [FoQ.co_map, if_pos hj]
      exact hu2 j u eu
end

end Fo

set_option maxHeartbeats 4100000
namespace Fo
open PySem PySem.Spec PyProof.Rows L2
/-! ### sums of tables -/
theorem LInv.nextB {R : Nat → Hp → V → Prop} {H1 H H4 : Hp} {D : Addr} {i : Nat} {v : V} (h : LInv R H1 D i H) (hs : ∀ (j : Nat) {G G' : Hp} {acc : List V} {u : V}, G D = some (.lst acc) → But D G G' → R j G u → R j G' u) (nD : H1 D = none) (s : Same H H4) (hv : R i H4 v) (hi : i < 100000) :
    ∃ acc, H4 D = some (.lst acc) ∧ acc.length < sizeLine ∧ LInv R H1 D (i + 1) (upd H4 D (.lst (acc ++ [v]))) := by
  obtain ⟨s1, ws, e, el, hw⟩ := h
  have e4 := s _ _ e
  refine ⟨ws, e4, by rw [el, sizeLine_eq]; omega, same_set (s1.trans s) nD, ws ++ [v], upd_same, by simp [el], fun j u q => ?_⟩
  rw [List.getElem?_append] at q
  split at q
  · exact hs j e4 But.upd (hs j e (But.of_same s) (hw j u q))
  · rename_i hj
    have ej : j = i := by
      cases q1 : j - ws.length with
      | zero => omega
      | succ n =>
        rw [q1] at q
        simp at q
    subst ej
    rw [← el, Nat.sub_self] at q
    cases q
    exact hs _ e4 But.upd hv
/-- at q: a new list of pairs of Ratios -/
def PairsAt (K : PySem.W.Frag) (H : Hp) (q : Addr) (l k : List Rat) : Prop := ∃ ws, H q = some (.lst ws) ∧ ws.length = l.length ∧ ∀ (j : Nat) (v : V), ws[j]? = some v → ∃ t x y, v = .ref t ∧ H t = some (.tup [x, y]) ∧ Rr K (FoQ.co l j) H x ∧ Rr K (FoQ.co k j) H y
theorem PairsAt.but {K : PySem.W.Frag} {G G' : Hp} {D q : Addr} {acc : List V} {l k : List Rat} (h : PairsAt K G q l k) (hD : G D = some (.lst acc)) (b : But D G G') (n : q ≠ D) : PairsAt K G' q l k := by
  obtain ⟨ws, e, el, hw⟩ := h
  have s := NLst.but hD b
  refine ⟨ws, b _ _ e n, el, fun j v ev => ?_⟩
  obtain ⟨t, x, y, e1, e2, e3, e4⟩ := hw j v ev
  exact ⟨t, x, y, e1, s _ _ e2 (fun xs z => by cases z), rr_solid _ s e3, rr_solid _ s e4⟩
theorem PairsAt.same {K : PySem.W.Frag} {G G' : Hp} {q : Addr} {l k : List Rat} (h : PairsAt K G q l k) (s : Same G G') : PairsAt K G' q l k := by
  obtain ⟨ws, e, el, hw⟩ := h
  refine ⟨ws, s _ _ e, el, fun j v ev => ?_⟩
  obtain ⟨t, x, y, e1, e2, e3, e4⟩ := hw j v ev
  exact ⟨t, x, y, e1, s _ _ e2, rr_solid _ (same_nl s) e3, rr_solid _ (same_nl s) e4⟩
def RowsP (K : PySem.W.Frag) (m k : List (List Rat)) (D : Addr) (j : Nat) (H : Hp) (v : V) : Prop := ∃ q, v = .ref q ∧ q ≠ D ∧ PairsAt K H q (m.getD j []) (k.getD j [])
def spBoth (K : PySem.W.Frag) : Sp := fun vs H Q _ => ∃ (a b : Addr) (m k : List (List Rat)), vs = [.ref a, .ref b] ∧ TabAt K H a m ∧ TabAt K H b k ∧ Sqr m ∧ Sqr k ∧ m.length = k.length ∧
  ∀ p H' ws, H p = none → Same H H' → H' p = some (.lst ws) → ws.length = m.length → (∀ (j : Nat) (v : V), ws[j]? = some v → RowsP K m k p j H' v) → Q (.ref p) H'
section
variable {P : Program} {w : World} {K : PySem.W.Frag} {mg : Str → Option Value} {base : Heap}
theorem ok_both (T : Tx K mg) : FnOk P w K mg base CX0 4 (He.ga K "_items_of_both") T.fd_items_of_both ["one", "other"] (spBoth K) := by
  refine T.F_items_of_both.ok sc_items_of_both (fun vs H Q E h => ?_) (fun cdv A outer s H vs Q E hr h => ?_)
  · obtain ⟨a, b, m, k, rfl, _⟩ := h
    rfl
  · obtain ⟨a, b, m, k, rfl, hA, hB, ⟨h1, h8, sm⟩, ⟨k1, k8, sk⟩, hl, q⟩ := h
    refine ⟨_, (pss_cons (ps_expr (pe_call (ok_chk T) (hr.mono (by decide)) (by rfl) T.g_check_lengths T.F_check_lengths.kp T.b_check_lengths .nil pass0 (pa_cons (pv 0) (pa_cons (pv 1) pa_nil))))
      (pss_one (ps_ret (pe_lc (own := [("row", 2), ("behind", 3)])  rfl sc_items_of_both.nd (pi_zip (by rfl) T.z_zip (pa_cons (pe_meth0 (pv 0) T.cl_T T.mT_rows (ok_Trows T) (hr.mono (by decide)) T.b_Table_rows .nil pass0) (pa_cons (pe_meth0 (pv 1) T.cl_T T.mT_rows (ok_Trows T) (hr.mono (by decide)) T.b_Table_rows .nil pass0) pa_nil))) (blkOk_by (own := [("row", 2), ("behind", 3)]) (N := ["one", "other", "row", "behind"]) (sc := defScope s_items_of_both) (by decide +kernel)) (fun _ _ _ _ _ => (FoK.pg_tupK (K' := K) (n := 2) rfl (by rfl) (pgs_cons (pg_name (i := 2) sc_items_of_both.nd rfl (.inl rfl)) (pgs_cons (pg_name (i := 3) sc_items_of_both.nd rfl (.inl rfl)) pgs_nil)))) (fun _ _ _ _ _ => pts_nil) (fun _ _ _ _ _ => (FoU.pe_lz2 rfl rfl (by rfl) T.z_list (by rfl) T.z_zip (pa_cons (pv 2) (pa_cons (pv 3) pa_nil)))))))), ?_⟩
    refine ⟨_, rfl, _, rfl, a, b, m, k, rfl, hA, hB, hl, by omega, ?_⟩
    obtain ⟨dx, t, rs, e1, e2, e3⟩ := id hA
    refine ⟨_, rfl, a, dx, _, rfl, e1, rfl, a, m, rfl, hA, fun p1 H1 r1 n1 s1 hp1 hr1 => ?_⟩
    have hB1 := hB.same s1
    obtain ⟨dy, t2, rs2, f1, f2, f3⟩ := id hB1
    refine ⟨_, rfl, b, dy, _, rfl, f1, rfl, b, k, rfl, hB1, fun p2 H2 r2 n2 s2 hp2 hr2 => ?_⟩
    have s12 := s1.trans s2
    have hp1' := s2 _ _ hp1
    have hr1' := hr1.nl (same_nl s2)
    refine ⟨p1, p2, r1, r2, rfl, SqL.of hp1', SqL.of hp2, fun D nD => ?_⟩
    refine lc_it (walk_zip (n := m.length) (by rw [hr1.1, hr2.1, hl]; omega)) (LInv (RowsP K m k D) H2 D) (LInv.start nD) (fun i H3 hi h => ⟨SqL.of (h.1 _ _ hp1'), SqL.of (h.1 _ _ hp2)⟩) (fun i x H3 H4 hi h y => ?_) (fun H3 h => ?_)
    · obtain ⟨t4, v1, v2, rfl, nt, rfl, g1, g2⟩ := y
      have s4 := Same.upd nt (o := .tup [v1, v2])
      obtain ⟨b1, ws1, rfl, c1, L1⟩ := row_solid _ (same_nl (h.1.trans s4)) (hr1'.2 i v1 g1)
      obtain ⟨b2, ws2, rfl, c2, L2⟩ := row_solid _ (same_nl (h.1.trans s4)) (hr2.2 i v2 g2)
      have l1 : ws1.length = m.length := L1.1.trans (sm i hi)
      have l2 : ws2.length = m.length := L2.1.trans ((sk i (by omega)).trans hl.symm)
      have ht4 : upd H3 t4 (.tup [V.ref b1, V.ref b2]) t4 = some (.tup [V.ref b1, V.ref b2]) := upd_same
      generalize upd H3 t4 (.tup [V.ref b1, V.ref b2]) = G at *
      have cc1 : colOf G b1 = ws1 := by unfold colOf; rw [c1]
      have cc2 : colOf G b2 = ws2 := by unfold colOf; rw [c2]
      refine ⟨t4, _, rfl, SqT.of ht4, rfl, _, _, rfl, _, _, rfl, rfl, ?_⟩
      refine ⟨rfl, _, rfl, _, rfl, b1, b2, rfl, colOf G, m.length, fun y hy => ?_, by show 2 ≤ 1000; decide, by omega, fun q1 H5 acc nq sm5 hq hal hz => ?_⟩
      · rcases List.mem_cons.mp hy with rfl | hy
        · rw [cc1]; exact ⟨l1, SqT.of c1⟩
        · rcases List.mem_cons.mp hy with rfl | hy
          · rw [cc2]; exact ⟨l2, SqT.of c2⟩
          · cases hy
      · have s5 : Same G H5 := sm5
        have qD : q1 ≠ D := fun z => by
          obtain ⟨_, ws9, e9, _⟩ := h
          rw [z, s4 _ _ e9] at nq
          cases nq
        refine h.nextB (fun j {G G' acc u} hD bt hR => ?_) nD (s4.trans s5) ⟨q1, rfl, qD, acc, hq, ?_, fun j v ev => ?_⟩ (by omega)
        · obtain ⟨q3, e3, n3, hP⟩ := hR
          exact ⟨q3, e3, n3, hP.but hD bt n3⟩
        · rw [hal, sm i hi]
        · obtain ⟨t6, vals, rfl, ht6, lv, cv⟩ := hz j v ev
          have lv2 : vals.length = 2 := lv
          obtain ⟨x, y, rfl⟩ : ∃ x y, vals = [x, y] := by
            match vals, lv2 with
            | [x, y], _ => exact ⟨x, y, rfl⟩
          have hx := cv 0 b1 x rfl rfl
          have hy := cv 1 b2 y rfl rfl
          rw [cc1] at hx
          rw [cc2] at hy
          exact ⟨t6, x, y, rfl, ht6, rr_solid _ (same_nl s5) (L1.2 j x hx), rr_solid _ (same_nl s5) (L2.2 j y hy)⟩
    · obtain ⟨s3, us, e3, el, hu⟩ := h
      exact q D H3 us (s12.free nD) (s12.trans s3) e3 el hu
end

end Fo

set_option maxHeartbeats 4100000
namespace Fo
open PySem PySem.Spec PyProof.Rows L2
/-! ### sums, differences, traces -/
def tzip (f : Rat → Rat → Rat) (m k : List (List Rat)) : List (List Rat) := tab m.length fun i j => f (ent m i j) (ent k i j)
section
variable {P : Program} {w : World} {K : PySem.W.Frag} {mg : Str → Option Value} {base : Heap}
theorem ok_Tadd (T : Tx K mg) : FnOk P w K mg base CX0 7 (He.ma K (He.ga K "Table") "__add__") T.fd_Table_add ["self", "other"] (spT2 K (tzip (· + ·))) := by
  refine T.F_Table_add.ok sc_Table_add (fun vs H Q E h => ?_) (fun cdv A outer s H vs Q E hr h => ?_)
  · obtain ⟨a, b, m, k, rfl, _⟩ := h
    rfl
  · obtain ⟨a, b, m, k, rfl, hA, hB, ⟨h1, h8, sm⟩, ⟨k1, k8, sk⟩, hl, zm, zk, q⟩ := h
    refine ⟨_, (pss_one (ps_ret (pe_call (ok_made T) (hr.mono (by decide)) (by rfl) T.g_made_table T.F_made_table.kp T.b_made_table .nil pass0 (pa_cons (pe_lc (own := [("pairs", 2)]) (g := gName 2) rfl sc_Table_add.nd (pi_list (pe_call (ok_both T) (hr.mono (by decide)) (by rfl) T.g_items_of_both T.F_items_of_both.kp T.b_items_of_both .nil pass0 (pa_cons (pv 0) (pa_cons (pv 1) pa_nil)))) (blkOk_by (own := [("pairs", 2)]) (N := ["self", "other", "pairs", "left", "right"]) (sc := defScope s_Table_add) (by decide +kernel)) (fun _ _ _ _ _ => (pg_name (i := 2) sc_Table_add.nd rfl (.inl rfl))) (fun _ _ _ _ _ => pts_nil) (fun _ _ _ _ _ => (pe_lc (own := [("left", 3), ("right", 4)])  rfl sc_Table_add.nd (FoK.pi_listK (K' := K) (by rfl) (pv 2)) (blkOk_by (own := [("left", 3), ("right", 4)]) (N := ["self", "other", "pairs", "left", "right"]) (sc := _) (by kernel_rfl)) (fun _ _ _ _ _ => (FoK.pg_tupK (K' := K) (n := 2) rfl (by rfl) (pgs_cons (pg_name (i := 3) sc_Table_add.nd rfl (.inl rfl)) (pgs_cons (pg_name (i := 4) sc_Table_add.nd rfl (.inl rfl)) pgs_nil)))) (fun _ _ _ _ _ => pts_nil) (fun _ _ _ _ _ => (pe_op (FoA.op_own (ok_addQ T) (hr.mono (by decide)) T.b_Ratio_add pass0 T.bi_add FoN.int_add FoN.int_addR) (pv 3) (pv 4)))))) pa_nil)))), ?_⟩
    refine ⟨_, rfl, _, rfl, a, b, m, k, rfl, hA, hB, ⟨h1, h8, sm⟩, ⟨k1, k8, sk⟩, hl, fun p1 H1 ws np1 s1 hp1 lw hw => ?_⟩
    refine ⟨p1, rfl, ⟨_, SqL.of hp1⟩, fun D nD => ?_⟩
    refine lc_list (GInv K (fun i => (List.range m.length).map fun j => ent m i j + ent k i j) H1 D) (GInv.start nD) (fun i H2 hi h => SqL.of (h.1 _ _ hp1)) (fun i v H2 ev h => ?_) (fun H2 h => ?_)
    · have hi := (List.getElem?_eq_some_iff.mp ev).1
      rw [lw] at hi
      obtain ⟨q2, rfl, _, hP⟩ := hw i v ev
      obtain ⟨ps, eq, lq, hq⟩ := hP.same h.1
      have lq2 : ps.length = m.length := lq.trans (sm i hi)
      refine ⟨rfl, _, rfl, q2, rfl, ⟨_, SqL.of eq⟩, fun D2 nD2 => ?_⟩
      refine lc_list (LInv (fun j => Rr K (ent m i j + ent k i j)) H2 D2) (LInv.start nD2) (fun j H3 hj h3 => SqL.of (h3.1 _ _ eq)) (fun j u H3 eu h3 => ?_) (fun H3 h3 => ?_)
      · have hj := (List.getElem?_eq_some_iff.mp eu).1
        obtain ⟨t4, x, y, rfl, ht4, hx, hy⟩ := hq j u eu
        obtain ⟨bx, rfl, gx⟩ := rr_solid _ (same_nl h3.1) hx
        obtain ⟨by', rfl, gy⟩ := rr_solid _ (same_nl h3.1) hy
        obtain ⟨dx, gx'⟩ := id gx
        obtain ⟨dy, gy'⟩ := id gy
        refine ⟨t4, _, rfl, SqT.of (h3.1 _ _ ht4), rfl, _, _, rfl, _, _, rfl, rfl, ?_⟩
        refine ⟨rfl, _, rfl, _, rfl, bx, dx, _, rfl, gx', .inr ⟨by', dy, _, rfl, gy'⟩, bx, .ref by', _, _, rfl, gx, .inl ⟨by', rfl, gy⟩, trivial, (zm i j).mono (by decide), (zk i j).mono (by decide), fun p5 H5 np5 s5 h5 => ?_⟩
        exact h3.next (fun j => rr_solid _) nD2 s5 ⟨p5, rfl, h5⟩ (by omega)
      · obtain ⟨s5, us, e5, l5, hu⟩ := h3
        refine h.next nD s5 nD2 e5 ⟨by rw [l5, lq2]; simp, fun j u eu => ?_⟩ (by omega)
        have hj := (List.getElem?_eq_some_iff.mp eu).1
        rw [FoQ.co_map, if_pos (by omega)]
        exact hu j u eu
    · obtain ⟨s4, us, e4, l4, hu⟩ := h
      have sA := s1.trans s4
      refine ⟨D, us, tzip (· + ·) m k, rfl, SqL.of e4, by rw [l4, lw]; unfold tzip; rw [tab_len], by rw [l4, lw]; omega, fun j v ev => ?_, fun p H5 np s5 hT => q p H5 (sA.free np) (sA.trans s5) hT⟩
      have hj := (List.getElem?_eq_some_iff.mp ev).1
      rw [l4, lw] at hj
      obtain ⟨q1, us1, e1', _, g1, g2⟩ := hu j v ev
      unfold tzip
      rw [tab_row hj]
      exact ⟨q1, us1, e1', .inl g1, g2⟩

theorem ok_Tsub (T : Tx K mg) : FnOk P w K mg base CX0 7 (He.ma K (He.ga K "Table") "__sub__") T.fd_Table_sub ["self", "other"] (spT2 K (tzip (· - ·))) := by
  refine T.F_Table_sub.ok sc_Table_sub (fun vs H Q E h => ?_) (fun cdv A outer s H vs Q E hr h => ?_)
  · obtain ⟨a, b, m, k, rfl, _⟩ := h
    rfl
  · obtain ⟨a, b, m, k, rfl, hA, hB, ⟨h1, h8, sm⟩, ⟨k1, k8, sk⟩, hl, zm, zk, q⟩ := h
    refine ⟨_, (pss_one (ps_ret (pe_call (ok_made T) (hr.mono (by decide)) (by rfl) T.g_made_table T.F_made_table.kp T.b_made_table .nil pass0 (pa_cons (pe_lc (own := [("pairs", 2)]) (g := gName 2) rfl sc_Table_sub.nd (pi_list (pe_call (ok_both T) (hr.mono (by decide)) (by rfl) T.g_items_of_both T.F_items_of_both.kp T.b_items_of_both .nil pass0 (pa_cons (pv 0) (pa_cons (pv 1) pa_nil)))) (blkOk_by (own := [("pairs", 2)]) (N := ["self", "other", "pairs", "left", "right"]) (sc := defScope s_Table_sub) (by decide +kernel)) (fun _ _ _ _ _ => (pg_name (i := 2) sc_Table_sub.nd rfl (.inl rfl))) (fun _ _ _ _ _ => pts_nil) (fun _ _ _ _ _ => (pe_lc (own := [("left", 3), ("right", 4)])  rfl sc_Table_sub.nd (FoK.pi_listK (K' := K) (by rfl) (pv 2)) (blkOk_by (own := [("left", 3), ("right", 4)]) (N := ["self", "other", "pairs", "left", "right"]) (sc := _) (by kernel_rfl)) (fun _ _ _ _ _ => (FoK.pg_tupK (K' := K) (n := 2) rfl (by rfl) (pgs_cons (pg_name (i := 3) sc_Table_sub.nd rfl (.inl rfl)) (pgs_cons (pg_name (i := 4) sc_Table_sub.nd rfl (.inl rfl)) pgs_nil)))) (fun _ _ _ _ _ => pts_nil) (fun _ _ _ _ _ => (pe_op (FoA.op_own (ok_subQ T) (hr.mono (by decide)) T.b_Ratio_sub pass0 T.bi_sub FoN.int_sub FoN.int_subR) (pv 3) (pv 4)))))) pa_nil)))), ?_⟩
    refine ⟨_, rfl, _, rfl, a, b, m, k, rfl, hA, hB, ⟨h1, h8, sm⟩, ⟨k1, k8, sk⟩, hl, fun p1 H1 ws np1 s1 hp1 lw hw => ?_⟩
    refine ⟨p1, rfl, ⟨_, SqL.of hp1⟩, fun D nD => ?_⟩
    refine lc_list (GInv K (fun i => (List.range m.length).map fun j => ent m i j - ent k i j) H1 D) (GInv.start nD) (fun i H2 hi h => SqL.of (h.1 _ _ hp1)) (fun i v H2 ev h => ?_) (fun H2 h => ?_)
    · have hi := (List.getElem?_eq_some_iff.mp ev).1
      rw [lw] at hi
      obtain ⟨q2, rfl, _, hP⟩ := hw i v ev
      obtain ⟨ps, eq, lq, hq⟩ := hP.same h.1
      have lq2 : ps.length = m.length := lq.trans (sm i hi)
      refine ⟨rfl, _, rfl, q2, rfl, ⟨_, SqL.of eq⟩, fun D2 nD2 => ?_⟩
      refine lc_list (LInv (fun j => Rr K (ent m i j - ent k i j)) H2 D2) (LInv.start nD2) (fun j H3 hj h3 => SqL.of (h3.1 _ _ eq)) (fun j u H3 eu h3 => ?_) (fun H3 h3 => ?_)
      · have hj := (List.getElem?_eq_some_iff.mp eu).1
        obtain ⟨t4, x, y, rfl, ht4, hx, hy⟩ := hq j u eu
        obtain ⟨bx, rfl, gx⟩ := rr_solid _ (same_nl h3.1) hx
        obtain ⟨by', rfl, gy⟩ := rr_solid _ (same_nl h3.1) hy
        obtain ⟨dx, gx'⟩ := id gx
        obtain ⟨dy, gy'⟩ := id gy
        refine ⟨t4, _, rfl, SqT.of (h3.1 _ _ ht4), rfl, _, _, rfl, _, _, rfl, rfl, ?_⟩
        refine ⟨rfl, _, rfl, _, rfl, bx, dx, _, rfl, gx', .inr ⟨by', dy, _, rfl, gy'⟩, bx, .ref by', _, _, rfl, gx, .inl ⟨by', rfl, gy⟩, trivial, (zm i j).mono (by decide), (zk i j).mono (by decide), fun p5 H5 np5 s5 h5 => ?_⟩
        exact h3.next (fun j => rr_solid _) nD2 s5 ⟨p5, rfl, h5⟩ (by omega)
      · obtain ⟨s5, us, e5, l5, hu⟩ := h3
        refine h.next nD s5 nD2 e5 ⟨by rw [l5, lq2]; simp, fun j u eu => ?_⟩ (by omega)
        have hj := (List.getElem?_eq_some_iff.mp eu).1
        rw [FoQ.co_map, if_pos (by omega)]
        exact hu j u eu
    · obtain ⟨s4, us, e4, l4, hu⟩ := h
      have sA := s1.trans s4
      refine ⟨D, us, tzip (· - ·) m k, rfl, SqL.of e4, by rw [l4, lw]; unfold tzip; rw [tab_len], by rw [l4, lw]; omega, fun j v ev => ?_, fun p H5 np s5 hT => q p H5 (sA.free np) (sA.trans s5) hT⟩
      have hj := (List.getElem?_eq_some_iff.mp ev).1
      rw [l4, lw] at hj
      obtain ⟨q1, us1, e1', _, g1, g2⟩ := hu j v ev
      unfold tzip
      rw [tab_row hj]
      exact ⟨q1, us1, e1', .inl g1, g2⟩

def sumQ (f : Nat → Rat) : Nat → Rat
  | 0 => 0
  | n + 1 => sumQ f n + f n
def ttr (m : List (List Rat)) : Rat := sumQ (fun i => ent m i i) m.length
theorem sumQ_sz {n : Nat} {f : Nat → Rat} (h : ∀ i, FoQ.SzR n (f i)) : ∀ k, FoQ.SzR ((n + 1) * k + 1) (sumQ f k)
  | 0 => FoQ.SzR.zero (by omega)
  | k + 1 => ((sumQ_sz h k).add (h k)).mono (by rw [Nat.mul_add]; omega)
def spTTr (K : PySem.W.Frag) : Sp := fun vs H Q _ => ∃ (a : Addr) (m : List (List Rat)), vs = [.ref a] ∧ TabAt K H a m ∧ Sqr m ∧ AllE 40 m ∧ ∀ p H', Same H H' → RtAt K H' p (ttr m) → Q (.ref p) H'
theorem ok_Ttrace (T : Tx K mg) : FnOk P w K mg base CX0 5 (He.ma K (He.ga K "Table") "trace") T.fd_Table_trace ["self"] (spTTr K) := by
  refine T.F_Table_trace.ok sc_Table_trace (fun vs H Q E h => ?_) (fun cdv A outer s H vs Q E hr h => ?_)
  · obtain ⟨a, m, rfl, _⟩ := h
    rfl
  · obtain ⟨a, m, rfl, hA, ⟨h1, h8, sm⟩, zm, q⟩ := h
    obtain ⟨ds, vd, bd⟩ := bind_init1 T
    refine ⟨_, (pss_cons (ps_set (i := 1) sc_Table_trace.nd rfl (.inl rfl) (pe_make T.mk_R (ok_initQ T) (hr.mono (by decide)) (by rfl) T.c_Ratio bd vd pass0 (pa_cons pe_int pa_nil)))
      (pss_cons (ps_for PassesOwn.never rfl (FoW.pi_enumT (by rfl) T.z_enumerate (pa_cons (pe_fld (pv 0) rfl) pa_nil)) (pg_tup (by rfl) (pgs_cons (pg_name (i := 2) sc_Table_trace.nd rfl (.inl rfl)) (pgs_cons (pg_name (i := 3) sc_Table_trace.nd rfl (.inl rfl)) pgs_nil))) (pss_one (ps_set (i := 1) sc_Table_trace.nd rfl (.inl rfl) (pe_op (FoA.op_own (ok_addQ T) (hr.mono (by decide)) T.b_Ratio_add pass0 T.bi_add FoN.int_add FoN.int_addR) (pv 1) (pe_ix ix_tup (pv 3) (pv 2) (fun _ _ => rfl))))))
      (pss_one (ps_ret (pv 1))))), ?_⟩
    refine rq_make (r := 0) (by decide) (sz_of 1000000 (by decide) (by decide) (by decide)) rfl fun p0 H0 np0 s0 h0 => ⟨rfl, ?_⟩
    have hA0 := hA.same s0
    obtain ⟨dx, t, rs, e1, e2, e3⟩ := id hA0
    refine ⟨_, rfl, a, _, dx, _, _, rfl, e1, T.cl_T, T.nR_T, tf_look _, t, rs, rfl, SqT.of e2, ?_⟩
    refine for_it FoW.walk_enumT (fun i σ H' => Same H0 H' ∧ ∃ f o1 o2, σ = [some (.ref a), some (.ref f), o1, o2] ∧ RtAt K H' f (sumQ (fun i => ent m i i) i)) ⟨Same.refl _, p0, _, _, rfl, h0⟩ (fun i σ H' hi h => SqT.of (h.1 _ _ e2)) (fun i x σ H1 H2 hi h y => ?_) (fun σ H' h => ?_)
    · obtain ⟨s1, f, o1, o2, rfl, hf⟩ := h
      obtain ⟨t4, v1, v2, rfl, nt, rfl, g1, g2⟩ := y
      cases g1
      have s4 := Same.upd nt (o := .tup [.int (i : Nat), v2])
      rw [e3.1] at hi
      obtain ⟨b1, ws, rfl, hb, hL⟩ := row_solid _ (same_nl (s1.trans s4)) (e3.2 i v2 g2)
      have li : i < (m.getD i []).length := by rw [sm i hi]; exact hi
      obtain ⟨v3, ev3, b3, rfl, hb3⟩ := hL.at_ li
      have hf4 := hf.same s4
      obtain ⟨df, hf5⟩ := id hf4
      obtain ⟨d3, hb4⟩ := id hb3
      have z1 := sumQ_sz (fun i => zm i i) i
      refine ⟨t4, _, rfl, SqT.of upd_same, rfl, _, _, rfl, _, _, rfl, rfl, _, rfl, _, rfl, _, rfl, b1, _, i, _, rfl, rfl, SqT.of hb, atI_nat ev3, ?_⟩
      refine ⟨f, df, _, rfl, hf5, .inr ⟨b3, d3, _, rfl, hb4⟩, f, .ref b3, _, _, rfl, hf4, .inl ⟨b3, rfl, hb3⟩, trivial, z1.mono (by have : 41 * i ≤ 41 * 8 := Nat.mul_le_mul_left _ (by omega); omega), (zm i i).mono (by decide), fun p5 H5 np5 s5 h5 => ?_⟩
      exact ⟨s1.trans (s4.trans s5), p5, _, _, rfl, h5⟩
    · obtain ⟨s1, f, o1, o2, rfl, hf⟩ := h
      rw [e3.1] at hf
      exact ⟨_, rfl, q f H' (s0.trans s1) hf⟩
end

end Fo

set_option maxHeartbeats 4100000
/-! An operator by an own method that raises, what is raised wished for at the caller's slots. -/
namespace FoS
open PySem PySem.Spec PyProof.Rows L2
section
variable {X : Cx} {CX : CXT} {k : Nat} {f C : Addr} {fd : FuncData} {ps : List Str} {sp : Sp} {E : L2.St → XK} {op : Operator} {a b : Expr} {ta tb : TE} {pos : Pos}
def tOpS (C : Addr) (sp : Sp) (E : L2.St → XK) (ta tb : TE) : TE := fun σ H Q => ta σ H fun x H1 => tb σ H1 fun y H2 => ∃ a dx fs b dy gs, x = .ref a ∧ H2 a = some (.ins C dx fs) ∧ y = .ref b ∧ H2 b = some (.ins C dy gs) ∧ sp [x, y] H2 Q (E σ)
theorem pe_opS (F : FnOk X.prog X.w X.K X.mg X.base CX k f fd ps sp) (hr : Room k X.A) (hb : Binds X.K fd ps []) (hx : ∀ τ, PassesAt CX X τ (E τ)) (B : FoA.BinC X.K C f op) (ha : PE X a ta) (hb2 : PE X b tb) :
    PE X (.BinOp a op b pos) (tOpS C sp E ta tb) := by
  refine ⟨fun pins s σ H Q I h => ?_⟩
  refine wpAny_BinOp (binT ha hb2 I h fun v u s2 x y H2 I2 rx ry q => ?_)
  obtain ⟨a1, dx, fs, b1, dy, gs, rfl, ea, rfl, eb, q⟩ := q
  have rx' := rx
  have ry' := ry
  cases rx
  cases ry
  obtain ⟨mA, J, _⟩ := ins_get I2.hok ea
  obtain ⟨od, J, _⟩ := J.look
  obtain ⟨mB, J', _⟩ := ins_get I2.hok eb
  obtain ⟨od', J', _⟩ := J'.look
  obtain ⟨m, hF⟩ := I2.fr
  have call := run_fnS (us := [.ref a1, .ref b1]) (vs := [.ref a1, .ref b1]) F hr hb (hx σ) I2 (.cons rfl (.cons rfl .nil)) q
  have back := wpAny_mono call (fun r s' z => FoA.back_ok z) fun _ _ e => e
  exact PySem.W.binop_K hF I2.ok.mod.kin J J'.type B.sf B.at_ B.fn back
end
/-- nothing is raised -/
theorem passAt0 {X : Cx} {σ : L2.St} {E : XK} : PassesAt CX0 X σ E := fun _ _ _ _ _ _ h => h.elim
/-- a text times a number -/
theorem op_mulS {X : Cx} : OpR X (binaryOp .Mult) (fun x y H Q => ∃ (z : Str) (k : Int), x = .str z ∧ y = .int k ∧ z.length ≤ 16 ∧ 0 ≤ k ∧ k ≤ 1048576 ∧ ∀ z', Q (.str z') H) := by
  intro pz s τ H x y v u Q I rx ry h
  obtain ⟨z, k, rfl, rfl, hz, h0, h1, q⟩ := h
  obtain ⟨t, rfl⟩ := rx
  obtain ⟨t', rfl⟩ := ry
  exact PySem.W.KXi.mul rfl hz (by omega) h1 fun t' k' _ _ => ⟨.str _, H, I.tok _, ⟨_, rfl⟩, q _⟩
end FoS

set_option maxHeartbeats 4100000
namespace Fo
open PySem PySem.Spec PyProof.Rows L2
/-! ### equality, the unit table -/
theorem eqWs_rr {X : Cx} {H : Hp} {n : Nat} {fd : FuncData} (F : FnOk X.prog X.w X.K X.mg X.base CX0 2 (He.ma X.K (RC X.K) "__eq__") fd ["self", "other"] (spEqQ X.K)) (hr : Room (2 + n) X.A) (hb : Binds X.K fd ["self", "other"] []) (B : FoA.CmpC X.K (RC X.K) (He.ma X.K (RC X.K) "__eq__") .Eq) :
    ∀ {ws us : List V} {l m : List Rat}, Ls (Rr X.K) H ws l → Ls (Rr X.K) H us m → FoG.EqWs X n H ws us (decide (l = m))
  | [], [], l, m, h, g => by
    have e1 : l = [] := List.length_eq_zero_iff.mp h.1.symm
    have e2 : m = [] := List.length_eq_zero_iff.mp g.1.symm
    subst e1 e2
    exact .nil
  | v :: ws, [], l, m, h, g => by
    have e2 : m = [] := List.length_eq_zero_iff.mp g.1.symm
    subst e2
    cases l with
    | nil => exact absurd h.1 (by simp)
    | cons x l => exact .left
  | [], u :: us, l, m, h, g => by
    have e2 : l = [] := List.length_eq_zero_iff.mp h.1.symm
    subst e2
    cases m with
    | nil => exact absurd g.1 (by simp)
    | cons x l => exact .right
  | v :: ws, u :: us, [], m, h, g => absurd h.1 (by simp)
  | v :: ws, u :: us, x :: l, [], h, g => absurd g.1 (by simp)
  | v :: ws, u :: us, x :: l, z :: m, h, g => by
    obtain ⟨a, rfl, ha⟩ := h.2 0 v rfl
    obtain ⟨b, rfl, hb'⟩ := g.2 0 u rfl
    rw [FoQ.co_zero] at ha hb'
    have t := eqWs_rr F hr hb B (ws := ws) (us := us) (l := l) (m := m) ⟨by have := h.1; simpa using this, fun i w e => by have := h.2 (i + 1) w e; rwa [FoQ.co_succ] at this⟩ ⟨by have := g.1; simpa using this, fun i w e => by have := g.2 (i + 1) w e; rwa [FoQ.co_succ] at this⟩
    obtain ⟨d1, h1⟩ := id ha
    obtain ⟨d2, h2⟩ := id hb'
    have hd : FoG.EqW X n H (.ref a) (.ref b) (decide (x = z)) := FoG.eqW_own (E := E0) F hr hb pass0 B h1 h2 (fun e => by
      subst e
      rw [h1] at h2
      injection h2 with h2
      injection h2 with _ _ w
      have e1 : x.num = z.num := by
        have := rf_top x.num x.den
        rw [w, rf_top] at this
        exact (V.int.inj (Option.some.inj this)).symm
      have e2 : (x.den : Int) = z.den := by
        have := rf_bot x.num x.den
        rw [w, rf_bot] at this
        exact (V.int.inj (Option.some.inj this)).symm
      exact decide_eq_true ((FoQ.q_eq_iff x z).mp ⟨e1, e2⟩)) ⟨a, .ref b, x, rfl, ha, .inl ⟨z, hb'.nm, rfl, rfl⟩⟩
    have e : decide (x :: l = z :: m) = (decide (x = z) && decide (l = m)) := by
      by_cases e1 : x = z <;> by_cases e2 : l = m <;> simp [e1, e2]
    rw [e]
    exact .cons hd t
theorem rt_inj {K : PySem.W.Frag} {H : Hp} {a : Addr} {x z : Rat} (ha : RtAt K H a x) (hb : RtAt K H a z) : x = z := by
  obtain ⟨d1, h1⟩ := ha
  obtain ⟨d2, h2⟩ := hb
  rw [h1] at h2
  injection h2 with h2
  injection h2 with _ _ w
  have e1 : x.num = z.num := by
    have := rf_top x.num x.den
    rw [w, rf_top] at this
    exact (V.int.inj (Option.some.inj this)).symm
  have e2 : (x.den : Int) = z.den := by
    have := rf_bot x.num x.den
    rw [w, rf_bot] at this
    exact (V.int.inj (Option.some.inj this)).symm
  exact (FoQ.q_eq_iff x z).mp ⟨e1, e2⟩
theorem co_ext {l m : List Rat} (h : l.length = m.length) (g : ∀ i, i < l.length → FoQ.co l i = FoQ.co m i) : l = m := by
  refine List.ext_getElem? fun i => ?_
  by_cases c : i < l.length
  · have e := g i c
    unfold FoQ.co at e
    rw [List.getD_eq_getElem?_getD, List.getD_eq_getElem?_getD, List.getElem?_eq_getElem c, List.getElem?_eq_getElem (by omega)] at e
    rw [List.getElem?_eq_getElem c, List.getElem?_eq_getElem (by omega)]
    exact congrArg some e
  · rw [List.getElem?_eq_none (by omega), List.getElem?_eq_none (by omega)]
theorem ls_inj {K : PySem.W.Frag} {H : Hp} {ws : List V} {l m : List Rat} (h : Ls (Rr K) H ws l) (g : Ls (Rr K) H ws m) : l = m := by
  refine co_ext (h.1.symm.trans g.1) fun i hi => ?_
  obtain ⟨v, ev, a, rfl, ha⟩ := h.at_ hi
  obtain ⟨b, e, hb⟩ := g.2 i _ ev
  cases e
  exact rt_inj ha hb
theorem Rows.tl {K : PySem.W.Frag} {H : Hp} {v : V} {rs : List V} {l : List Rat} {m : List (List Rat)} (h : Rows K H (v :: rs) (l :: m)) : Rows K H rs m := ⟨by have := h.1; simpa using this, fun i w e => h.2 (i + 1) w e⟩
theorem eqWs_rows {X : Cx} {H : Hp} {n : Nat} {fd : FuncData} (F : FnOk X.prog X.w X.K X.mg X.base CX0 2 (He.ma X.K (RC X.K) "__eq__") fd ["self", "other"] (spEqQ X.K)) (hr : Room (2 + (n + 1)) X.A) (hb : Binds X.K fd ["self", "other"] []) (B : FoA.CmpC X.K (RC X.K) (He.ma X.K (RC X.K) "__eq__") .Eq) :
    ∀ {rs us : List V} {m k : List (List Rat)}, Rows X.K H rs m → Rows X.K H us k → FoG.EqWs X n H rs us (decide (m = k))
  | [], [], m, k, h, g => by
    have e1 : m = [] := List.length_eq_zero_iff.mp h.1.symm
    have e2 : k = [] := List.length_eq_zero_iff.mp g.1.symm
    subst e1 e2
    exact .nil
  | v :: ws, [], m, k, h, g => by
    have e2 : k = [] := List.length_eq_zero_iff.mp g.1.symm
    subst e2
    cases m with
    | nil => exact absurd h.1 (by simp)
    | cons x l => exact .left
  | [], u :: us, m, k, h, g => by
    have e2 : m = [] := List.length_eq_zero_iff.mp h.1.symm
    subst e2
    cases k with
    | nil => exact absurd g.1 (by simp)
    | cons x l => exact .right
  | v :: ws, u :: us, [], k, h, g => absurd h.1 (by simp)
  | v :: ws, u :: us, x :: l, [], h, g => absurd g.1 (by simp)
  | v :: ws, u :: us, x :: m, z :: k, h, g => by
    obtain ⟨a, w1, rfl, ha, L1⟩ := h.2 0 v rfl
    obtain ⟨b, w2, rfl, hb', L2⟩ := g.2 0 u rfl
    have t := eqWs_rows F hr hb B h.tl g.tl
    have hr1 : Room (2 + n + 1) X.A := hr
    have hd : FoG.EqW X n H (.ref a) (.ref b) (decide (x = z)) := FoG.eqW_tup (FoG.inN_room (k := 0) (n := n) (hr.mono (by omega))).units0 (SqT.of ha) (SqT.of hb') (eqWs_rr (n := n + 1) F hr hb B L1 L2) (fun e => by
      subst e
      rw [ha] at hb'
      cases hb'
      exact decide_eq_true (ls_inj L1 L2))
    have e : decide (x :: m = z :: k) = (decide (x = z) && decide (m = k)) := by
      by_cases e1 : x = z <;> by_cases e2 : m = k <;> simp [e1, e2]
    rw [e]
    exact .cons hd t
def spTEq (K : PySem.W.Frag) : Sp := fun vs H Q _ => ∃ (a : Addr) (y : V) (m : List (List Rat)), vs = [.ref a, y] ∧ TabAt K H a m ∧ ((∃ b k, y = .ref b ∧ TabAt K H b k ∧ Q (.bl (decide (m = k))) H) ∨ (∃ b r, y = .ref b ∧ RtAt K H b r ∧ Q (.bl false) H))
def spREqT (K : PySem.W.Frag) : Sp := fun vs H Q _ => ∃ (a b : Addr) (r : Rat) (m : List (List Rat)), vs = [.ref a, .ref b] ∧ RtAt K H a r ∧ TabAt K H b m ∧ Q (.bl false) H
def spWholeT (K : PySem.W.Frag) : Sp := fun vs H Q _ => ∃ (b : Addr) (m : List (List Rat)), vs = [.ref b] ∧ TabAt K H b m ∧ Q (.bl false) H
def tunit (n : Nat) : List (List Rat) := tab n fun i j => if i = j then 1 else 0
def spTUnit (K : PySem.W.Frag) : Sp := fun vs H Q _ => ∃ (n : Nat), vs = [.ref (TC K), .int n] ∧ n ≤ 8 ∧ ∀ p H', H p = none → Same H H' → TabAt K H' p (tunit n) → Q (.ref p) H'
section
variable {P : Program} {w : World} {K : PySem.W.Frag} {mg : Str → Option Value} {base : Heap}
theorem ok_Teq (T : Tx K mg) : FnOk P w K mg base CX0 6 (He.ma K (He.ga K "Table") "__eq__") T.fd_Table_eq ["self", "other"] (spTEq K) := by
  refine T.F_Table_eq.ok sc_Table_eq (fun vs H Q E h => ?_) (fun cdv A outer s H vs Q E hr h => ?_)
  · obtain ⟨a, y, x, rfl, _⟩ := h
    rfl
  · obtain ⟨a, y, x, rfl, ⟨dx, t, ws, e1, e2, e3⟩, h⟩ := h
    refine ⟨_, (pss_one (ps_ret (pe_and (pe_callB call_isi (by rfl) T.z_isinstance (by decide +kernel) (pa_cons (pv 1) (pa_cons (pe_glob (v := V.ref (He.ga K "Table")) (by rfl) T.c_Table rfl) pa_nil))) (pe_one (pe_cmpR (FoG.op_eqT (Nat.lt_of_succ_lt (hu_of hr))) (pe_fld (pv 0) rfl) (pe_fld (pv 1) rfl) (nomark _)))))), ?_⟩
    rcases h with ⟨b, z, rfl, ⟨dy, u, us, f1, f2, f3⟩, q⟩ | ⟨b, r, rfl, ⟨dy, hb⟩, q⟩
    · refine ⟨_, rfl, _, _, _, _, _, rfl, .own _, FoB.TyI T.is_T T.cl_T f1, FoB.kit_self, _, rfl, iteT ?_⟩
      refine ⟨_, rfl, a, _, dx, _, _, rfl, e1, T.cl_T, T.nR_T, tf_look _, _, rfl, b, _, dy, _, _, rfl, f1, T.cl_T, T.nR_T, tf_look _, ?_⟩
      exact ⟨t, u, ws, us, _, rfl, rfl, SqT.of e2, SqT.of f2, eqWs_rows (n := 1) (ok_eqQ T) (hr.mono (by decide)) T.b_Ratio_eq T.cm_eq e3 f3, q⟩
    · exact ⟨_, rfl, _, _, _, _, _, rfl, .own _, FoB.TyI T.is_R T.cl_R hb, T.kRT, _, rfl, iteF q⟩
theorem ok_wholeT (T : Tx K mg) : FnOk P w K mg base CX0 1 (He.ga K "is_whole") T.fd_is_whole ["given"] (spWholeT K) := by
  refine T.F_is_whole.ok sc_is_whole (fun vs H Q E h => ?_) (fun cdv A outer s H vs Q E hr h => ?_)
  · obtain ⟨y, m, rfl, _⟩ := h
    rfl
  · obtain ⟨y, m, rfl, ⟨dx, t, ws, e1, e2, e3⟩, q⟩ := h
    refine ⟨_, (pss_one (ps_ret (pe_and (pe_callB call_isi (by rfl) T.z_isinstance (by decide +kernel) (pa_cons (pv 0) (pa_cons (pe_bltn (v := V.ty "int") (u := Value.type "int") (by rfl) T.z_int (by decide +kernel) rfl) pa_nil))) (pe_one (pe_not (pe_callB call_isi (by rfl) T.z_isinstance (by decide +kernel) (pa_cons (pv 0) (pa_cons (pe_bltn (v := V.ty "bool") (u := Value.type "bool") (by rfl) T.z_bool (by decide +kernel) rfl) pa_nil)))))))), ?_⟩
    exact ⟨_, rfl, _, _, _, _, _, rfl, .ty _, FoB.TyI T.is_T T.cl_T e1, T.is_T.ki, _, rfl, iteF q⟩
theorem ok_ReqT (T : Tx K mg) : FnOk P w K mg base CX0 2 (He.ma K (He.ga K "Ratio") "__eq__") T.fd_Ratio_eq ["self", "other"] (spREqT K) := by
  refine T.F_Ratio_eq.ok sc_Ratio_eq (fun vs H Q E h => ?_) (fun cdv A outer s H vs Q E hr h => ?_)
  · obtain ⟨a, b, r, m, rfl, _⟩ := h
    rfl
  · obtain ⟨a, b, r, m, rfl, ha, hb, q⟩ := h
    refine ⟨_, (pss_cons (ps_if (pt_val (pe_callB call_isi (by rfl) T.z_isinstance (by decide +kernel) (pa_cons (pv 1) (pa_cons (pe_glob (v := V.ref (He.ga K "Ratio")) (by rfl) T.c_Ratio rfl) pa_nil)))) (pss_one (ps_ret (pe_and (pe_cmpR op_eq (pe_fld (pv 0) rfl) (pe_fld (pv 1) rfl) (nomark _)) (pe_one (pe_cmpR op_eq (pe_fld (pv 0) rfl) (pe_fld (pv 1) rfl) (nomark _)))))) pss_nil)
      (pss_one (ps_ret (pe_and (pe_call (ok_wholeT T) (hr.mono (by decide)) (by rfl) T.g_is_whole T.F_is_whole.kp T.b_is_whole .nil pass0 (pa_cons (pv 1) pa_nil)) (pe_and (pe_cmpR op_eq (pe_fld (pv 0) rfl) pe_int (nomark _)) (pe_one (pe_cmpR op_eq (pe_fld (pv 0) rfl) (pv 1) (nomark _)))))))), ?_⟩
    obtain ⟨dx, t, ws, e1, e2, e3⟩ := id hb
    refine ⟨_, rfl, _, _, _, _, _, rfl, .own _, FoB.TyI T.is_T T.cl_T e1, T.kTR, _, rfl, iteF ?_⟩
    exact ⟨_, rfl, b, m, rfl, hb, _, rfl, iteF q⟩
theorem ok_Tunit (T : Tx K mg) : FnOk P w K mg base CX0 7 (He5.wf K (He.ga K "Table") "classmethod" "unit") T.fd_Table_unit ["cls", "length"] (spTUnit K) := by
  refine T.F_Table_unit.ok sc_Table_unit (fun vs H Q E h => ?_) (fun cdv A outer s H vs Q E hr h => ?_)
  · obtain ⟨n, rfl, _⟩ := h
    rfl
  · obtain ⟨n, rfl, h8, q⟩ := h
    obtain ⟨ds, vd, bd⟩ := bind_init1 T
    refine ⟨_, (pss_one (ps_ret (pe_call (ok_made T) (hr.mono (by decide)) (by rfl) T.g_made_table T.F_made_table.kp T.b_made_table .nil pass0 (pa_cons (pe_lc (own := [("row", 2)]) (g := gName 2) rfl sc_Table_unit.nd (pi_range1 (by rfl) T.z_range (pa_cons (pv 1) pa_nil)) (blkOk_by (own := [("row", 2)]) (N := ["cls", "length", "row", "column"]) (sc := defScope s_Table_unit) (by decide +kernel)) (fun _ _ _ _ _ => (pg_name (i := 2) sc_Table_unit.nd rfl (.inr rfl))) (fun _ _ _ _ _ => pts_nil) (fun _ _ _ _ _ => (pe_lc (own := [("column", 3)]) (g := gName 3) rfl sc_Table_unit.nd (pi_range1 (by rfl) T.z_range (pa_cons (pv 1) pa_nil)) (blkOk_by (own := [("column", 3)]) (N := ["cls", "length", "row", "column"]) (sc := _) (by kernel_rfl)) (fun _ _ _ _ _ => (pg_name (i := 3) sc_Table_unit.nd rfl (.inl rfl))) (fun _ _ _ _ _ => pts_nil) (fun _ _ _ _ _ => (pe_make T.mk_R (ok_initQ T) (hr.mono (by decide)) (by rfl) T.c_Ratio bd vd pass0 (pa_cons (pe_ifExp (pt_cmpR op_eq (pv 2) (pv 3) (nomark _)) pe_int pe_int) pa_nil)))))) pa_nil)))), ?_⟩
    refine ⟨_, rfl, _, rfl, by omega, by omega, fun D nD => ?_⟩
    refine lc_range (GInv K (fun i => (List.range n).map fun j => if i = j then (1 : Rat) else 0) H D) (GInv.start nD) (fun i H2 hi h => ?_) (fun H2 h => ?_)
    · refine ⟨rfl, _, rfl, _, rfl, by omega, by omega, fun D2 nD2 => ?_⟩
      refine lc_range (LInv (fun j => Rr K (if i = j then (1 : Rat) else 0)) H2 D2) (LInv.start nD2) (fun j H3 hj h3 => ?_) (fun H3 h3 => ?_)
      · refine ⟨rfl, ?_⟩
        refine ⟨_, rfl, _, rfl, rfl, _, rfl, ite2 (fun e => ?_) (fun e => ?_)⟩
        · have ij : i = j := by
            have := V.int.inj (of_decide_eq_true e)
            omega
          refine rq_make (r := 1) (by decide) (sz_of 1000000 (by decide) (by decide) (by decide)) rfl fun p H4 np s4 hp => ⟨rfl, h3.next (fun j => rr_solid _) nD2 s4 ⟨p, rfl, by rw [if_pos ij]; exact hp⟩ (by omega)⟩
        · have ij : ¬ i = j := fun z => by
            have := of_decide_eq_false (Bool.eq_false_iff.mpr e)
            exact this (by rw [z])
          refine rq_make (r := 0) (by decide) (sz_of 1000000 (by decide) (by decide) (by decide)) rfl fun p H4 np s4 hp => ⟨rfl, h3.next (fun j => rr_solid _) nD2 s4 ⟨p, rfl, by rw [if_neg ij]; exact hp⟩ (by omega)⟩
      · obtain ⟨s5, us, e5, l5, hu⟩ := h3
        refine h.next nD s5 nD2 e5 ⟨by rw [l5]; simp, fun j u eu => ?_⟩ (by omega)
        have hj := (List.getElem?_eq_some_iff.mp eu).1
        rw [FoQ.co_map, if_pos (by omega)]
        exact hu j u eu
    · obtain ⟨s4, us, e4, l4, hu⟩ := h
      refine ⟨D, us, tunit n, rfl, SqL.of e4, by rw [l4]; unfold tunit; rw [tab_len]; omega, by omega, fun j v ev => ?_, fun p H5 np s5 hT => q p H5 (s4.free np) (s4.trans s5) hT⟩
      have hj := (List.getElem?_eq_some_iff.mp ev).1
      rw [l4] at hj
      obtain ⟨q1, us1, e1', _, g1, g2⟩ := hu j v ev
      unfold tunit
      rw [tab_row (by omega)]
      exact ⟨q1, us1, e1', .inl g1, g2⟩
end

end Fo

set_option maxHeartbeats 4100000
namespace Fo
open PySem PySem.Spec PyProof.Rows L2
/-! ### what is raised -/
def RowB (K : PySem.W.Frag) (H : Hp) (n : Nat) (v : V) (b : Bool) : Prop := (NoSeq H v ∧ b = false) ∨ ∃ a ws bs, v = .ref a ∧ SqHere H a ws ∧ Nums K H ws bs ∧ ws.length ≤ 1000 ∧ b = (decide ((ws.length : Int) = (n : Int)) && bs.all id)
theorem NoSeq.same {H H' : Hp} {v : V} (h : NoSeq H v) : NoSeq H' v := by
  cases h with
  | non => exact .non
  | bl b => exact .bl b
  | int b => exact .int b
  | str b => exact .str b
theorem RowB.same {K : PySem.W.Frag} {H H' : Hp} {n : Nat} {v : V} {b : Bool} (h : RowB K H n v b) (s : Same H H') : RowB K H' n v b := by
  rcases h with ⟨h, e⟩ | ⟨a, ws, bs, e1, e2, e3, e4, e5⟩
  · exact .inl ⟨h.same, e⟩
  · exact .inr ⟨a, ws, bs, e1, e2.same s, e3.same s, e4, e5⟩
def BadRows (K : PySem.W.Frag) (H : Hp) (rs : List V) : Prop := rs.length = 0 ∨ 8 < rs.length ∨ ∃ bs : List Bool, bs.length = rs.length ∧ bs.all id = false ∧ ∀ (i : Nat) (v : V) (b : Bool), rs[i]? = some v → bs[i]? = some b → RowB K H rs.length v b
def spTInX (K : PySem.W.Frag) : Sp := fun vs H _ E => ∃ (p : Addr) (y : V), vs = [.ref p, y] ∧ (NoSeq H y ∨ ∃ a rs, y = .ref a ∧ H a = some (.lst rs) ∧ rs.length ≤ 1000 ∧ BadRows K H rs) ∧ ∀ H', Same H H' → E (.ref (He.ga K "BadTable")) none H'
def BadNums (K : PySem.W.Frag) (H : Hp) (m : Int) (y : V) : Prop := NoSeq H y ∨ ∃ a ws bs, y = .ref a ∧ SqHere H a ws ∧ Nums K H ws bs ∧ ws.length ≤ 1000 ∧ (decide ((ws.length : Int) = m) && bs.all id) = false
def spBeamX (K : PySem.W.Frag) : Sp := fun vs H _ E => ∃ (y : V) (m : Int), vs = [y, .int m] ∧ BadNums K H m y ∧ ∀ H', Same H H' → E (.ref (He.ga K "BadBeam")) none H'
def spSentX (K : PySem.W.Frag) : Sp := fun vs H _ E => ∃ (a : Addr) (y : V) (m : List (List Rat)), vs = [.ref a, y] ∧ TabAt K H a m ∧ BadNums K H m.length y ∧ ∀ H', Same H H' → E (.ref (He.ga K "BadBeam")) none H'
def sp2X (K : PySem.W.Frag) : Sp := fun vs H _ E => ∃ (a b : Addr) (m k : List (List Rat)), vs = [.ref a, .ref b] ∧ TabAt K H a m ∧ TabAt K H b k ∧ m.length ≠ k.length ∧ m.length ≤ 100 ∧ k.length ≤ 100 ∧ ∀ H', Same H H' → E (.ref (He.ga K "UnlikeTables")) none H'
section
variable {P : Program} {w : World} {K : PySem.W.Frag} {mg : Str → Option Value} {base : Heap}
theorem ok_chkX (T : Tx K mg) : FnOk P w K mg base (L2.CX P w) 3 (He.ga K "_check_lengths") T.fd_check_lengths ["one", "other"] (sp2X K) := by
  refine T.F_check_lengths.okX sc_check_lengths (fun vs H Q E h => ?_) (fun cdv A outer s H vs Q E hr h => ?_)
  · obtain ⟨a, b, m, k, rfl, _⟩ := h
    rfl
  · obtain ⟨a, b, m, k, rfl, hA, hB, hl, hn, hk, q⟩ := h
    refine ⟨_, (pss_one (ps_if (pt_cmpR op_ne (pe_callB (FoL.call_lenO (ok_Tlen T) (hr.mono (by decide)) T.b_Table_len pass0 T.mT_len.at_ T.mT_len.fn) (by rfl) T.z_len PySem.boot_len (pa_cons (pv 0) pa_nil)) (pe_callB (FoL.call_lenO (ok_Tlen T) (hr.mono (by decide)) T.b_Table_len pass0 T.mT_len.at_ T.mT_len.fn) (by rfl) T.z_len PySem.boot_len (pa_cons (pv 1) pa_nil)) (nomark _)) (pss_one (ps_raise rfl (takes_of rfl rfl rfl rfl) (FoB.pmk_own0 T.e_UnlikeTables T.c_UnlikeTables rfl))) pss_nil)), ?_⟩
    obtain ⟨dx, t, rs, e1, e2, e3⟩ := id hA
    obtain ⟨dy, t2, rs2, f1, f2, f3⟩ := id hB
    refine ⟨_, rfl, a, dx, _, rfl, e1, ⟨a, m, rfl, hA, ⟨_, rfl, by omega, ?_⟩⟩⟩
    refine ⟨_, rfl, b, dy, _, rfl, f1, ⟨b, k, rfl, hB, ⟨_, rfl, by omega, rfl, _, rfl, ?_⟩⟩⟩
    have hd : decide (V.int m.length = V.int k.length) = false := decide_eq_false fun z => hl (by have := V.int.inj z; omega)
    rw [hd]
    exact iteT (q _ (Same.refl _))
theorem ok_bothX (T : Tx K mg) : FnOk P w K mg base (L2.CX P w) 4 (He.ga K "_items_of_both") T.fd_items_of_both ["one", "other"] (sp2X K) := by
  refine T.F_items_of_both.okX sc_items_of_both (fun vs H Q E h => ?_) (fun cdv A outer s H vs Q E hr h => ?_)
  · obtain ⟨a, b, m, k, rfl, _⟩ := h
    rfl
  · obtain ⟨a, b, m, k, rfl, hA, hB, hl, hn, hk, q⟩ := h
    refine ⟨_, (pss_cons (ps_expr (pe_call (ok_chkX T) (hr.mono (by decide)) (by rfl) T.g_check_lengths T.F_check_lengths.kp T.b_check_lengths .nil (passes_call (takes_of rfl rfl rfl rfl) (fun _ _ _ _ z => z)) (pa_cons (pv 0) (pa_cons (pv 1) pa_nil))))
      (pss_one (ps_ret (pe_lc (own := [("row", 2), ("behind", 3)])  rfl sc_items_of_both.nd (pi_zip (by rfl) T.z_zip (pa_cons (pe_meth0 (pv 0) T.cl_T T.mT_rows (ok_Trows T) (hr.mono (by decide)) T.b_Table_rows .nil pass0) (pa_cons (pe_meth0 (pv 1) T.cl_T T.mT_rows (ok_Trows T) (hr.mono (by decide)) T.b_Table_rows .nil pass0) pa_nil))) (blkOk_by (own := [("row", 2), ("behind", 3)]) (N := ["one", "other", "row", "behind"]) (sc := defScope s_items_of_both) (by decide +kernel)) (fun _ _ _ _ _ => (FoK.pg_tupK (K' := K) (n := 2) rfl (by rfl) (pgs_cons (pg_name (i := 2) sc_items_of_both.nd rfl (.inl rfl)) (pgs_cons (pg_name (i := 3) sc_items_of_both.nd rfl (.inl rfl)) pgs_nil)))) (fun _ _ _ _ _ => pts_nil) (fun _ _ _ _ _ => (FoU.pe_lz2 rfl rfl (by rfl) T.z_list (by rfl) T.z_zip (pa_cons (pv 2) (pa_cons (pv 3) pa_nil)))))))), ?_⟩
    exact ⟨_, rfl, _, rfl, a, b, m, k, rfl, hA, hB, hl, hn, hk, q⟩
theorem ok_TaddX (T : Tx K mg) : FnOk P w K mg base (L2.CX P w) 7 (He.ma K (He.ga K "Table") "__add__") T.fd_Table_add ["self", "other"] (sp2X K) := by
  refine T.F_Table_add.okX sc_Table_add (fun vs H Q E h => ?_) (fun cdv A outer s H vs Q E hr h => ?_)
  · obtain ⟨a, b, m, k, rfl, _⟩ := h
    rfl
  · obtain ⟨a, b, m, k, rfl, hA, hB, hl, hn, hk, q⟩ := h
    refine ⟨_, (pss_one (ps_ret (pe_call (ok_made T) (hr.mono (by decide)) (by rfl) T.g_made_table T.F_made_table.kp T.b_made_table .nil pass0 (pa_cons (pe_lc (own := [("pairs", 2)]) (g := gName 2) rfl sc_Table_add.nd (pi_list (pe_call (ok_bothX T) (hr.mono (by decide)) (by rfl) T.g_items_of_both T.F_items_of_both.kp T.b_items_of_both .nil (passes_call (takes_of rfl rfl rfl rfl) (fun _ _ _ _ z => z)) (pa_cons (pv 0) (pa_cons (pv 1) pa_nil)))) (blkOk_by (own := [("pairs", 2)]) (N := ["self", "other", "pairs", "left", "right"]) (sc := defScope s_Table_add) (by decide +kernel)) (fun _ _ _ _ _ => (pg_name (i := 2) sc_Table_add.nd rfl (.inl rfl))) (fun _ _ _ _ _ => pts_nil) (fun _ _ _ _ _ => (pe_lc (own := [("left", 3), ("right", 4)])  rfl sc_Table_add.nd (FoK.pi_listK (K' := K) (by rfl) (pv 2)) (blkOk_by (own := [("left", 3), ("right", 4)]) (N := ["self", "other", "pairs", "left", "right"]) (sc := _) (by kernel_rfl)) (fun _ _ _ _ _ => (FoK.pg_tupK (K' := K) (n := 2) rfl (by rfl) (pgs_cons (pg_name (i := 3) sc_Table_add.nd rfl (.inl rfl)) (pgs_cons (pg_name (i := 4) sc_Table_add.nd rfl (.inl rfl)) pgs_nil)))) (fun _ _ _ _ _ => pts_nil) (fun _ _ _ _ _ => (pe_op (FoA.op_own (ok_addQ T) (hr.mono (by decide)) T.b_Ratio_add pass0 T.bi_add FoN.int_add FoN.int_addR) (pv 3) (pv 4)))))) pa_nil)))), ?_⟩
    exact ⟨_, rfl, _, rfl, a, b, m, k, rfl, hA, hB, hl, hn, hk, q⟩
theorem ok_TsubX (T : Tx K mg) : FnOk P w K mg base (L2.CX P w) 7 (He.ma K (He.ga K "Table") "__sub__") T.fd_Table_sub ["self", "other"] (sp2X K) := by
  refine T.F_Table_sub.okX sc_Table_sub (fun vs H Q E h => ?_) (fun cdv A outer s H vs Q E hr h => ?_)
  · obtain ⟨a, b, m, k, rfl, _⟩ := h
    rfl
  · obtain ⟨a, b, m, k, rfl, hA, hB, hl, hn, hk, q⟩ := h
    refine ⟨_, (pss_one (ps_ret (pe_call (ok_made T) (hr.mono (by decide)) (by rfl) T.g_made_table T.F_made_table.kp T.b_made_table .nil pass0 (pa_cons (pe_lc (own := [("pairs", 2)]) (g := gName 2) rfl sc_Table_sub.nd (pi_list (pe_call (ok_bothX T) (hr.mono (by decide)) (by rfl) T.g_items_of_both T.F_items_of_both.kp T.b_items_of_both .nil (passes_call (takes_of rfl rfl rfl rfl) (fun _ _ _ _ z => z)) (pa_cons (pv 0) (pa_cons (pv 1) pa_nil)))) (blkOk_by (own := [("pairs", 2)]) (N := ["self", "other", "pairs", "left", "right"]) (sc := defScope s_Table_sub) (by decide +kernel)) (fun _ _ _ _ _ => (pg_name (i := 2) sc_Table_sub.nd rfl (.inl rfl))) (fun _ _ _ _ _ => pts_nil) (fun _ _ _ _ _ => (pe_lc (own := [("left", 3), ("right", 4)])  rfl sc_Table_sub.nd (FoK.pi_listK (K' := K) (by rfl) (pv 2)) (blkOk_by (own := [("left", 3), ("right", 4)]) (N := ["self", "other", "pairs", "left", "right"]) (sc := _) (by kernel_rfl)) (fun _ _ _ _ _ => (FoK.pg_tupK (K' := K) (n := 2) rfl (by rfl) (pgs_cons (pg_name (i := 3) sc_Table_sub.nd rfl (.inl rfl)) (pgs_cons (pg_name (i := 4) sc_Table_sub.nd rfl (.inl rfl)) pgs_nil)))) (fun _ _ _ _ _ => pts_nil) (fun _ _ _ _ _ => (pe_op (FoA.op_own (ok_subQ T) (hr.mono (by decide)) T.b_Ratio_sub pass0 T.bi_sub FoN.int_sub FoN.int_subR) (pv 3) (pv 4)))))) pa_nil)))), ?_⟩
    exact ⟨_, rfl, _, rfl, a, b, m, k, rfl, hA, hB, hl, hn, hk, q⟩
theorem ok_TmulX (T : Tx K mg) : FnOk P w K mg base (L2.CX P w) 7 (He.ma K (He.ga K "Table") "__mul__") T.fd_Table_mul ["self", "other"] (sp2X K) := by
  refine T.F_Table_mul.okX sc_Table_mul (fun vs H Q E h => ?_) (fun cdv A outer s H vs Q E hr h => ?_)
  · obtain ⟨a, b, m, k, rfl, _⟩ := h
    rfl
  · obtain ⟨a, b, m, k, rfl, hA, hB, hl, hn, hk, q⟩ := h
    refine ⟨_, (pss_cons (ps_expr (pe_call (ok_chkX T) (hr.mono (by decide)) (by rfl) T.g_check_lengths T.F_check_lengths.kp T.b_check_lengths .nil (passes_call (takes_of rfl rfl rfl rfl) (fun _ _ _ _ z => z)) (pa_cons (pv 0) (pa_cons (pv 1) pa_nil))))
      (pss_cons (ps_setLc (i := 3) (own := [("row", 2)]) (g := gName 2) rfl sc_Table_mul.nd rfl rfl (sw_true rfl rfl rfl (by decide +kernel)) (pi_tup (pe_fld (pv 0) rfl)) (blkOk_by (own := [("row", 2)]) (N := ["self", "other", "row", "rows", "column", "columns"]) (sc := defScope s_Table_mul) (by decide +kernel)) (fun _ _ _ _ _ => (pg_name (i := 2) sc_Table_mul.nd rfl (.inl rfl))) (fun _ _ _ _ _ => pts_nil) (fun _ _ _ _ _ => (pe_call (ok_wbeam T) (hr.mono (by decide)) (by rfl) T.g_whole_beam T.F_whole_beam.kp T.b_whole_beam .nil pass0 (pa_cons (pv 2) pa_nil))))
      (pss_cons (ps_set (i := 5) sc_Table_mul.nd rfl (.inr rfl) (pe_lc (own := [("column", 4)]) (g := gName 4) rfl sc_Table_mul.nd (FoU.pi_zipS (by rfl) T.z_zip (pe_fld (pv 1) rfl)) (blkOk_by (own := [("column", 4)]) (N := ["self", "other", "row", "rows", "column", "columns"]) (sc := defScope s_Table_mul) (by decide +kernel)) (fun _ _ _ _ _ => (pg_name (i := 4) sc_Table_mul.nd rfl (.inl rfl))) (fun _ _ _ _ _ => pts_nil) (fun _ _ _ _ _ => (pe_call (ok_wbeam T) (hr.mono (by decide)) (by rfl) T.g_whole_beam T.F_whole_beam.kp T.b_whole_beam .nil pass0 (pa_cons (pv 4) pa_nil)))))
      (pss_one (ps_ret (pe_call (ok_made T) (hr.mono (by decide)) (by rfl) T.g_made_table T.F_made_table.kp T.b_made_table .nil pass0 (pa_cons (pe_lc (own := [("row", 2)]) (g := gName 2) rfl sc_Table_mul.nd (pi_list (pv 3)) (blkOk_by (own := [("row", 2)]) (N := ["self", "other", "row", "rows", "column", "columns"]) (sc := defScope s_Table_mul) (by decide +kernel)) (fun _ _ _ _ _ => (pg_name (i := 2) sc_Table_mul.nd rfl (.inr rfl))) (fun _ _ _ _ _ => pts_nil) (fun _ _ _ _ _ => (pe_lc (own := [("column", 4)]) (g := gName 4) rfl sc_Table_mul.nd (FoK.pi_listK (K' := K) (by rfl) (pv 5)) (blkOk_by (own := [("column", 4)]) (N := ["self", "other", "row", "rows", "column", "columns"]) (sc := _) (by kernel_rfl)) (fun _ _ _ _ _ => (pg_name (i := 4) sc_Table_mul.nd rfl (.inl rfl))) (fun _ _ _ _ _ => pts_nil) (fun _ _ _ _ _ => (pe_call (ok_inover T) (hr.mono (by decide)) (by rfl) T.g_inner_over T.F_inner_over.kp T.b_inner_over .nil pass0 (pa_cons (pv 2) (pa_cons (pv 4) pa_nil))))))) pa_nil))))))), ?_⟩
    exact ⟨_, rfl, _, rfl, a, b, m, k, rfl, hA, hB, hl, hn, hk, q⟩
theorem ok_beamX (T : Tx K mg) : FnOk P w K mg base (L2.CX P w) 4 (He.ga K "beam_of") T.fd_beam_of ["given", "many"] (spBeamX K) := by
  refine T.F_beam_of.okX sc_beam_of (fun vs H Q E h => ?_) (fun cdv A outer s H vs Q E hr h => ?_)
  · obtain ⟨y, m, rfl, _⟩ := h
    rfl
  · obtain ⟨y, m, rfl, hB, q⟩ := h
    refine ⟨_, (pss_cons (ps_if (pt_not (pt_val (pe_call (ok_hasn T) (hr.mono (by decide)) (by rfl) T.g_has_numbers T.F_has_numbers.kp T.b_has_numbers .nil pass0 (pa_cons (pv 0) (pa_cons (pv 1) pa_nil))))) (pss_one (ps_raise rfl (takes_of rfl rfl rfl rfl) (FoB.pmk_own0 T.e_BadBeam T.c_BadBeam rfl))) pss_nil)
      (pss_one (ps_ret (pe_lc (own := [("item", 2)]) (g := gName 2) rfl sc_beam_of.nd (FoY.pi_or (pi_list (pv 0)) (pi_tup (pv 0))) (blkOk_by (own := [("item", 2)]) (N := ["given", "many", "item"]) (sc := defScope s_beam_of) (by decide +kernel)) (fun _ _ _ _ _ => (pg_name (i := 2) sc_beam_of.nd rfl (.inl rfl))) (fun _ _ _ _ _ => pts_nil) (fun _ _ _ _ _ => (pe_call (ok_asQ T) (hr.mono (by decide)) (by rfl) T.g_as_ratio T.F_as_ratio.kp T.b_as_ratio .nil pass0 (pa_cons (pv 2) pa_nil))))))), ?_⟩
    rcases hB with hN | ⟨a, ws, bs, rfl, hS, hN, hn, hf⟩
    · exact ⟨_, rfl, _, rfl, y, m, rfl, .inr ⟨hN, fun H1 s1 => ⟨_, rfl, iteT (q _ s1)⟩⟩⟩
    · refine ⟨_, rfl, _, rfl, _, m, rfl, .inl ⟨a, ws, bs, rfl, hS, hN, hn, fun H1 s1 => ?_⟩⟩
      rw [hf]
      exact ⟨_, rfl, iteT (q _ s1)⟩
theorem ok_TsentX (T : Tx K mg) : FnOk P w K mg base (L2.CX P w) 6 (He.ma K (He.ga K "Table") "sent") T.fd_Table_sent ["self", "beam"] (spSentX K) := by
  refine T.F_Table_sent.okX sc_Table_sent (fun vs H Q E h => ?_) (fun cdv A outer s H vs Q E hr h => ?_)
  · obtain ⟨a, y, m, rfl, _⟩ := h
    rfl
  · obtain ⟨a, y, m, rfl, hA, hB, q⟩ := h
    refine ⟨_, (pss_cons (ps_set (i := 2) sc_Table_sent.nd rfl (.inr rfl) (pe_call (ok_beamX T) (hr.mono (by decide)) (by rfl) T.g_beam_of T.F_beam_of.kp T.b_beam_of .nil (passes_call (takes_of rfl rfl rfl rfl) (fun _ _ _ _ z => z)) (pa_cons (pv 1) (pa_cons (pe_callB call_len_seq (by rfl) T.z_len PySem.boot_len (pa_cons (pe_fld (pv 0) rfl) pa_nil)) pa_nil))))
      (pss_one (ps_ret (pe_lc (own := [("row", 3)]) (g := gName 3) rfl sc_Table_sent.nd (pi_tup (pe_fld (pv 0) rfl)) (blkOk_by (own := [("row", 3)]) (N := ["self", "beam", "numbers", "row"]) (sc := defScope s_Table_sent) (by decide +kernel)) (fun _ _ _ _ _ => (pg_name (i := 3) sc_Table_sent.nd rfl (.inl rfl))) (fun _ _ _ _ _ => pts_nil) (fun _ _ _ _ _ => (pe_call (ok_inner T) (hr.mono (by decide)) (by rfl) T.g_inner T.F_inner.kp T.b_inner .nil pass0 (pa_cons (pv 3) (pa_cons (pv 2) pa_nil)))))))), ?_⟩
    obtain ⟨dx, t, rs, e1, e2, e3⟩ := id hA
    refine ⟨_, rfl, _, rfl, a, _, dx, _, _, rfl, e1, T.cl_T, T.nR_T, tf_look _, t, rs, rfl, .inr (SqT.of e2), y, rs.length, rfl, by rw [e3.1]; exact hB, q⟩
theorem ok_TinitX (T : Tx K mg) : FnOk P w K mg base (L2.CX P w) 4 (He.ma K (He.ga K "Table") "__init__") T.fd_Table_init ["self", "rows"] (spTInX K) := by
  refine T.F_Table_init.okX sc_Table_init (fun vs H Q E h => ?_) (fun cdv A outer s H vs Q E hr h => ?_)
  · obtain ⟨p, y, rfl, _⟩ := h
    rfl
  · obtain ⟨p, y, rfl, hB, q⟩ := h
    refine ⟨_, (pss_cons (ps_if (PW.pt (pw_or (pt_not (pt_val (pe_callB call_isiT (by rfl) T.z_isinstance (by decide +kernel) (pa_cons (pv 1) (pa_cons (pe_tup (pa_cons (pe_bltn (v := V.ty "list") (u := Value.type "list") (by rfl) T.z_list (by decide +kernel) rfl) (pa_cons (pe_bltn (v := V.ty "tuple") (u := Value.type "tuple") (by rfl) T.z_tuple (by decide +kernel) rfl) pa_nil))) pa_nil))))) (pw_or1 (pt_not (pt_chain op_le op_le pe_int (pe_callB call_len_seq (by rfl) T.z_len PySem.boot_len (pa_cons (pv 1) pa_nil)) (pe_glob (v := V.int 8) (by rfl) T.k_LONGEST.choose_spec ⟨_, rfl⟩)))))) (pss_one (ps_raise rfl (takes_of rfl rfl rfl rfl) (FoB.pmk_own0 T.e_BadTable T.c_BadTable rfl))) pss_nil)
      (pss_cons (ps_if (pt_not (pt_val (pe_callB (FoY.call_all rfl rfl) (by rfl) T.z_all (by decide +kernel) (pa_cons (pe_lc (own := [("row", 2)]) (g := gName 2) rfl sc_Table_init.nd (FoY.pi_or (pi_list (pv 1)) (pi_tup (pv 1))) (blkOk_by (own := [("row", 2)]) (N := ["self", "rows", "row", "item"]) (sc := defScope s_Table_init) (by decide +kernel)) (fun _ _ _ _ _ => (pg_name (i := 2) sc_Table_init.nd rfl (.inl rfl))) (fun _ _ _ _ _ => pts_nil) (fun _ _ _ _ _ => (pe_call (ok_hasn T) (hr.mono (by decide)) (by rfl) T.g_has_numbers T.F_has_numbers.kp T.b_has_numbers .nil pass0 (pa_cons (pv 2) (pa_cons (pe_callB (FoK.call_lenK (K' := K) (by rfl)) (by rfl) T.z_len PySem.boot_len (pa_cons (pv 1) pa_nil)) pa_nil))))) pa_nil)))) (pss_one (ps_raise rfl (takes_of rfl rfl rfl rfl) (FoB.pmk_own0 T.e_BadTable T.c_BadTable rfl))) pss_nil)
      (pss_one (ps_fld (pv 0) (pe_callTy call_tuple_of (by rfl) T.z_tuple (by decide +kernel) (pa_cons (pe_lc (own := [("row", 2)]) (g := gName 2) rfl sc_Table_init.nd (FoY.pi_or (pi_list (pv 1)) (pi_tup (pv 1))) (blkOk_by (own := [("row", 2)]) (N := ["self", "rows", "row", "item"]) (sc := defScope s_Table_init) (by decide +kernel)) (fun _ _ _ _ _ => (pg_name (i := 2) sc_Table_init.nd rfl (.inl rfl))) (fun _ _ _ _ _ => pts_nil) (fun _ _ _ _ _ => (pe_callTy (FoK.call_tupleK (K' := K) (by rfl)) (by rfl) T.z_tuple (by decide +kernel) (pa_cons (pe_lc (own := [("item", 3)]) (g := gName 3) rfl sc_Table_init.nd (FoY.pi_or (FoK.pi_listK (K' := K) (by rfl) (pv 2)) (FoK.pi_tupK (K' := K) (by rfl) (pv 2))) (blkOk_by (own := [("item", 3)]) (N := ["self", "rows", "row", "item"]) (sc := _) (by kernel_rfl)) (fun _ _ _ _ _ => (pg_name (i := 3) sc_Table_init.nd rfl (.inl rfl))) (fun _ _ _ _ _ => pts_nil) (fun _ _ _ _ _ => (pe_call (ok_asQ T) (hr.mono (by decide)) (by rfl) T.g_as_ratio T.F_as_ratio.kp T.b_as_ratio .nil pass0 (pa_cons (pv 3) pa_nil)))) pa_nil)))) pa_nil)) rfl)))), ?_⟩
    have pc : Paired ClsV [.ty "list", .ty "tuple"] [.type "list", .type "tuple"] := .cons (.ty _) (.cons (.ty _) .nil)
    refine ⟨_, rfl, (by show 2 ≤ sizeLine; rw [sizeLine_eq]; decide), fun tp ntp => ?_⟩
    have s0 := Same.upd ntp (o := .tup [.ty "list", .ty "tuple"])
    rcases hB with hN | ⟨a, rs, rfl, hL, hn, hB⟩
    · obtain ⟨t, ty, kt⟩ := hN.ty (K := K)
      exact ⟨_, tp, _, t, _, false, rfl, upd_same, pc, ty _, kt, false, rfl, iteT (q _ s0)⟩
    · have hL0 := s0 _ _ hL
      obtain ⟨t, ty, kt⟩ := (show SqHere _ a rs from .inl hL0).ty (K := K)
      refine ⟨_, tp, _, t, _, true, rfl, upd_same, pc, ty, kt, true, rfl, iteF ?_⟩
      refine ⟨_, rfl, a, rs, rfl, .inl (SqL.of hL0), _, _, rfl, rfl, ?_⟩
      rcases hB with h0 | h8 | ⟨bs, hb, hf, hR⟩
      · exact ⟨false, congrArg V.bl (decide_eq_false (by omega)), iteF ⟨_, rfl, iteT (q _ s0)⟩⟩
      · exact ⟨true, congrArg V.bl (decide_eq_true (by omega)), iteT ⟨_, _, rfl, rfl, false, congrArg V.bl (decide_eq_false (by omega)), iteT (q _ s0)⟩⟩
      · by_cases c1 : (1 : Int) ≤ (rs.length : Int)
        · refine ⟨true, congrArg V.bl (decide_eq_true c1), iteT ⟨_, _, rfl, rfl, ?_⟩⟩
          by_cases c8 : (rs.length : Int) ≤ 8
          · refine ⟨true, congrArg V.bl (decide_eq_true c8), iteF ?_⟩
            have hR0 : ∀ (i : Nat) (v : V) (b : Bool), rs[i]? = some v → bs[i]? = some b → RowB K _ rs.length v b := fun i v b e1 e2 => (hR i v b e1 e2).same s0
            generalize upd H tp (.tup [.ty "list", .ty "tuple"]) = H0 at *
            dsimp only [tNext]
            refine .inl ⟨_, rfl, a, rfl, ⟨_, SqL.of hL0⟩, fun D nD => ?_⟩
            refine lc_list (BsI bs H0 D) ⟨Same.upd nD, upd_same⟩ (fun i H2 hi h => SqL.of (h.1 _ _ hL0)) (fun i v H2 ev h => ?_) (fun H2 h => ?_)
            · have hi := (List.getElem?_eq_some_iff.mp ev).1
              have eb : bs[i]? = some bs[i] := List.getElem?_eq_getElem (by omega)
              have go : ∀ H3, Same H2 H3 → ∃ acc, H3 D = some (.lst acc) ∧ acc.length < sizeLine ∧ BsI bs H0 D (i + 1) (upd H3 D (.lst (acc ++ [.bl bs[i]]))) := fun H3 s3 => by
                refine ⟨_, s3 _ _ h.2, ?_, fun c o z => ?_, ?_⟩
                · rw [List.length_map, List.length_take, sizeLine_eq]
                  omega
                · rw [upd_ne (ne_of_none z nD)]
                  exact s3 _ _ (h.1 _ _ z)
                · rw [upd_same, List.take_add_one, eb, List.map_append]
                  rfl
              refine ⟨rfl, _, rfl, _, rfl, a, rs, rfl, .inl (SqL.of (h.1 _ _ hL0)), v, rs.length, rfl, ?_⟩
              rcases (hR0 i v _ ev eb).same h.1 with ⟨hN, e⟩ | ⟨a2, ws, cs, rfl, e2, e3, e4, e5⟩
              · rw [e] at go
                exact .inr ⟨hN, fun H3 s3 => go H3 s3⟩
              · rw [e5] at go
                exact .inl ⟨a2, ws, cs, rfl, e2, e3, e4, fun H3 s3 => go H3 s3⟩
            · have h2 := h.2
              rw [List.take_of_length_le (by omega)] at h2
              refine ⟨D, bs, rfl, SqL.of h2, false, ?_, iteT (q _ (s0.trans h.1))⟩
              rw [hf]
          · exact ⟨false, congrArg V.bl (decide_eq_false c8), iteT (q _ s0)⟩
        · exact ⟨false, congrArg V.bl (decide_eq_false c1), iteF ⟨_, rfl, iteT (q _ s0)⟩⟩
end

end Fo

set_option maxHeartbeats 4100000
namespace Fo
open PySem PySem.Spec PyProof.Rows L2
/-! ### the law's own helpers -/
theorem BoxAt.same {H H' : Hp} {p : Addr} {n : Nat} (h : BoxAt H p n) (e : Same H H') : BoxAt H' p n :=
  let ⟨x, c, sd, a, r⟩ := h
  ⟨x, c, sd, e _ _ a, r⟩
theorem BoxAt.mono {H : Hp} {p : Addr} {n m : Nat} (h : BoxAt H p n) (e : n ≤ m) : BoxAt H p m :=
  let ⟨x, c, sd, a, h1, h2, h3, h4, h5⟩ := h
  ⟨x, c, sd, a, h1, h2, by omega, h4, h5⟩
theorem BoxAt.ne {H : Hp} {p t : Addr} {n : Nat} (h : BoxAt H p n) (e : H t = none) : t ≠ p := fun z => by
  obtain ⟨x, c, sd, a, _⟩ := h
  rw [z, a] at e
  cases e
theorem BoxAt.nl {H H' : Hp} {p : Addr} {n : Nat} (h : BoxAt H p n) (b : But p H H') : NLst H H' :=
  let ⟨_, _, _, a, _⟩ := h
  NLst.but a b
theorem But.free {H H' : Hp} {b t : Addr} (h : But b H H') (nb : t ≠ b) (e : H' t = none) : H t = none := by
  cases q : H t with
  | none => rfl
  | some o =>
    rw [h t o q nb] at e
    cases e
theorem sz1000 {m : Int} (h0 : 0 ≤ m := by decide) (h : m < 1000000 := by decide) : FoM.Sz 4000 m := sz_of 1000000 (by omega) h (Nat.le_trans (by decide) (Nat.pow_le_pow_right (by decide) (show 20 ≤ 4000 by decide)))
/-- an if or an assignment whose ways go on alike -/
theorem gen_t {st u : TS} {D : Ends} {σ : L2.St} {H : Hp} (C : Hp → Prop) (h1 : ∀ D' : Ends, (∀ H', C H' → D'.nx σ H') → st D' σ H) (h2 : ∀ H', C H' → u D σ H') : tSeq st u D σ H := h1 { D with nx := u D } h2
theorem gen_s {te : TE} {g : TG} {u : TS} {D : Ends} {σ : L2.St} {H : Hp} (C : V → Hp → Prop) (h1 : ∀ Q' : VK, (∀ x H', C x H' → Q' x H') → te σ H Q') (h2 : ∀ x H', C x H' → g x σ H' (u D)) : tSeq (tAsg te g) u D σ H := h1 _ h2
def spNumber : Sp := fun vs H Q _ => ∃ (b : Addr) (m : Int) (n : Nat), vs = [.ref b, .int m] ∧ BoxAt H b n ∧ n ≤ 90000 ∧ 0 ≤ m ∧ m ≤ 1000 ∧ ∀ p H' r, H p = none → FrQ H' p r → FoQ.SzR 12 r → BoxAt H' b (n + 3) → But b H H' → Q (.ref p) H'
def spHanded (K : PySem.W.Frag) : Sp := fun vs H Q _ => ∃ (a b : Addr) (r : Rat) (n : Nat), vs = [.ref a, .ref b] ∧ FrQ H a r ∧ FoQ.SzR 40 r ∧ BoxAt H b n ∧ n ≤ 90000 ∧ ∀ v H', NmV K H' v r → BoxAt H' b (n + 1) → But b H H' → Q v H'
def spTold (K : PySem.W.Frag) : Sp := fun vs H Q _ => ∃ (a : Addr) (r : Rat), vs = [.ref a] ∧ RtAt K H a r ∧ ∀ p, H p = none → Q (.ref p) (upd H p (qt r))
theorem pick6 (g : Int) (k : Nat) (h : k < 6) (g0 : 0 ≤ g) (g1 : g ≤ 1000) : ∃ m : Int, [V.int 1, V.int 1, V.int 2, V.int 3, V.int 5, V.int (1 + g)][k]? = some (.int m) ∧ 0 < m ∧ m ≤ 1001 :=
  match k, h with
  | 0, _ => ⟨_, rfl, by decide, by decide⟩
  | 1, _ => ⟨_, rfl, by decide, by decide⟩
  | 2, _ => ⟨_, rfl, by decide, by decide⟩
  | 3, _ => ⟨_, rfl, by decide, by decide⟩
  | 4, _ => ⟨_, rfl, by decide, by decide⟩
  | 5, _ => ⟨_, rfl, by omega, by omega⟩
section
variable {P : Program} {w : World} {K : PySem.W.Frag} {mg : Str → Option Value} {base : Heap}
theorem ok_number (T : Tx K mg) : FnOk P w K mg base CX0 2 (He.ga K "_law_number") T.fd_number ["_law_box_here", "_law_most"] spNumber := by
  refine T.F_number.ok sc_number (fun vs H Q E h => ?_) (fun cdv A outer s H vs Q E hr h => ?_)
  · obtain ⟨b, m, n, rfl, _⟩ := h
    rfl
  · obtain ⟨b, m, n, rfl, hB, hn, m0, m1, q⟩ := h
    refine ⟨_, (pss_cons (ps_set (i := 2) sc_number.nd rfl (.inl rfl) (pe_op op_sub (pe_call (ok_take T) (hr.mono (by decide)) (by rfl) T.g_take T.F_take.kp T.b_take .nil pass0 (pa_cons (pv 0) (pa_cons (pe_op op_add (pe_op op_mulW pe_int (pv 1)) pe_int) pa_nil))) (pv 1)))
      (pss_one (ps_ret (pe_call (ok_fracQ T) (hr.mono (by decide)) (by rfl) T.g_frac T.F_frac.kp T.b_frac .nil pass0 (pa_cons (pv 2) (pa_cons (pe_ix ix_list (pe_lst (pa_cons pe_int (pa_cons pe_int (pa_cons pe_int (pa_cons pe_int (pa_cons pe_int (pa_cons (pe_op op_add pe_int (pe_call (ok_take T) (hr.mono (by decide)) (by rfl) T.g_take T.F_take.kp T.b_take .nil pass0 (pa_cons (pv 0) (pa_cons (pe_op op_add (pv 1) pe_int) pa_nil)))) pa_nil))))))) (pe_call (ok_take T) (hr.mono (by decide)) (by rfl) T.g_take T.F_take.kp T.b_take .nil pass0 (pa_cons (pv 0) (pa_cons pe_int pa_nil))) (fun _ _ => rfl)) pa_nil)))))), ?_⟩
    refine ⟨_, rfl, _, rfl, _, _, rfl, rfl, FoM.Sz.mulok (n := 20) (m := 20) (sz_of 1000000 (by decide) (by decide) (by decide)) (sz_of 1000000 (by omega) (by omega) (by decide)), _, _, rfl, rfl, ?_⟩
    refine ⟨b, _, n, rfl, hB, by omega, by omega, sz1000 (by omega) (by omega), fun g1 H1 g10 g11 hB1 b1 => ?_⟩
    refine ⟨_, rfl, _, _, rfl, rfl, ?_⟩
    have zu : FoM.Sz 12 (g1 - m) := sz_of 1001 (by omega) (by omega) (by decide)
    refine ⟨_, rfl, _, rfl, _, rfl, _, _, rfl, rfl, ?_⟩
    refine ⟨b, _, n + 1, rfl, hB1, by omega, by omega, sz1000 (by omega) (by omega), fun g2 H2 g20 g21 hB2 b2 => ?_⟩
    refine ⟨_, _, rfl, rfl, (by show 6 ≤ sizeLine; rw [sizeLine_eq]; decide), fun t1 nt1 => ?_⟩
    have n1 := hB2.ne nt1
    refine ⟨_, rfl, b, 6, n + 2, rfl, hB2.same (Same.upd nt1), by omega, by decide, sz1000, fun g3 H3 g30 g31 hB3 b3 => ?_⟩
    have hL := b3 _ _ upd_same n1
    obtain ⟨k3, rfl⟩ := Int.eq_ofNat_of_zero_le g30
    obtain ⟨d, ed, d0, d1⟩ := pick6 g2 k3 (by omega) g20 (by omega)
    refine ⟨t1, _, _, _, rfl, rfl, SqL.of hL, atI_nat ed, ?_⟩
    have zd : FoM.Sz 12 d := sz_of 1002 (by omega) (by omega) (by decide)
    have bb : But b H H3 := b1.trans (b2.trans ((But.of_same (Same.upd nt1)).trans b3))
    refine ⟨g1 - m, d, rfl, by omega, zd.mono (by decide), fun p np => ?_⟩
    have npb := hB3.ne np
    exact q p _ _ (bb.free npb np) upd_same (FoQ.SzR.divInt (by omega) zu zd) (hB3.same (Same.upd np)) (bb.trans (But.of_same (Same.upd np)))
theorem ok_handed (T : Tx K mg) : FnOk P w K mg base CX0 3 (He.ga K "_law_handed") T.fd_handed ["_law_x", "_law_box_here"] (spHanded K) := by
  refine T.F_handed.ok sc_handed (fun vs H Q E h => ?_) (fun cdv A outer s H vs Q E hr h => ?_)
  · obtain ⟨a, b, r, n, rfl, _⟩ := h
    rfl
  · obtain ⟨a, b, r, n, rfl, ha, zr, hB, hn, q⟩ := h
    obtain ⟨ds, vd, bd⟩ := bind_init1 T
    have hT := ha.at_ (K := K)
    refine ⟨_, (pss_one (ps_ret (pe_ifExp (PW.pt (pw_and (pt_cmpR op_eq (pe_ix ix_tup (pv 0) pe_int (fun _ _ => rfl)) pe_int (nomark _)) (pw_and1 (pt_cmpR op_gt (pe_call (ok_take T) (hr.mono (by decide)) (by rfl) T.g_take T.F_take.kp T.b_take .nil pass0 (pa_cons (pv 1) (pa_cons pe_int pa_nil))) pe_int (nomark _))))) (pe_ix ix_tup (pv 0) pe_int (fun _ _ => rfl)) (pe_make T.mk_R (ok_initQ T) (hr.mono (by decide)) (by rfl) T.c_Ratio (bind_init2 T) .nil pass0 (pa_cons (pe_ix ix_tup (pv 0) pe_int (fun _ _ => rfl)) (pa_cons (pe_ix ix_tup (pv 0) pe_int (fun _ _ => rfl)) pa_nil)))))), ?_⟩
    refine ⟨_, rfl, _, _, _, _, rfl, rfl, hT, rfl, rfl, ?_⟩
    have den1 : ∀ {b : Bool}, (decide (V.int (r.den : Int) = V.int 1)) = b → ((r.den : Int) = 1 ↔ b = true) := fun {b} e => by
      rw [← e]
      constructor
      · intro z
        exact decide_eq_true (by rw [z])
      · intro z
        exact V.int.inj (of_decide_eq_true z)
    have made : ∀ H2 n2, BoxAt H2 b n2 → n2 ≤ n + 1 → But b H H2 → FrQ H2 a r → ∀ p H3, Same H2 H3 → RtAt K H3 p r → Q (.ref p) H3 := fun H2 n2 hB2 hn2 b2 _ p H3 s3 hp => q _ _ hp.nm ((hB2.same s3).mono hn2) (b2.trans (But.of_same s3))
    refine ⟨_, rfl, ?_⟩
    cases e : decide (V.int (r.den : Int) = V.int 1) with
    | true =>
      have d1 := (den1 e).mpr rfl
      refine iteT ?_
      refine ⟨_, rfl, b, 3, n, rfl, hB, by omega, by decide, sz1000, fun g H1 g0 g1 hB1 b1 => ?_⟩
      have na : a ≠ b := fun z => by
        obtain ⟨_, _, _, h, _⟩ := hB
        have ha : H a = some (qt r) := ha
        rw [z, h] at ha
        cases ha
      have hT1 := (show FrQ H1 a r from b1 _ _ ha na).at_ (K := K)
      refine ⟨_, _, rfl, rfl, _, rfl, ite2 (fun c => ?_) (fun c => ?_)⟩
      · refine ⟨_, rfl, _, _, _, _, rfl, rfl, hT1, rfl, q _ _ (.inr ⟨r.num, rfl, ?_⟩) hB1 b1⟩
        exact (Rat.num_divInt_den r).symm.trans (by rw [d1]; exact FoQ.q_int _)
      · refine ⟨_, rfl, _, _, _, _, rfl, rfl, hT1, rfl, _, rfl, _, _, _, _, rfl, rfl, hT1, rfl, rq_make (FoQ.den_ne r) (zr.2.mono (by decide)) (Rat.num_divInt_den r) fun p H3 np s3 hp => ⟨rfl, made H1 (n + 1) hB1 (Nat.le_refl _) b1 (b1 _ _ ha na) p H3 s3 hp⟩⟩
    | false =>
      refine iteF ?_
      refine ⟨_, rfl, _, _, _, _, rfl, rfl, hT, rfl, _, rfl, _, _, _, _, rfl, rfl, hT, rfl, rq_make (FoQ.den_ne r) (zr.2.mono (by decide)) (Rat.num_divInt_den r) fun p H3 np s3 hp => ⟨rfl, made H n hB (Nat.le_succ _) (But.refl b H) ha p H3 s3 hp⟩⟩
theorem ok_told (T : Tx K mg) : FnOk P w K mg base CX0 3 (He.ga K "_law_told") T.fd_told ["_law_amount"] (spTold K) := by
  refine T.F_told.ok sc_told (fun vs H Q E h => ?_) (fun cdv A outer s H vs Q E hr h => ?_)
  · obtain ⟨a, r, rfl, _⟩ := h
    rfl
  · obtain ⟨a, r, rfl, ha, q⟩ := h
    obtain ⟨dx, ha'⟩ := id ha
    refine ⟨_, (pss_one (ps_ret (pe_tup (pa_cons (pe_prop (pv 0) T.cl_R T.p_top (ok_topQ T) (hr.mono (by decide)) T.b_Ratio_top .nil pass0 (by rfl)) (pa_cons (pe_prop (pv 0) T.cl_R T.p_bottom (ok_bottomQ T) (hr.mono (by decide)) T.b_Ratio_bottom .nil pass0 (by rfl)) pa_nil))))), ?_⟩
    exact ⟨_, rfl, a, dx, _, rfl, ha', a, r, rfl, ha, _, rfl, a, dx, _, rfl, ha', a, r, rfl, ha, (by show 2 ≤ sizeLine; rw [sizeLine_eq]; decide), q⟩
end

/-! ### rows of the law -/
def RowL (l : List Rat) (D : Addr) (H : Hp) (v : V) : Prop := ∃ q us, v = .ref q ∧ q ≠ D ∧ H q = some (.lst us) ∧ Ls Rq H us l
def LR (H : Hp) (a : Addr) (m : List (List Rat)) : Prop := ∃ ws, H a = some (.lst ws) ∧ ws.length = m.length ∧ ∀ (i : Nat) (v : V), ws[i]? = some v → RowL (m.getD i []) a H v
theorem RowL.same {l : List Rat} {D : Addr} {H H' : Hp} {v : V} (h : RowL l D H v) (s : Same H H') : RowL l D H' v := by
  obtain ⟨q, us, e1, e2, e3, e4⟩ := h
  exact ⟨q, us, e1, e2, s _ _ e3, e4.nl rq_solid (same_nl s)⟩
theorem RowL.but {l : List Rat} {D E : Addr} {H H' : Hp} {v : V} {acc : List V} (h : RowL l D H v) (hE : H E = some (.lst acc)) (b : But E H H') (n : ∀ q, v = .ref q → q ≠ E) : RowL l D H' v := by
  obtain ⟨q, us, e1, e2, e3, e4⟩ := h
  exact ⟨q, us, e1, e2, b _ _ e3 (n q e1), e4.nl rq_solid (NLst.but hE b)⟩
theorem RowL.self {l : List Rat} {D : Addr} {H H' : Hp} {v : V} {acc : List V} (h : RowL l D H v) (hE : H D = some (.lst acc)) (b : But D H H') : RowL l D H' v := by
  obtain ⟨q, us, e1, e2, e3, e4⟩ := h
  exact ⟨q, us, e1, e2, b _ _ e3 e2, e4.nl rq_solid (NLst.but hE b)⟩
theorem LR.same {H H' : Hp} {a : Addr} {m : List (List Rat)} (h : LR H a m) (s : Same H H') : LR H' a m := by
  obtain ⟨ws, e, el, hw⟩ := h
  exact ⟨ws, s _ _ e, el, fun i v ev => (hw i v ev).same s⟩
theorem ls_ne_box {H : Hp} {b q : Addr} {n : Nat} {us : List V} {l : List Rat} (hB : BoxAt H b n) (hq : H q = some (.lst us)) (hL : Ls Rq H us l) : q ≠ b := fun z => by
  obtain ⟨x, c, sd, e, _⟩ := hB
  rw [z, e] at hq
  cases hq
  obtain ⟨a, ea, _⟩ := hL.2 0 _ rfl
  cases ea
theorem LR.but {H H' : Hp} {a b : Addr} {n : Nat} {m : List (List Rat)} (h : LR H a m) (hB : BoxAt H b n) (s : But b H H') : LR H' a m := by
  obtain ⟨ws, e, el, hw⟩ := h
  have ab : a ≠ b := fun z => by
    obtain ⟨x, c, sd, e2, _⟩ := hB
    rw [z, e2] at e
    cases e
    obtain ⟨q, us, e3, _⟩ := hw 0 _ rfl
    cases e3
  refine ⟨ws, s _ _ e ab, el, fun i v ev => ?_⟩
  obtain ⟨q, us, e1, e2, e3, e4⟩ := hw i v ev
  exact ⟨q, us, e1, e2, s _ _ e3 (ls_ne_box hB e3 e4), e4.nl rq_solid (hB.nl s)⟩
theorem LR.row {H : Hp} {a : Addr} {m : List (List Rat)} (h : LR H a m) {i : Nat} (hi : i < m.length) : ∃ (ws : List V) (q : Addr) (us : List V), H a = some (.lst ws) ∧ ws[i]? = some (.ref q) ∧ H q = some (.lst us) ∧ Ls Rq H us (m.getD i []) := by
  obtain ⟨ws, e, el, hw⟩ := h
  have hi2 : i < ws.length := by omega
  obtain ⟨q, us, e1, e2, e3, e4⟩ := hw i _ (List.getElem?_eq_getElem hi2)
  exact ⟨ws, q, us, e, by rw [List.getElem?_eq_getElem hi2, e1], e3, e4⟩
/-- m[i][j], with its places -/
theorem LR.item {H : Hp} {a : Addr} {m : List (List Rat)} (h : LR H a m) {i j : Nat} (hi : i < m.length) (hj : j < (m.getD i []).length) : ∃ (ws : List V) (q : Addr) (us : List V) (t : Addr), H a = some (.lst ws) ∧ ws[i]? = some (.ref q) ∧ H q = some (.lst us) ∧ us[j]? = some (.ref t) ∧ FrQ H t (ent m i j) := by
  obtain ⟨ws, q, us, e1, e2, e3, e4⟩ := h.row hi
  obtain ⟨v, ev, t, rfl, ht⟩ := e4.at_ hj
  exact ⟨ws, q, us, t, e1, e2, e3, ev, ht⟩
theorem LR.len {H : Hp} {a : Addr} {m : List (List Rat)} (h : LR H a m) : ∃ ws, H a = some (.lst ws) ∧ ws.length = m.length := let ⟨ws, e, el, _⟩ := h; ⟨ws, e, el⟩
/-- rows that are being made at D -/
abbrev LI (f : Nat → List Rat) (H1 : Hp) (D : Addr) (i : Nat) (H : Hp) : Prop := LInv (fun j => RowL (f j) D) H1 D i H
theorem LI.next {f : Nat → List Rat} {H1 H H4 : Hp} {D q : Addr} {us : List V} {i : Nat} (h : LI f H1 D i H) (nD : H1 D = none) (s : Same H H4) (nq : H q = none) (hq : H4 q = some (.lst us)) (hu : Ls Rq H4 us (f i)) (hi : i < 1000) :
    ∃ acc, H4 D = some (.lst acc) ∧ acc.length < sizeLine ∧ LI f H1 D (i + 1) (upd H4 D (.lst (acc ++ [V.ref q]))) := by
  have qD : q ≠ D := fun z => by
    obtain ⟨_, ws, e, _⟩ := h
    rw [z, e] at nq
    cases nq
  exact LInv.nextB h (fun j {G G' acc u} hD b hR => RowL.self hR hD b) nD s ⟨q, us, rfl, qD, hq, hu⟩ (by omega)
theorem LI.done {f : Nat → List Rat} {H1 H : Hp} {D : Addr} {n : Nat} {m : List (List Rat)} (h : LI f H1 D n H) (hm : m.length = n) (hf : ∀ i, i < n → m.getD i [] = f i) : LR H D m := by
  obtain ⟨s, ws, e, el, hw⟩ := h
  refine ⟨ws, e, by omega, fun i v ev => ?_⟩
  have hi := (List.getElem?_eq_some_iff.mp ev).1
  rw [hf i (by omega)]
  exact hw i v ev
theorem LI.tab {f : Nat → Nat → Rat} {H1 H : Hp} {D : Addr} {n : Nat} (h : LI (fun i => (List.range n).map (f i)) H1 D n H) : LR H D (tab n f) := h.done (tab_len _ _) fun i hi => tab_row hi
theorem ls_tab {H : Hp} {us : List V} {n : Nat} {g : Nat → Rat} (e : us.length = n) (h : ∀ (j : Nat) (v : V), us[j]? = some v → Rq (g j) H v) : Ls Rq H us ((List.range n).map g) := by
  refine ⟨by rw [e]; simp, fun j u eu => ?_⟩
  have hj := (List.getElem?_eq_some_iff.mp eu).1
  rw [FoQ.co_map, if_pos (by omega)]
  exact h j u eu
theorem at0 {ws : List V} {i : Nat} {v : V} (h : ws[i]? = some v) : atI ws (0 + (i : Int)) = some v := by
  rw [Int.zero_add]
  exact atI_nat h
def spL1 (f : List (List Rat) → List (List Rat)) : Sp := fun vs H Q _ => ∃ (a : Addr) (m : List (List Rat)), vs = [.ref a] ∧ LR H a m ∧ Sqr m ∧ AllE 12 m ∧ ∀ p H', H p = none → Same H H' → LR H' p (f m) → Q (.ref p) H'
def spL2 (f : List (List Rat) → List (List Rat) → List (List Rat)) : Sp := fun vs H Q _ => ∃ (a b : Addr) (m k : List (List Rat)), vs = [.ref a, .ref b] ∧ LR H a m ∧ LR H b k ∧ Sqr m ∧ Sqr k ∧ m.length = k.length ∧ AllE 12 m ∧ AllE 12 k ∧ ∀ p H', H p = none → Same H H' → LR H' p (f m k) → Q (.ref p) H'
def spLAdd : Sp := fun vs H Q _ => ∃ (a b c : Addr) (m k : List (List Rat)) (x : Rat), vs = [.ref a, .ref b, .ref c] ∧ LR H a m ∧ LR H b k ∧ FrQ H c x ∧ FoQ.SzR 12 x ∧ Sqr m ∧ Sqr k ∧ m.length = k.length ∧ AllE 12 m ∧ AllE 12 k ∧ ∀ p H', H p = none → Same H H' → LR H' p (tzip (fun y z => y + x * z) m k) → Q (.ref p) H'
def spLUnit : Sp := fun vs H Q _ => ∃ (n : Nat), vs = [.int n] ∧ n ≤ 8 ∧ ∀ p H', H p = none → Same H H' → LR H' p (tunit n) → Q (.ref p) H'
def spLSent : Sp := fun vs H Q _ => ∃ (a b : Addr) (us : List V) (m : List (List Rat)) (l : List Rat), vs = [.ref a, .ref b] ∧ LR H a m ∧ Sqr m ∧ AllE 12 m ∧ H b = some (.lst us) ∧ Ls Rq H us l ∧ l.length = m.length ∧ AllSz 12 l ∧ ∀ p H' ts, H p = none → Same H H' → H' p = some (.lst ts) → Ls Rq H' ts (sentQ m l) → Q (.ref p) H'
def spLTr : Sp := fun vs H Q _ => ∃ (a : Addr) (m : List (List Rat)), vs = [.ref a] ∧ LR H a m ∧ Sqr m ∧ AllE 12 m ∧ ∀ p H', H p = none → Same H H' → FrQ H' p (ttr m) → Q (.ref p) H'
def spLRows (K : PySem.W.Frag) : Sp := fun vs H Q _ => ∃ (a : Addr) (m : List (List Rat)), vs = [.ref a] ∧ TabAt K H a m ∧ m.length ≤ 8 ∧ (∀ i, (m.getD i []).length ≤ 1000) ∧ ∀ p H', H p = none → Same H H' → LR H' p m → Q (.ref p) H'
theorem dotQ_sz {x y : List Rat} {n : Nat} (hx : AllSz n x) (hy : AllSz n y) : ∀ k, FoQ.SzR ((2 * n + 1) * k + 1) (dotQ x y k)
  | 0 => FoQ.SzR.zero (by omega)
  | k + 1 => ((dotQ_sz hx hy k).add ((hx k).mul (hy k))).mono (by rw [Nat.mul_add]; omega)
theorem app_keep {H H' : Hp} {D : Addr} {v : V} {acc : List V} (s : Same H H') (nD : H D = none) : Same H (upd H' D (.lst (acc ++ [v]))) := same_set s nD
section
variable {P : Program} {w : World} {K : PySem.W.Frag} {mg : Str → Option Value} {base : Heap}
theorem ok_ttL (T : Tx K mg) : FnOk P w K mg base CX0 3 (He.ga K "_law_times_tables") T.fd_times_tables ["_law_one", "_law_other"] (spL2 tmul) := by
  refine T.F_times_tables.ok sc_times_tables (fun vs H Q E h => ?_) (fun cdv A outer s H vs Q E hr h => ?_)
  · obtain ⟨a, b, m, k, rfl, _⟩ := h
    rfl
  · obtain ⟨a, b, m, k, rfl, hA, hB, ⟨m1, m8, sm⟩, ⟨k1, k8, sk⟩, hl, zm, zk, q⟩ := h
    refine ⟨_, (pss_cons (ps_set (i := 2) sc_times_tables.nd rfl (.inl rfl) (pe_callB call_len_seq (by rfl) T.z_len PySem.boot_len (pa_cons (pv 0) pa_nil)))
      (pss_cons (ps_set (i := 3) sc_times_tables.nd rfl (.inl rfl) (pe_lst pa_nil))
      (pss_cons (ps_for PassesOwn.never rfl (pi_range1 (by rfl) T.z_range (pa_cons (pv 2) pa_nil)) (pg_name (i := 4) sc_times_tables.nd rfl (.inl rfl)) (pss_cons (ps_set (i := 5) sc_times_tables.nd rfl (.inl rfl) (pe_lst pa_nil))
      (pss_cons (ps_for PassesOwn.never rfl (pi_range1 (by rfl) T.z_range (pa_cons (pv 2) pa_nil)) (pg_name (i := 6) sc_times_tables.nd rfl (.inl rfl)) (pss_cons (ps_set (i := 7) sc_times_tables.nd rfl (.inl rfl) (pe_tup (pa_cons pe_int (pa_cons pe_int pa_nil))))
      (pss_cons (ps_for PassesOwn.never rfl (pi_range1 (by rfl) T.z_range (pa_cons (pv 2) pa_nil)) (pg_name (i := 8) sc_times_tables.nd rfl (.inl rfl)) (pss_one (ps_set (i := 7) sc_times_tables.nd rfl (.inl rfl) (pe_call (ok_plusQ T) (hr.mono (by decide)) (by rfl) T.g_plus T.F_plus.kp T.b_plus .nil pass0 (pa_cons (pv 7) (pa_cons (pe_call (ok_timesQ T) (hr.mono (by decide)) (by rfl) T.g_times T.F_times.kp T.b_times .nil pass0 (pa_cons (pe_ix ix_list (pe_ix ix_list (pv 0) (pv 4) (fun _ _ => rfl)) (pv 8) (fun _ _ => rfl)) (pa_cons (pe_ix ix_list (pe_ix ix_list (pv 1) (pv 8) (fun _ _ => rfl)) (pv 6) (fun _ _ => rfl)) pa_nil))) pa_nil))))))
      (pss_one (ps_expr (pe_bm PySem.F.plainAttrs_list PySem.F.slot_list_append PySem.F.type_list_append mt_append (pv 5) (pa_cons (pv 7) pa_nil)))))))
      (pss_one (ps_expr (pe_bm PySem.F.plainAttrs_list PySem.F.slot_list_append PySem.F.type_list_append mt_append (pv 3) (pa_cons (pv 5) pa_nil)))))))
      (pss_one (ps_ret (pv 3)))))), ?_⟩
    obtain ⟨wa, ea, la⟩ := hA.len
    refine ⟨_, rfl, a, _, rfl, .inl (SqL.of ea), (by show 0 ≤ sizeLine; rw [sizeLine_eq]; decide), fun D nD => ?_⟩
    refine ⟨_, rfl, _, rfl, by omega, by omega, ?_⟩
    have s0 := Same.upd nD (o := .lst [])
    refine for_range (fun i σ H' => LI (fun i => (List.range m.length).map fun j => dotQ (m.getD i []) (colm k j) m.length) H D i H' ∧ ∃ o4 o5 o6 o7 o8, σ = [some (.ref a), some (.ref b), some (.int m.length), some (.ref D), o4, o5, o6, o7, o8]) ⟨LInv.start nD, _, _, _, _, _, by rw [← la]; rfl⟩ ?_ ?_
    · rintro i σ H1 hi ⟨h1, o4, o5, o6, o7, o8, rfl⟩
      have hi : i < m.length := by omega
      refine ⟨(by show 0 ≤ sizeLine; rw [sizeLine_eq]; decide), fun D2 nD2 => ?_⟩
      refine ⟨_, rfl, _, rfl, by omega, by omega, ?_⟩
      refine for_range (fun j σ H' => LInv (fun j => Rq (dotQ (m.getD i []) (colm k j) m.length)) H1 D2 j H' ∧ ∃ o6 o7 o8, σ = [some (.ref a), some (.ref b), some (.int m.length), some (.ref D), some (.int (0 + i)), some (.ref D2), o6, o7, o8]) ⟨LInv.start nD2, _, _, _, rfl⟩ ?_ ?_
      · rintro j σ H2 hj ⟨h2, o6, o7, o8, rfl⟩
        have hj : j < m.length := by omega
        refine ⟨(by show 2 ≤ sizeLine; rw [sizeLine_eq]; decide), fun t0 nt0 => ?_⟩
        have s2 := Same.upd nt0 (o := .tup [.int 0, .int 1])
        refine ⟨_, rfl, _, rfl, by omega, by omega, ?_⟩
        refine for_range (fun c σ H' => Same (upd H2 t0 (.tup [.int 0, .int 1])) H' ∧ ∃ f o8, σ = [some (.ref a), some (.ref b), some (.int m.length), some (.ref D), some (.int (0 + i)), some (.ref D2), some (.int (0 + j)), some (.ref f), o8] ∧ FrQ H' f (dotQ (m.getD i []) (colm k j) c)) ⟨Same.refl _, t0, _, rfl, upd_same⟩ ?_ ?_
        · rintro c σ H3 hc ⟨s3, f, o8, rfl, hf⟩
          have hc : c < m.length := by omega
          have sA : Same H H3 := h1.1.trans (h2.1.trans (s2.trans s3))
          obtain ⟨w1, q1, u1, t1, a1, a2, a3, a4, a5⟩ := (hA.same sA).item (i := i) (j := c) hi (by rw [sm i hi]; exact hc)
          obtain ⟨w2, q2, u2, t2, b1, b2, b3, b4, b5⟩ := (hB.same sA).item (i := c) (j := j) (by omega) (by rw [sk c (by omega)]; omega)
          have e5 : FoQ.co (colm k j) c = ent k c j := by
            unfold colm
            rw [FoQ.co_map, if_pos (by omega)]
          have zf : FoQ.SzR 300 (dotQ (m.getD i []) (colm k j) c) := (dotQ_sz (zm i) (colm_sz zk (by decide) j) c).mono (by have : (2 * 12 + 1) * c ≤ 25 * 8 := Nat.mul_le_mul_left _ (by omega); omega)
          refine ⟨_, rfl, _, rfl, _, rfl, a, _, _, _, rfl, rfl, SqL.of a1, at0 a2, _, rfl, q1, _, _, _, rfl, rfl, SqL.of a3, at0 a4, ?_⟩
          refine ⟨_, rfl, _, rfl, b, _, _, _, rfl, rfl, SqL.of b1, at0 b2, _, rfl, q2, _, _, _, rfl, rfl, SqL.of b3, at0 b4, ?_⟩
          refine ⟨t1, t2, _, _, rfl, a5, b5, (zm i c).mono (by decide), (zk c j).mono (by decide), fun p4 n4 => ?_⟩
          have s4 := Same.upd n4 (o := qt (ent m i c * ent k c j))
          refine ⟨f, p4, _, _, rfl, hf.same s4, upd_same, zf.mono (by decide), ((zm i c).mul (zk c j)).mono (by decide), fun p5 n5 => ?_⟩
          refine ⟨s3.trans (s4.trans (Same.upd n5)), p5, _, rfl, ?_⟩
          show FrQ _ p5 (dotQ (m.getD i []) (colm k j) c + FoQ.co (m.getD i []) c * FoQ.co (colm k j) c)
          rw [e5]
          exact upd_same
        · rintro σ H3 ⟨s3, f, o8, rfl, hf⟩
          have e2 := h2.2
          obtain ⟨wr, er, lr, hr2⟩ := e2
          have er3 := (s2.trans s3) _ _ er
          refine ⟨_, rfl, .inl ⟨rfl, _, SqL.of er3⟩, _, rfl, D2, _, _, rfl, rfl, er3, by rw [lr, sizeLine_eq]; omega, ?_⟩
          have tn : (m.length : Int).toNat = m.length := Int.toNat_natCast _
          obtain ⟨acc, ea2, la2, hn2⟩ := h2.next (fun j => rq_solid _) nD2 (s2.trans s3) (v := .ref f) ⟨f, rfl, by rw [← tn]; exact hf⟩ (by omega)
          rw [er3] at ea2
          cases ea2
          exact ⟨hn2, _, _, _, rfl⟩
      · rintro σ H2 ⟨h2, o6, o7, o8, rfl⟩
        obtain ⟨s2, wr, er, lr, hr2⟩ := h2
        have e1 := h1.2
        obtain ⟨wf, ef, lf, hf⟩ := e1
        have ef2 := s2 _ _ ef
        refine ⟨_, rfl, .inl ⟨rfl, _, SqL.of ef2⟩, _, rfl, D, _, _, rfl, rfl, ef2, by rw [lf, sizeLine_eq]; omega, ?_⟩
        obtain ⟨acc, ea2, la2, hn2⟩ := LI.next h1 nD s2 nD2 er (ls_tab (by rw [lr]; exact Int.toNat_natCast _) hr2) (by omega)
        rw [ef2] at ea2
        cases ea2
        exact ⟨hn2, _, _, _, _, _, rfl⟩
    · rintro σ H1 ⟨h1, o4, o5, o6, o7, o8, rfl⟩
      have tn : ((wa.length : Nat) : Int).toNat = m.length := by rw [Int.toNat_natCast, la]
      rw [tn] at h1
      exact ⟨_, rfl, q D H1 nD h1.1 h1.tab⟩
end

end Fo

set_option maxHeartbeats 4100000
namespace Fo
open PySem PySem.Spec PyProof.Rows L2
/-! ### rows of the law: sums, units, mirrors .. -/
section
variable {P : Program} {w : World} {K : PySem.W.Frag} {mg : Str → Option Value} {base : Heap}
theorem ok_addL (T : Tx K mg) : FnOk P w K mg base CX0 3 (He.ga K "_law_added") T.fd_added ["_law_one", "_law_other", "_law_factor"] spLAdd := by
  refine T.F_added.ok sc_added (fun vs H Q E h => ?_) (fun cdv A outer s H vs Q E hr h => ?_)
  · obtain ⟨a, b, c, m, k, x, rfl, _⟩ := h
    rfl
  · obtain ⟨a, b, c, m, k, x, rfl, hA, hB, hx, zx, ⟨m1, m8, sm⟩, ⟨k1, k8, sk⟩, hl, zm, zk, q⟩ := h
    refine ⟨_, (pss_cons (ps_set (i := 3) sc_added.nd rfl (.inl rfl) (pe_lst pa_nil))
      (pss_cons (ps_for PassesOwn.never rfl (pi_range1 (by rfl) T.z_range (pa_cons (pe_callB call_len_seq (by rfl) T.z_len PySem.boot_len (pa_cons (pv 0) pa_nil)) pa_nil)) (pg_name (i := 4) sc_added.nd rfl (.inr rfl)) (pss_one (ps_expr (pe_bm PySem.F.plainAttrs_list PySem.F.slot_list_append PySem.F.type_list_append mt_append (pv 3) (pa_cons (pe_lc (own := [("_law_k", 5)]) (g := gName 5) rfl sc_added.nd (pi_range1 (by rfl) T.z_range (pa_cons (pe_callB call_len_seq (by rfl) T.z_len PySem.boot_len (pa_cons (pv 0) pa_nil)) pa_nil)) (blkOk_by (own := [("_law_k", 5)]) (N := ["_law_one", "_law_other", "_law_factor", "_law_found", "_law_j", "_law_k"]) (sc := defScope s_added) (by decide +kernel)) (fun _ _ _ _ _ => (pg_name (i := 5) sc_added.nd rfl (.inl rfl))) (fun _ _ _ _ _ => pts_nil) (fun _ _ _ _ _ => (pe_call (ok_plusQ T) (hr.mono (by decide)) (by rfl) T.g_plus T.F_plus.kp T.b_plus .nil pass0 (pa_cons (pe_ix (FoK.ix_listK (K' := K) rfl) (pe_ix (FoK.ix_listK (K' := K) rfl) (pv 0) (pv 4) (fun _ _ => rfl)) (pv 5) (fun _ _ => rfl)) (pa_cons (pe_call (ok_timesQ T) (hr.mono (by decide)) (by rfl) T.g_times T.F_times.kp T.b_times .nil pass0 (pa_cons (pv 2) (pa_cons (pe_ix (FoK.ix_listK (K' := K) rfl) (pe_ix (FoK.ix_listK (K' := K) rfl) (pv 1) (pv 4) (fun _ _ => rfl)) (pv 5) (fun _ _ => rfl)) pa_nil))) pa_nil))))) pa_nil)))))
      (pss_one (ps_ret (pv 3))))), ?_⟩
    refine ⟨(by show 0 ≤ sizeLine; rw [sizeLine_eq]; decide), fun D nD => ?_⟩
    have s0 := Same.upd nD (o := .lst [])
    obtain ⟨wa, ea, la⟩ := hA.len
    refine ⟨_, rfl, a, _, rfl, .inl (SqL.of (s0 _ _ ea)), _, rfl, by omega, by omega, ?_⟩
    have tn : ((wa.length : Nat) : Int).toNat = m.length := by rw [Int.toNat_natCast, la]
    refine for_range (fun i σ H' => LI (fun i => (List.range m.length).map fun j => ent m i j + x * ent k i j) H D i H' ∧ ∃ o4 o5, σ = [some (.ref a), some (.ref b), some (.ref c), some (.ref D), o4, o5]) ⟨LInv.start nD, _, _, rfl⟩ ?_ ?_
    · rintro i σ H1 hi ⟨h1, o4, o5, rfl⟩
      have hi : i < m.length := by omega
      have e1 := h1.2
      obtain ⟨wf, ef, lf, hf⟩ := e1
      refine ⟨_, rfl, .inl ⟨rfl, _, SqL.of ef⟩, ?_⟩
      obtain ⟨wa1, ea1, la1⟩ := (hA.same h1.1).len
      have tn1 : ((wa1.length : Nat) : Int).toNat = m.length := by rw [Int.toNat_natCast, la1]
      refine ⟨_, rfl, a, _, rfl, .inl (SqL.of ea1), _, rfl, by omega, by omega, fun D2 nD2 => ?_⟩
      refine lc_range (LInv (fun j => Rq (ent m i j + x * ent k i j)) H1 D2) (LInv.start nD2) (fun j H2 hj h2 => ?_) (fun H2 h2 => ?_)
      · have hj : j < m.length := by omega
        have sA := h1.1.trans h2.1
        obtain ⟨w1, q1, u1, t1, a1, a2, a3, a4, a5⟩ := (hA.same sA).item (i := i) (j := j) hi (by rw [sm i hi]; exact hj)
        obtain ⟨w2, q2, u2, t2, b1, b2, b3, b4, b5⟩ := (hB.same sA).item (i := i) (j := j) (by omega) (by rw [sk i (by omega)]; omega)
        refine ⟨rfl, ?_⟩
        refine ⟨_, rfl, _, rfl, a, _, _, _, rfl, rfl, SqL.of a1, at0 a2, _, rfl, q1, _, _, _, rfl, rfl, SqL.of a3, at0 a4, ?_⟩
        refine ⟨_, rfl, _, rfl, _, rfl, b, _, _, _, rfl, rfl, SqL.of b1, at0 b2, _, rfl, q2, _, _, _, rfl, rfl, SqL.of b3, at0 b4, ?_⟩
        refine ⟨c, t2, _, _, rfl, hx.same sA, b5, zx.mono (by decide), (zk i j).mono (by decide), fun p4 n4 => ?_⟩
        have s4 := Same.upd n4 (o := qt (x * ent k i j))
        refine ⟨t1, p4, _, _, rfl, a5.same s4, upd_same, (zm i j).mono (by decide), (zx.mul (zk i j)).mono (by decide), fun p5 n5 => ?_⟩
        exact h2.next (fun j => rq_solid _) nD2 (s4.trans (Same.upd n5)) ⟨p5, rfl, upd_same⟩ (by omega)
      · obtain ⟨s2, wr, er, lr, hr2⟩ := h2
        have ef2 := s2 _ _ ef
        refine ⟨D, _, _, rfl, rfl, ef2, by rw [lf, sizeLine_eq]; omega, ?_⟩
        obtain ⟨acc, ea2, la2, hn2⟩ := LI.next h1 nD s2 nD2 er (ls_tab (by rw [lr]; exact tn1) hr2) (by omega)
        rw [ef2] at ea2
        cases ea2
        exact ⟨hn2, _, _, rfl⟩
    · rintro σ H1 ⟨h1, o4, o5, rfl⟩
      rw [tn] at h1
      exact ⟨_, rfl, q D H1 nD h1.1 h1.tab⟩
theorem ok_unitL (T : Tx K mg) : FnOk P w K mg base CX0 1 (He.ga K "_law_unit") T.fd_unit ["_law_size"] spLUnit := by
  refine T.F_unit.ok sc_unit (fun vs H Q E h => ?_) (fun cdv A outer s H vs Q E hr h => ?_)
  · obtain ⟨n, rfl, _⟩ := h
    rfl
  · obtain ⟨n, rfl, h8, q⟩ := h
    refine ⟨_, (pss_one (ps_ret (pe_lc (own := [("_law_j", 1)]) (g := gName 1) rfl sc_unit.nd (pi_range1 (by rfl) T.z_range (pa_cons (pv 0) pa_nil)) (blkOk_by (own := [("_law_j", 1)]) (N := ["_law_size", "_law_j", "_law_k"]) (sc := defScope s_unit) (by decide +kernel)) (fun _ _ _ _ _ => (pg_name (i := 1) sc_unit.nd rfl (.inr rfl))) (fun _ _ _ _ _ => pts_nil) (fun _ _ _ _ _ => (pe_lc (own := [("_law_k", 2)]) (g := gName 2) rfl sc_unit.nd (pi_range1 (by rfl) T.z_range (pa_cons (pv 0) pa_nil)) (blkOk_by (own := [("_law_k", 2)]) (N := ["_law_size", "_law_j", "_law_k"]) (sc := _) (by kernel_rfl)) (fun _ _ _ _ _ => (pg_name (i := 2) sc_unit.nd rfl (.inl rfl))) (fun _ _ _ _ _ => pts_nil) (fun _ _ _ _ _ => (pe_tup (pa_cons (pe_callTy FoA.call_intB (by rfl) T.z_int (by decide +kernel) (pa_cons (pe_cmpR op_eq (pv 1) (pv 2) (nomark _)) pa_nil)) (pa_cons pe_int pa_nil))))))))), ?_⟩
    have tn : ((n : Nat) : Int).toNat = n := Int.toNat_natCast _
    refine ⟨_, rfl, _, rfl, by omega, by omega, fun D nD => ?_⟩
    refine lc_range (LI (fun i => (List.range n).map fun j => if i = j then (1 : Rat) else 0) H D) (LInv.start nD) (fun i H2 hi h => ?_) (fun H2 h => ?_)
    · refine ⟨rfl, _, rfl, _, rfl, by omega, by omega, fun D2 nD2 => ?_⟩
      refine lc_range (LInv (fun j => Rq (if i = j then (1 : Rat) else 0)) H2 D2) (LInv.start nD2) (fun j H3 hj h3 => ?_) (fun H3 h3 => ?_)
      · refine ⟨rfl, _, rfl, _, rfl, rfl, _, rfl, (by show 2 ≤ sizeLine; rw [sizeLine_eq]; decide), fun p np => ?_⟩
        refine h3.next (fun j => rq_solid _) nD2 (Same.upd np) ⟨p, rfl, ?_⟩ (by omega)
        by_cases c : i = j
        · rw [if_pos c, decide_eq_true (show V.int (0 + (i : Int)) = V.int (0 + (j : Int)) by rw [c])]
          exact upd_same
        · rw [if_neg c, decide_eq_false (fun z : V.int (0 + (i : Int)) = V.int (0 + (j : Int)) => c (by have := V.int.inj z; omega))]
          exact upd_same
      · obtain ⟨s5, us, e5, l5, hu⟩ := h3
        exact LI.next h nD s5 nD2 e5 (ls_tab (by rw [l5]; exact tn) hu) (by omega)
    · rw [tn] at h
      exact q D H2 nD h.1 h.tab
theorem ok_flipL (T : Tx K mg) : FnOk P w K mg base CX0 1 (He.ga K "_law_flipped") T.fd_flipped ["_law_rows_here"] (spL1 flip) := by
  refine T.F_flipped.ok sc_flipped (fun vs H Q E h => ?_) (fun cdv A outer s H vs Q E hr h => ?_)
  · obtain ⟨a, m, rfl, _⟩ := h
    rfl
  · obtain ⟨a, m, rfl, hA, ⟨m1, m8, sm⟩, zm, q⟩ := h
    refine ⟨_, (pss_one (ps_ret (pe_lc (own := [("_law_j", 1)]) (g := gName 1) rfl sc_flipped.nd (pi_range1 (by rfl) T.z_range (pa_cons (pe_callB call_len_seq (by rfl) T.z_len PySem.boot_len (pa_cons (pv 0) pa_nil)) pa_nil)) (blkOk_by (own := [("_law_j", 1)]) (N := ["_law_rows_here", "_law_j", "_law_k"]) (sc := defScope s_flipped) (by decide +kernel)) (fun _ _ _ _ _ => (pg_name (i := 1) sc_flipped.nd rfl (.inr rfl))) (fun _ _ _ _ _ => pts_nil) (fun _ _ _ _ _ => (pe_lc (own := [("_law_k", 2)]) (g := gName 2) rfl sc_flipped.nd (pi_range1 (by rfl) T.z_range (pa_cons (pe_callB (FoK.call_lenK (K' := K) (by rfl)) (by rfl) T.z_len PySem.boot_len (pa_cons (pv 0) pa_nil)) pa_nil)) (blkOk_by (own := [("_law_k", 2)]) (N := ["_law_rows_here", "_law_j", "_law_k"]) (sc := _) (by kernel_rfl)) (fun _ _ _ _ _ => (pg_name (i := 2) sc_flipped.nd rfl (.inl rfl))) (fun _ _ _ _ _ => pts_nil) (fun _ _ _ _ _ => (pe_ix (FoK.ix_listK (K' := K) rfl) (pe_ix (FoK.ix_listK (K' := K) rfl) (pv 0) (pv 2) (fun _ _ => rfl)) (pv 1) (fun _ _ => rfl)))))))), ?_⟩
    obtain ⟨wa, ea, la⟩ := hA.len
    have tn : ((wa.length : Nat) : Int).toNat = m.length := by rw [Int.toNat_natCast, la]
    refine ⟨_, rfl, a, _, rfl, .inl (SqL.of ea), _, rfl, by omega, by omega, fun D nD => ?_⟩
    refine lc_range (LI (fun i => (List.range m.length).map fun j => ent m j i) H D) (LInv.start nD) (fun i H2 hi h => ?_) (fun H2 h => ?_)
    · have ea2 := h.1 _ _ ea
      refine ⟨rfl, _, rfl, a, _, rfl, .inl (SqL.of ea2), _, rfl, by omega, by omega, fun D2 nD2 => ?_⟩
      refine lc_range (LInv (fun j => Rq (ent m j i)) H2 D2) (LInv.start nD2) (fun j H3 hj h3 => ?_) (fun H3 h3 => ?_)
      · obtain ⟨w1, q1, u1, t1, a1, a2, a3, a4, a5⟩ := (hA.same (h.1.trans h3.1)).item (i := j) (j := i) (by omega) (by rw [sm j (by omega)]; omega)
        refine ⟨rfl, _, rfl, _, rfl, a, _, _, _, rfl, rfl, SqL.of a1, at0 a2, _, rfl, q1, _, _, _, rfl, rfl, SqL.of a3, at0 a4, ?_⟩
        exact h3.next (fun j => rq_solid _) nD2 (Same.refl _) ⟨t1, rfl, a5⟩ (by omega)
      · obtain ⟨s5, us, e5, l5, hu⟩ := h3
        exact LI.next h nD s5 nD2 e5 (ls_tab (by rw [l5]; exact tn) hu) (by omega)
    · rw [tn] at h
      exact q D H2 nD h.1 h.tab
theorem ok_sentL (T : Tx K mg) : FnOk P w K mg base CX0 3 (He.ga K "_law_sent") T.fd_sent ["_law_rows_here", "_law_beam"] spLSent := by
  refine T.F_sent.ok sc_sent (fun vs H Q E h => ?_) (fun cdv A outer s H vs Q E hr h => ?_)
  · obtain ⟨a, b, us, m, l, rfl, _⟩ := h
    rfl
  · obtain ⟨a, b, us, m, l, rfl, hA, ⟨m1, m8, sm⟩, zm, hb, hL, hl, zl, q⟩ := h
    refine ⟨_, (pss_cons (ps_set (i := 2) sc_sent.nd rfl (.inl rfl) (pe_lst pa_nil))
      (pss_cons (ps_for PassesOwn.never rfl (pi_list (pv 0)) (pg_name (i := 3) sc_sent.nd rfl (.inl rfl)) (pss_cons (ps_set (i := 4) sc_sent.nd rfl (.inl rfl) (pe_tup (pa_cons pe_int (pa_cons pe_int pa_nil))))
      (pss_cons (ps_for PassesOwn.never rfl (pi_range1 (by rfl) T.z_range (pa_cons (pe_callB call_len_seq (by rfl) T.z_len PySem.boot_len (pa_cons (pv 1) pa_nil)) pa_nil)) (pg_name (i := 5) sc_sent.nd rfl (.inl rfl)) (pss_one (ps_set (i := 4) sc_sent.nd rfl (.inl rfl) (pe_call (ok_plusQ T) (hr.mono (by decide)) (by rfl) T.g_plus T.F_plus.kp T.b_plus .nil pass0 (pa_cons (pv 4) (pa_cons (pe_call (ok_timesQ T) (hr.mono (by decide)) (by rfl) T.g_times T.F_times.kp T.b_times .nil pass0 (pa_cons (pe_ix ix_list (pv 3) (pv 5) (fun _ _ => rfl)) (pa_cons (pe_ix ix_list (pv 1) (pv 5) (fun _ _ => rfl)) pa_nil))) pa_nil))))))
      (pss_one (ps_expr (pe_bm PySem.F.plainAttrs_list PySem.F.slot_list_append PySem.F.type_list_append mt_append (pv 2) (pa_cons (pv 4) pa_nil)))))))
      (pss_one (ps_ret (pv 2))))), ?_⟩
    refine ⟨(by show 0 ≤ sizeLine; rw [sizeLine_eq]; decide), fun D nD => ?_⟩
    have s0 := Same.upd nD (o := .lst [])
    obtain ⟨wa, ea, la, hw⟩ := id hA
    refine ⟨_, rfl, a, rfl, ⟨_, SqL.of (s0 _ _ ea)⟩, ?_⟩
    refine for_list (xs := wa) (fun i σ H' => LInv (fun i => Rq (dotQ (m.getD i []) l m.length)) H D i H' ∧ ∃ o3 o4 o5, σ = [some (.ref a), some (.ref b), some (.ref D), o3, o4, o5]) ⟨LInv.start nD, _, _, _, rfl⟩ (fun i σ H' _ h => SqL.of (h.1.1 _ _ ea)) ?_ ?_
    · rintro i v σ H1 ev ⟨h1, o3, o4, o5, rfl⟩
      have hi : i < m.length := by
        have := (List.getElem?_eq_some_iff.mp ev).1
        omega
      obtain ⟨q1, u1, rfl, _, e3, e4⟩ := (hw i v ev).same h1.1
      refine ⟨(by show 2 ≤ sizeLine; rw [sizeLine_eq]; decide), fun t0 nt0 => ?_⟩
      have s2 := Same.upd nt0 (o := .tup [.int 0, .int 1])
      have hb1 := s2 _ _ (h1.1 _ _ hb)
      refine ⟨_, rfl, b, _, rfl, .inl (SqL.of hb1), _, rfl, by have := hL.1; omega, by have := hL.1; omega, ?_⟩
      have tn : ((us.length : Nat) : Int).toNat = m.length := by rw [Int.toNat_natCast, hL.1, hl]
      refine for_range (fun c σ H' => Same (upd H1 t0 (.tup [.int 0, .int 1])) H' ∧ ∃ f o5, σ = [some (.ref a), some (.ref b), some (.ref D), some (.ref q1), some (.ref f), o5] ∧ FrQ H' f (dotQ (m.getD i []) l c)) ⟨Same.refl _, t0, _, rfl, upd_same⟩ ?_ ?_
      · rintro c σ H3 hc ⟨s3, f, o8, rfl, hf⟩
        have hc : c < m.length := by omega
        obtain ⟨v1, ev1, t1, rfl, ht1⟩ := (e4.nl rq_solid (same_nl (s2.trans s3))).at_ (i := c) (by rw [sm i hi]; exact hc)
        obtain ⟨v2, ev2, t2, rfl, ht2⟩ := (hL.nl rq_solid (same_nl (h1.1.trans (s2.trans s3)))).at_ (i := c) (by omega)
        have zf : FoQ.SzR 300 (dotQ (m.getD i []) l c) := (dotQ_sz (zm i) zl c).mono (by have : (2 * 12 + 1) * c ≤ 25 * 8 := Nat.mul_le_mul_left _ (by omega); omega)
        refine ⟨_, rfl, _, rfl, _, rfl, q1, _, _, _, rfl, rfl, SqL.of ((s2.trans s3) _ _ e3), at0 ev1, _, rfl, _, rfl, b, _, _, _, rfl, rfl, SqL.of (s3 _ _ hb1), at0 ev2, ?_⟩
        refine ⟨t1, t2, _, _, rfl, ht1, ht2, (zm i c).mono (by decide), (zl c).mono (by decide), fun p4 n4 => ?_⟩
        have s4 := Same.upd n4 (o := qt (FoQ.co (m.getD i []) c * FoQ.co l c))
        refine ⟨f, p4, _, _, rfl, hf.same s4, upd_same, zf.mono (by decide), ((zm i c).mul (zl c)).mono (by decide), fun p5 n5 => ?_⟩
        exact ⟨s3.trans (s4.trans (Same.upd n5)), p5, _, rfl, upd_same⟩
      · rintro σ H3 ⟨s3, f, o8, rfl, hf⟩
        rw [tn] at hf
        have e2 := h1.2
        obtain ⟨wr, er, lr, hr2⟩ := e2
        have er3 := (s2.trans s3) _ _ er
        refine ⟨_, rfl, .inl ⟨rfl, _, SqL.of er3⟩, _, rfl, D, _, _, rfl, rfl, er3, by rw [lr, sizeLine_eq]; omega, ?_⟩
        obtain ⟨acc, ea2, la2, hn2⟩ := h1.next (fun j => rq_solid _) nD (s2.trans s3) (v := .ref f) ⟨f, rfl, hf⟩ (by omega)
        rw [er3] at ea2
        cases ea2
        exact ⟨hn2, _, _, _, rfl⟩
    · rintro σ H1 ⟨h1, o4, o5, o6, rfl⟩
      obtain ⟨s1, ts, et, lt, ht⟩ := h1
      exact ⟨_, rfl, q D H1 ts nD s1 et (ls_tab (by rw [lt, la]) ht)⟩
theorem ok_trL (T : Tx K mg) : FnOk P w K mg base CX0 3 (He.ga K "_law_trace") T.fd_trace ["_law_rows_here"] spLTr := by
  refine T.F_trace.ok sc_trace (fun vs H Q E h => ?_) (fun cdv A outer s H vs Q E hr h => ?_)
  · obtain ⟨a, m, rfl, _⟩ := h
    rfl
  · obtain ⟨a, m, rfl, hA, ⟨m1, m8, sm⟩, zm, q⟩ := h
    refine ⟨_, (pss_cons (ps_set (i := 1) sc_trace.nd rfl (.inl rfl) (pe_tup (pa_cons pe_int (pa_cons pe_int pa_nil))))
      (pss_cons (ps_for PassesOwn.never rfl (pi_range1 (by rfl) T.z_range (pa_cons (pe_callB call_len_seq (by rfl) T.z_len PySem.boot_len (pa_cons (pv 0) pa_nil)) pa_nil)) (pg_name (i := 2) sc_trace.nd rfl (.inl rfl)) (pss_one (ps_set (i := 1) sc_trace.nd rfl (.inl rfl) (pe_call (ok_plusQ T) (hr.mono (by decide)) (by rfl) T.g_plus T.F_plus.kp T.b_plus .nil pass0 (pa_cons (pv 1) (pa_cons (pe_ix ix_list (pe_ix ix_list (pv 0) (pv 2) (fun _ _ => rfl)) (pv 2) (fun _ _ => rfl)) pa_nil))))))
      (pss_one (ps_ret (pv 1))))), ?_⟩
    refine ⟨(by show 2 ≤ sizeLine; rw [sizeLine_eq]; decide), fun t0 nt0 => ?_⟩
    have s2 := Same.upd nt0 (o := .tup [.int 0, .int 1])
    obtain ⟨wa, ea, la⟩ := hA.len
    have tn : ((wa.length : Nat) : Int).toNat = m.length := by rw [Int.toNat_natCast, la]
    refine ⟨_, rfl, a, _, rfl, .inl (SqL.of (s2 _ _ ea)), _, rfl, by omega, by omega, ?_⟩
    refine for_range (fun c σ H' => Same H H' ∧ ∃ f o5, σ = [some (.ref a), some (.ref f), o5] ∧ H f = none ∧ FrQ H' f (sumQ (fun i => ent m i i) c)) ⟨s2, t0, _, rfl, nt0, upd_same⟩ ?_ ?_
    · rintro c σ H3 hc ⟨s3, f, o8, rfl, nf, hf⟩
      have hc : c < m.length := by omega
      obtain ⟨w1, q1, u1, t1, a1, a2, a3, a4, a5⟩ := (hA.same s3).item (i := c) (j := c) hc (by rw [sm c hc]; exact hc)
      have zf : FoQ.SzR 300 (sumQ (fun i => ent m i i) c) := (sumQ_sz (fun i => zm i i) c).mono (by have : (12 + 1) * c ≤ 13 * 8 := Nat.mul_le_mul_left _ (by omega); omega)
      refine ⟨_, rfl, _, rfl, _, rfl, a, _, _, _, rfl, rfl, SqL.of a1, at0 a2, _, rfl, q1, _, _, _, rfl, rfl, SqL.of a3, at0 a4, ?_⟩
      refine ⟨f, t1, _, _, rfl, hf, a5, zf.mono (by decide), (zm c c).mono (by decide), fun p5 n5 => ?_⟩
      exact ⟨s3.trans (Same.upd n5), p5, _, rfl, s3.free n5, upd_same⟩
    · rintro σ H3 ⟨s3, f, o8, rfl, nf, hf⟩
      rw [tn] at hf
      exact ⟨_, rfl, q f H3 nf s3 hf⟩
theorem ok_rowsL (T : Tx K mg) : FnOk P w K mg base CX0 3 (He.ga K "_law_rows") T.fd_rows ["_law_table_here"] (spLRows K) := by
  refine T.F_rows.ok sc_rows (fun vs H Q E h => ?_) (fun cdv A outer s H vs Q E hr h => ?_)
  · obtain ⟨a, m, rfl, _⟩ := h
    rfl
  · obtain ⟨a, m, rfl, hA, m8, c8, q⟩ := h
    refine ⟨_, (pss_one (ps_ret (pe_lc (own := [("_law_row", 1)]) (g := gName 1) rfl sc_rows.nd (pi_list (pe_meth0 (pv 0) T.cl_T T.mT_rows (ok_Trows T) (hr.mono (by decide)) T.b_Table_rows .nil pass0)) (blkOk_by (own := [("_law_row", 1)]) (N := ["_law_table_here", "_law_row", "_law_item"]) (sc := defScope s_rows) (by decide +kernel)) (fun _ _ _ _ _ => (pg_name (i := 1) sc_rows.nd rfl (.inl rfl))) (fun _ _ _ _ _ => pts_nil) (fun _ _ _ _ _ => (pe_lc (own := [("_law_item", 2)]) (g := gName 2) rfl sc_rows.nd (FoK.pi_tupK (K' := K) (by rfl) (pv 1)) (blkOk_by (own := [("_law_item", 2)]) (N := ["_law_table_here", "_law_row", "_law_item"]) (sc := _) (by kernel_rfl)) (fun _ _ _ _ _ => (pg_name (i := 2) sc_rows.nd rfl (.inl rfl))) (fun _ _ _ _ _ => pts_nil) (fun _ _ _ _ _ => (pe_tup (pa_cons (pe_prop (pv 2) T.cl_R T.p_top (ok_topQ T) (hr.mono (by decide)) T.b_Ratio_top .nil pass0 (by rfl)) (pa_cons (pe_prop (pv 2) T.cl_R T.p_bottom (ok_bottomQ T) (hr.mono (by decide)) T.b_Ratio_bottom .nil pass0 (by rfl)) pa_nil))))))))), ?_⟩
    obtain ⟨dx, t, rs, e1, e2, e3⟩ := id hA
    refine ⟨_, rfl, a, dx, _, rfl, e1, rfl, a, m, rfl, hA, fun p1 H1 r1 n1 s1 hp1 hr1 => ?_⟩
    refine ⟨p1, rfl, ⟨_, SqL.of hp1⟩, fun D nD => ?_⟩
    refine lc_list (LI (fun i => m.getD i []) H1 D) (LInv.start nD) (fun i H2 hi h => SqL.of (h.1 _ _ hp1)) (fun i v H2 ev h => ?_) (fun H2 h => ?_)
    · have hi := (List.getElem?_eq_some_iff.mp ev).1
      have lr1 := hr1.1
      obtain ⟨b1, ws, rfl, hb, hL⟩ := row_solid _ (same_nl h.1) (hr1.2 i v ev)
      have c8i := c8 i
      refine ⟨rfl, _, rfl, b1, rfl, ⟨_, SqT.of hb⟩, fun D2 nD2 => ?_⟩
      refine lc_tup (LInv (fun j => Rq (FoQ.co (m.getD i []) j)) H2 D2) (LInv.start nD2) (fun j H3 hj h3 => SqT.of (h3.1 _ _ hb)) (fun j u H3 eu h3 => ?_) (fun H3 h3 => ?_)
      · have hj := (List.getElem?_eq_some_iff.mp eu).1
        obtain ⟨c, rfl, hc⟩ := rr_solid _ (same_nl h3.1) (hL.2 j u eu)
        obtain ⟨d1, h2⟩ := id hc
        have lw := hL.1
        exact ⟨rfl, _, rfl, c, d1, _, rfl, h2, c, _, rfl, hc, _, rfl, c, d1, _, rfl, h2, c, _, rfl, hc, (by show 2 ≤ sizeLine; rw [sizeLine_eq]; decide), fun p np => h3.next (fun j => rq_solid _) nD2 (Same.upd np) ⟨p, rfl, upd_same⟩ (by omega)⟩
      · obtain ⟨s5, us, e5, l5, hu⟩ := h3
        exact LI.next h nD s5 nD2 e5 ⟨by rw [l5, hL.1], hu⟩ (by omega)
    · rw [hr1.1] at h
      exact q D H2 (s1.free nD) (s1.trans h.1) (h.done rfl fun i hi => rfl)
end

end Fo

set_option maxHeartbeats 4100000
namespace Fo
open PySem PySem.Spec PyProof.Rows L2
/-! ### rows compared; what the law draws; what is refused -/
/-- a list of fractions as a value that is compared -/
def tq (r : Rat) : PyData := .tuple [.int r.num, .int r.den]
theorem dp_q {K : PySem.W.Frag} {H : Hp} {a : Addr} {r : Rat} (h : FrQ H a r) : Dp K H (.ref a) (tq r) := .tup (SqT.of h) (.cons (.int _) (.cons (.int _) .nil))
theorem dp_all {K : PySem.W.Frag} {H : Hp} : ∀ {ws : List V} {l : List Rat}, Ls Rq H ws l → DpAll K H ws (l.map tq)
  | [], l, h => by
    have e : l = [] := List.length_eq_zero_iff.mp h.1.symm
    subst e
    exact .nil
  | v :: ws, [], h => absurd h.1 (by simp)
  | v :: ws, x :: l, h => by
    obtain ⟨a, rfl, ha⟩ := h.2 0 v rfl
    rw [FoQ.co_zero] at ha
    exact .cons (dp_q ha) (dp_all ⟨by have := h.1; simpa using this, fun i w e => by have := h.2 (i + 1) w e; rwa [FoQ.co_succ] at this⟩)
theorem dp_ls {K : PySem.W.Frag} {H : Hp} {a : Addr} {ws : List V} {l : List Rat} (h : H a = some (.lst ws)) (g : Ls Rq H ws l) : Dp K H (.ref a) (.list (l.map tq)) := .lst (SqL.of h) (dp_all g)
theorem eqv2 (u d v e : Int) : PyData.eqv (.tuple [.int u, .int d]) (.tuple [.int v, .int e]) = (decide (u = v) && decide (d = e)) := by
  show ((u == v) && ((d == e) && true)) = _
  rw [Bool.and_true]
  by_cases h1 : u = v <;> by_cases h2 : d = e <;> simp [h1, h2]
theorem tq_eqv (x z : Rat) : PyData.eqv (tq x) (tq z) = decide (x = z) := by
  rw [← eq_bool]
  exact eqv2 _ _ _ _
theorem all_lay : ∀ l : List Rat, PyData.canLayAll0 (l.map tq) = true ∧ PyData.depthAll (l.map tq) ≤ 1
  | [] => ⟨rfl, by decide⟩
  | x :: l => by
    obtain ⟨h1, h2⟩ := all_lay l
    refine ⟨?_, ?_⟩
    · show (PyData.canLay0 (tq x) && PyData.canLayAll0 (l.map tq)) = true
      rw [h1]
      rfl
    · show max (PyData.depth (tq x)) (PyData.depthAll (l.map tq)) ≤ 1
      exact Nat.max_le.mpr ⟨Nat.le_refl 1, h2⟩
theorem ls_shaped (l : List Rat) : SeqAt.shaped (.list (l.map tq)) = true := by
  obtain ⟨h1, h2⟩ := all_lay l
  show (PyData.canLayAll0 (l.map tq) && decide (PyData.depthAll (l.map tq) + 1 ≤ 64)) = true
  rw [h1, decide_eq_true (by omega)]
  rfl
theorem ls_eqv : ∀ l m : List Rat, PyData.eqv (.list (l.map tq)) (.list (m.map tq)) = decide (l = m)
  | [], [] => rfl
  | [], _ :: _ => rfl
  | _ :: _, [] => rfl
  | x :: l, z :: m => by
    have h := ls_eqv l m
    show (PyData.eqv (tq x) (tq z) && PyData.eqv (.list (l.map tq)) (.list (m.map tq))) = _
    rw [h, tq_eqv]
    by_cases e1 : x = z <;> by_cases e2 : l = m <;> simp [e1, e2]
theorem co_snoc (l : List Rat) (r : Rat) (i : Nat) : FoQ.co (l ++ [r]) i = if i < l.length then FoQ.co l i else if i = l.length then r else 0 := by
  unfold FoQ.co
  rw [List.getD_eq_getElem?_getD, List.getD_eq_getElem?_getD, List.getElem?_append]
  split
  · rfl
  · rename_i h
    split
    · rename_i e
      subst e
      simp
    · rename_i e
      rw [List.getElem?_eq_none (by simp; omega)]
      rfl
theorem allSz_snoc {n : Nat} {l : List Rat} {r : Rat} (h : AllSz n l) (g : FoQ.SzR n r) (n0 : 0 < n) : AllSz n (l ++ [r]) := fun i => by
  rw [co_snoc]
  split
  · exact h i
  · split
    · exact g
    · exact FoQ.SzR.zero n0
theorem allSz_nil {n : Nat} (n0 : 0 < n) : AllSz n [] := fun i => by
  rw [FoQ.co_nil]
  exact FoQ.SzR.zero n0
/-- what is made of the box: i items so far -/
def BInv (b : Addr) (c n : Nat) (H1 : Hp) (D : Addr) (i : Nat) (H : Hp) : Prop := But b H1 H ∧ BoxAt H b (n + c * i) ∧ ∃ ws l, H D = some (.lst ws) ∧ l.length = i ∧ Ls Rq H ws l ∧ AllSz 12 l
theorem BInv.next {b : Addr} {c n : Nat} {H1 H H4 : Hp} {D : Addr} {i : Nat} (h : BInv b c n H1 D i H) (nD : H1 D = none) (db : D ≠ b) (s : But b H H4) (hB : BoxAt H4 b (n + c * (i + 1))) {v : V} {r : Rat} (hv : Rq r H4 v) (zr : FoQ.SzR 12 r) (hi : i < 100) :
    ∃ acc, H4 D = some (.lst acc) ∧ acc.length < sizeLine ∧ BInv b c n H1 D (i + 1) (upd H4 D (.lst (acc ++ [v]))) := by
  obtain ⟨s1, hB0, ws, l, e, el, hw, hz⟩ := h
  have e4 := s _ _ e db
  have nl : NLst H4 (upd H4 D (.lst (ws ++ [v]))) := nl_upd e4
  have nl0 := (hB0.nl s).trans nl
  refine ⟨ws, e4, by rw [hw.1, el, sizeLine_eq]; omega, fun a o q z => ?_, ?_, ws ++ [v], l ++ [r], upd_same, by simp [el], (hw.nl rq_solid nl0).snoc (rq_solid _ nl hv), allSz_snoc hz zr (by decide)⟩
  · rw [upd_ne (ne_of_none q nD)]
    exact s a o (s1 a o q z) z
  · obtain ⟨x, k, sd, q, r⟩ := hB
    exact ⟨x, k, sd, by rw [upd_ne (Ne.symm db)]; exact q, r⟩
theorem gen_u {st u : TS} {D : Ends} {σ : L2.St} {H : Hp} (C : L2.St → Hp → Prop) (h1 : ∀ D' : Ends, (∀ σ' H', C σ' H' → D'.nx σ' H') → st D' σ H) (h2 : ∀ σ' H', C σ' H' → u D σ' H') : tSeq st u D σ H := h1 { D with nx := u D } h2
def tr (l : List Rat) : PyData := .list (l.map tq)
theorem dp_rows {K : PySem.W.Frag} {H : Hp} {a : Addr} : ∀ {ws : List V} {m : List (List Rat)}, ws.length = m.length → (∀ (i : Nat) (v : V), ws[i]? = some v → RowL (m.getD i []) a H v) → DpAll K H ws (m.map tr)
  | [], m, h, _ => by
    have e : m = [] := List.length_eq_zero_iff.mp h.symm
    subst e
    exact .nil
  | v :: ws, [], h, _ => absurd h (by simp)
  | v :: ws, x :: l, h, g => by
    obtain ⟨q, us, rfl, _, e3, e4⟩ := g 0 v rfl
    exact .cons (dp_ls e3 e4) (dp_rows (by simpa using h) fun i w e => g (i + 1) w e)
theorem dp_lr {K : PySem.W.Frag} {H : Hp} {a : Addr} {m : List (List Rat)} (h : LR H a m) : Dp K H (.ref a) (.list (m.map tr)) := by
  obtain ⟨ws, e, el, hw⟩ := h
  exact .lst (SqL.of e) (dp_rows el hw)
theorem lay_rows : ∀ m : List (List Rat), PyData.canLayAll0 (m.map tr) = true ∧ PyData.depthAll (m.map tr) ≤ 2
  | [] => ⟨rfl, by decide⟩
  | x :: l => by
    obtain ⟨h1, h2⟩ := lay_rows l
    obtain ⟨g1, g2⟩ := all_lay x
    refine ⟨?_, ?_⟩
    · show (PyData.canLayAll0 (x.map tq) && PyData.canLayAll0 (l.map tr)) = true
      rw [h1, g1]
      rfl
    · show max (PyData.depthAll (x.map tq) + 1) (PyData.depthAll (l.map tr)) ≤ 2
      exact Nat.max_le.mpr ⟨by omega, h2⟩
theorem lr_shaped (m : List (List Rat)) : SeqAt.shaped (.list (m.map tr)) = true := by
  obtain ⟨h1, h2⟩ := lay_rows m
  show (PyData.canLayAll0 (m.map tr) && decide (PyData.depthAll (m.map tr) + 1 ≤ 64)) = true
  rw [h1, decide_eq_true (by omega)]
  rfl
theorem lr_eqv : ∀ l m : List (List Rat), PyData.eqv (.list (l.map tr)) (.list (m.map tr)) = decide (l = m)
  | [], [] => rfl
  | [], _ :: _ => rfl
  | _ :: _, [] => rfl
  | x :: l, z :: m => by
    have h := lr_eqv l m
    show (PyData.eqv (tr x) (tr z) && PyData.eqv (.list (l.map tr)) (.list (m.map tr))) = _
    rw [h]
    unfold tr
    rw [ls_eqv]
    by_cases e1 : x = z <;> by_cases e2 : l = m <;> simp [e1, e2]
theorem lr_ne {K : PySem.W.Frag} {H : Hp} {a b : Addr} {l m : List (List Rat)} {Q : VK} (ha : LR H a l) (hb : LR H b m) (e : l = m) (q : Q (.bl false) H) : rNeD K (.ref a) (.ref b) H Q := by
  refine ⟨_, _, dp_lr ha, dp_lr hb, lr_shaped _, lr_shaped _, ?_⟩
  rw [lr_eqv, decide_eq_true e]
  exact q
theorem lr_eq {K : PySem.W.Frag} {H : Hp} {a b : Addr} {l m : List (List Rat)} {Q : VK} (ha : LR H a l) (hb : LR H b m) (q : Q (.bl (decide (l = m))) H) : rEqD K (.ref a) (.ref b) H Q := by
  refine ⟨_, _, dp_lr ha, dp_lr hb, lr_shaped _, lr_shaped _, ?_⟩
  rw [lr_eqv]
  exact q
theorem three9 (k : Nat) (h : k < 3) : ∃ m : Int, [V.int 3, V.int 9, V.int 999][k]? = some (.int m) ∧ 0 ≤ m ∧ m ≤ 1000 :=
  match k, h with
  | 0, _ => ⟨_, rfl, by decide, by decide⟩
  | 1, _ => ⟨_, rfl, by decide, by decide⟩
  | 2, _ => ⟨_, rfl, by decide, by decide⟩
theorem BoxAt.app {b : Addr} {H : Hp} {E : Addr} {o : HO} {n : Nat} (h : BoxAt H b n) (e : E ≠ b) : BoxAt (upd H E o) b n :=
  let ⟨x, k, sd, q, r⟩ := h
  ⟨x, k, sd, by rw [upd_ne (Ne.symm e)]; exact q, r⟩
theorem getD_snoc (m : List (List Rat)) (l : List Rat) (j : Nat) : (m ++ [l]).getD j [] = if j < m.length then m.getD j [] else if j = m.length then l else [] := by
  rw [List.getD_eq_getElem?_getD, List.getD_eq_getElem?_getD, List.getElem?_append]
  split
  · rfl
  · rename_i h
    split
    · rename_i e
      subst e
      simp
    · rename_i e
      rw [List.getElem?_eq_none (by simp; omega)]
      rfl
/-- rows that are drawn -/
def DInv (b : Addr) (n c : Nat) (H1 : Hp) (D : Addr) (i : Nat) (H : Hp) : Prop := But b H1 H ∧ BoxAt H b (c + 40 * i) ∧ ∃ ws m, H D = some (.lst ws) ∧ ws.length = i ∧ m.length = i ∧ (∀ (j : Nat) (v : V), ws[j]? = some v → RowL (m.getD j []) D H v) ∧ (∀ j, j < i → (m.getD j []).length = n) ∧ AllE 12 m
def spDrawn : Sp := fun vs H Q _ => ∃ (b : Addr) (n c : Nat), vs = [.ref b, .int n] ∧ BoxAt H b c ∧ c ≤ 70000 ∧ 1 ≤ n ∧ n ≤ 8 ∧
  ∀ p H' m, H p = none → LR H' p m → m.length = n → Sqr m → AllE 12 m → BoxAt H' b (c + 400) → But b H H' → Q (.ref p) H'
def Refus (K : PySem.W.Frag) (H : Hp) (y : V) : Prop := NoSeq H y ∨ ∃ a rs, y = .ref a ∧ H a = some (.lst rs) ∧ rs.length ≤ 1000 ∧ BadRows K H rs
theorem BadRows.same {K : PySem.W.Frag} {H H' : Hp} {rs : List V} (h : BadRows K H rs) (s : Same H H') : BadRows K H' rs := by
  rcases h with h | h | ⟨bs, e1, e2, e3⟩
  · exact .inl h
  · exact .inr (.inl h)
  · exact .inr (.inr ⟨bs, e1, e2, fun i v b g1 g2 => (e3 i v b g1 g2).same s⟩)
theorem Refus.same {K : PySem.W.Frag} {H H' : Hp} {y : V} (h : Refus K H y) (s : Same H H') : Refus K H' y := by
  rcases h with h | ⟨a, rs, e1, e2, e3, e4⟩
  · exact .inl h.same
  · exact .inr ⟨a, rs, e1, s _ _ e2, e3, e4.same s⟩
theorem BadNums.same {K : PySem.W.Frag} {H H' : Hp} {m : Int} {y : V} (h : BadNums K H m y) (s : Same H H') : BadNums K H' m y := by
  rcases h with h | ⟨a, ws, bs, e1, e2, e3, e4, e5⟩
  · exact .inl h.same
  · exact .inr ⟨a, ws, bs, e1, e2.same s, e3.same s, e4, e5⟩
def spRefT (K : PySem.W.Frag) : Sp := fun vs H Q _ => ∃ (y : V), vs = [y] ∧ Refus K H y ∧ ∀ H', Same H H' → Q (.bl true) H'
def spNoB (K : PySem.W.Frag) : Sp := fun vs H Q _ => ∃ (a : Addr) (y : V) (m : List (List Rat)), vs = [.ref a, y] ∧ TabAt K H a m ∧ BadNums K H m.length y ∧ ∀ H', Same H H' → Q (.bl true) H'
def spUnl (K : PySem.W.Frag) : Sp := fun vs H Q _ => ∃ (a b : Addr) (m k : List (List Rat)), vs = [.ref a, .ref b] ∧ TabAt K H a m ∧ TabAt K H b k ∧ m.length ≠ k.length ∧ m.length ≤ 100 ∧ k.length ≤ 100 ∧ ∀ H', Same H H' → Q (.bl true) H'
theorem TabAt.ins {K : PySem.W.Frag} {H : Hp} {p : Addr} {m : List (List Rat)} (h : TabAt K H p m) : ∃ dx t, H p = some (.ins (TC K) dx (putF "_rows" (.ref t) [])) := let ⟨dx, t, _, e, _⟩ := h; ⟨dx, t, e⟩
section
variable {P : Program} {w : World} {K : PySem.W.Frag} {mg : Str → Option Value} {base : Heap}
theorem ok_drawnL (T : Tx K mg) : FnOk P w K mg base CX0 3 (He.ga K "_law_drawn") T.fd_drawn ["_law_box_here", "_law_size"] spDrawn := by
  refine T.F_drawn.ok sc_drawn (fun vs H Q E h => ?_) (fun cdv A outer s H vs Q E hr h => ?_)
  · obtain ⟨b, n, c, rfl, _⟩ := h
    rfl
  · obtain ⟨b, n, c, rfl, hB, hc, n1, n8, q⟩ := h
    refine ⟨_, (pss_cons (ps_set (i := 2) sc_drawn.nd rfl (.inl rfl) (pe_lst pa_nil))
      (pss_cons (ps_for PassesOwn.never rfl (pi_range1 (by rfl) T.z_range (pa_cons (pv 1) pa_nil)) (pg_name (i := 3) sc_drawn.nd rfl (.inl rfl)) (pss_one (ps_expr (pe_bm PySem.F.plainAttrs_list PySem.F.slot_list_append PySem.F.type_list_append mt_append (pv 2) (pa_cons (pe_lc (own := [("_law_k", 4)]) (g := gName 4) rfl sc_drawn.nd (pi_range1 (by rfl) T.z_range (pa_cons (pv 1) pa_nil)) (blkOk_by (own := [("_law_k", 4)]) (N := ["_law_box_here", "_law_size", "_law_found", "_law_j", "_law_k"]) (sc := defScope s_drawn) (by decide +kernel)) (fun _ _ _ _ _ => (pg_name (i := 4) sc_drawn.nd rfl (.inl rfl))) (fun _ _ _ _ _ => pts_nil) (fun _ _ _ _ _ => (pe_call (ok_number T) (hr.mono (by decide)) (by rfl) T.g_number T.F_number.kp T.b_number .nil pass0 (pa_cons (pv 0) (pa_cons (pe_ix (FoK.ix_listK (K' := K) rfl) (pe_lst (pa_cons pe_int (pa_cons pe_int (pa_cons pe_int pa_nil)))) (pe_call (ok_take T) (hr.mono (by decide)) (by rfl) T.g_take T.F_take.kp T.b_take .nil pass0 (pa_cons (pv 0) (pa_cons pe_int pa_nil))) (fun _ _ => rfl)) pa_nil))))) pa_nil)))))
      (pss_one (ps_ret (pv 2))))), ?_⟩
    refine ⟨(by show 0 ≤ sizeLine; rw [sizeLine_eq]; decide), fun D nD => ?_⟩
    have db := hB.ne nD
    have tn : ((n : Nat) : Int).toNat = n := Int.toNat_natCast _
    refine ⟨_, rfl, _, rfl, by omega, by omega, ?_⟩
    refine for_range (fun i σ H' => DInv b n c H D i H' ∧ ∃ o4 o5, σ = [some (.ref b), some (.int n), some (.ref D), o4, o5]) ⟨⟨But.of_same (Same.upd nD), hB.same (Same.upd nD), [], [], upd_same, rfl, rfl, fun j v e => by simp at e, fun j h => absurd h (by omega), fun i => allSz_nil (by decide)⟩, _, _, rfl⟩ ?_ ?_
    · rintro i σ H1 hi ⟨⟨b1, hB1, ws, m, e1, lw, lm, hw, hn, zm⟩, o4, o5, rfl⟩
      have hi : i < n := by omega
      refine ⟨_, rfl, .inl ⟨rfl, _, SqL.of e1⟩, ?_⟩
      refine ⟨_, rfl, _, rfl, by omega, by omega, fun D2 nD2 => ?_⟩
      have db2 := hB1.ne nD2
      refine lc_range (BInv b 4 (c + 40 * i) H1 D2) ⟨But.of_same (Same.upd nD2), hB1.same (Same.upd nD2), [], [], upd_same, rfl, Ls.nil, allSz_nil (by decide)⟩ (fun j H2 hj h => ?_) (fun H2 h => ?_)
      · have hj : j < n := by omega
        have h' := h
        obtain ⟨s2, hB2, _⟩ := h'
        refine ⟨rfl, _, rfl, (by show 3 ≤ sizeLine; rw [sizeLine_eq]; decide), fun t1 nt1 => ?_⟩
        have n1 := hB2.ne nt1
        refine ⟨_, rfl, b, 3, _, rfl, hB2.same (Same.upd nt1), by omega, by decide, sz1000, fun g3 H3 g30 g31 hB3 b3 => ?_⟩
        have hL := b3 _ _ upd_same n1
        obtain ⟨k3, rfl⟩ := Int.eq_ofNat_of_zero_le g30
        obtain ⟨m', em, m0, m1⟩ := three9 k3 (by omega)
        refine ⟨t1, _, _, _, rfl, rfl, SqL.of hL, atI_nat em, ?_⟩
        refine ⟨b, m', _, rfl, hB3, by omega, m0, m1, fun p H4 r np hp zr hB4 b4 => ?_⟩
        exact h.next nD2 db2 ((But.of_same (Same.upd nt1)).trans (b3.trans b4)) (hB4.mono (by omega)) ⟨p, rfl, hp⟩ zr (by omega)
      · obtain ⟨s2, hB2, us, l, e, el, hL, zl⟩ := h
        rw [tn] at el hB2
        have e2 : H2 D = some (.lst ws) := s2 _ _ e1 db
        have D2D : D2 ≠ D := fun z => by
          rw [z, e1] at nD2
          cases nD2
        refine ⟨D, _, _, rfl, rfl, e2, by rw [lw, sizeLine_eq]; omega, ?_⟩
        have b2 : But b H (upd H2 D (.lst (ws ++ [V.ref D2]))) := fun x o e0 ne => by
          rw [upd_ne (ne_of_none e0 nD)]
          exact s2 _ _ (b1 _ _ e0 ne) ne
        refine ⟨⟨b2, (hB2.mono (by omega)).app db, ws ++ [V.ref D2], m ++ [l], upd_same, by simp [lw], by simp [lm], fun j v ev => ?_, fun j hj => ?_, fun j => ?_⟩, _, _, rfl⟩
        · rw [getD_snoc]
          have bself : But D H2 (upd H2 D (.lst (ws ++ [V.ref D2]))) := But.upd
          rw [List.getElem?_append] at ev
          split at ev
          · rw [if_pos (by omega)]
            obtain ⟨q3, u3, r1, r2, r3, r4⟩ := hw j v ev
            exact RowL.self ⟨q3, u3, r1, r2, s2 _ _ r3 (ls_ne_box hB1 r3 r4), r4.nl rq_solid (hB1.nl s2)⟩ e2 bself
          · have ej : j - ws.length = 0 := by
              cases q : j - ws.length with
              | zero => rfl
              | succ m =>
                rw [q] at ev
                simp at ev
            rw [ej] at ev
            cases ev
            rw [if_neg (by omega), if_pos (by omega)]
            exact RowL.self ⟨D2, us, rfl, D2D, e, hL⟩ e2 bself
        · rw [getD_snoc]
          split
          · exact hn j (by omega)
          · rw [if_pos (by omega)]
            exact el
        · rw [getD_snoc]
          split
          · exact zm j
          · split
            · exact zl
            · exact allSz_nil (by decide)
    · rintro σ H1 ⟨⟨b1, hB1, ws, m, e1, lw, lm, hw, hn, zm⟩, o4, o5, rfl⟩
      rw [tn] at lw lm hn hB1
      exact ⟨_, rfl, q D H1 m nD ⟨ws, e1, by omega, hw⟩ lm ⟨by omega, by omega, fun i hi => by rw [lm]; exact hn i (by omega)⟩ zm (hB1.mono (by omega)) b1⟩
theorem ok_refT (T : Tx K mg) : FnOk P w K mg base CX0 6 (He.ga K "_law_refused") T.fd_refused ["_law_rows_here"] (spRefT K) := by
  refine T.F_refused.ok sc_refused (fun vs H Q E h => ?_) (fun cdv A outer s H vs Q E hr h => ?_)
  · obtain ⟨y, rfl, _⟩ := h
    rfl
  · obtain ⟨y, rfl, hR, q⟩ := h
    refine ⟨_, (pss_cons (ps_try_only (Wout := fun _ _ _ _ => False) rfl rfl ⟨rfl, by decide, Or.inl T.c_BadTable⟩ takes0 (fun W pn xe tk _ => pss_one (ps_expr (FoC.pe_makeS T.mk_T (ok_TinitX T) (hr.mono (by decide)) (by rfl) T.c_Table T.b_Table_init .nil (fun σ => passAt tk σ) (pa_cons (pv 0) pa_nil)))) (fun a oe cls d pn hz hf => pss_one (ps_ret pe_bl)))
      (pss_one (ps_ret pe_bl))), ?_⟩
    refine ⟨_, rfl, fun x dx nx ndx ne => ?_⟩
    have s1 : Same H (upd (upd H dx (.own x)) x (.ins (TC K) dx [])) := (Same.upd ndx).trans (Same.upd (by rw [upd_ne (Ne.symm ne)]; exact nx))
    refine ⟨x, y, rfl, hR.same s1, fun H' s2 => ?_⟩
    refine ⟨true, T.e_BadTable.me, fun _ x3 nx3 => ?_, fun z => nomatch z⟩
    exact q _ (s1.trans s2)
theorem ok_noB (T : Tx K mg) : FnOk P w K mg base CX0 7 (He.ga K "_law_no_beam") T.fd_no_beam ["_law_table_here", "_law_row"] (spNoB K) := by
  refine T.F_no_beam.ok sc_no_beam (fun vs H Q E h => ?_) (fun cdv A outer s H vs Q E hr h => ?_)
  · obtain ⟨a, y, m, rfl, _⟩ := h
    rfl
  · obtain ⟨a, y, m, rfl, hA, hR, q⟩ := h
    refine ⟨_, (pss_cons (ps_try_only (Wout := fun _ _ _ _ => False) rfl rfl ⟨rfl, by decide, Or.inl T.c_BadBeam⟩ takes0 (fun W pn xe tk _ => pss_one (ps_expr (FoC.pe_methS (pv 0) T.cl_T T.mT_sent (ok_TsentX T) (hr.mono (by decide)) T.b_Table_sent .nil (fun σ => passAt tk σ) (pa_cons (pv 1) pa_nil)))) (fun a oe cls d pn hz hf => pss_one (ps_ret pe_bl)))
      (pss_one (ps_ret pe_bl))), ?_⟩
    obtain ⟨dx, t, e1⟩ := hA.ins
    refine ⟨_, rfl, a, dx, _, rfl, e1, rfl, _, rfl, a, y, m, rfl, hA, hR, fun H' s2 => ?_⟩
    refine ⟨true, T.e_BadBeam.me, fun _ x3 nx3 => ?_, fun z => nomatch z⟩
    exact q _ s2
theorem ok_unl (T : Tx K mg) : FnOk P w K mg base CX0 8 (He.ga K "_law_unlike") T.fd_unlike ["_law_one", "_law_other"] (spUnl K) := by
  refine T.F_unlike.ok sc_unlike (fun vs H Q E h => ?_) (fun cdv A outer s H vs Q E hr h => ?_)
  · obtain ⟨a, b, m, k, rfl, _⟩ := h
    rfl
  · obtain ⟨a, b, m, k, rfl, hA, hB, hl, hn, hk, q⟩ := h
    refine ⟨_, (pss_cons (ps_set (i := 2) sc_unlike.nd rfl (.inl rfl) pe_int)
      (pss_cons (ps_try_only (Wout := fun _ _ _ _ => False) rfl rfl ⟨rfl, by decide, Or.inl T.c_UnlikeTables⟩ takes0 (fun W pn xe tk _ => pss_one (ps_expr (FoS.pe_opS (ok_TaddX T) (hr.mono (by decide)) T.b_Table_add (fun σ => passAt tk σ) T.biT_add (pv 0) (pv 1)))) (fun a oe cls d pn hz hf => pss_one (ps_set (i := 2) sc_unlike.nd rfl (.inl rfl) (pe_op op_add (pv 2) pe_int))))
      (pss_cons (ps_try_only (Wout := fun _ _ _ _ => False) rfl rfl ⟨rfl, by decide, Or.inl T.c_UnlikeTables⟩ takes0 (fun W pn xe tk _ => pss_one (ps_expr (FoS.pe_opS (ok_TsubX T) (hr.mono (by decide)) T.b_Table_sub (fun σ => passAt tk σ) T.biT_sub (pv 0) (pv 1)))) (fun a oe cls d pn hz hf => pss_one (ps_set (i := 2) sc_unlike.nd rfl (.inl rfl) (pe_op op_add (pv 2) pe_int))))
      (pss_cons (ps_try_only (Wout := fun _ _ _ _ => False) rfl rfl ⟨rfl, by decide, Or.inl T.c_UnlikeTables⟩ takes0 (fun W pn xe tk _ => pss_one (ps_expr (FoS.pe_opS (ok_TmulX T) (hr.mono (by decide)) T.b_Table_mul (fun σ => passAt tk σ) T.biT_mul (pv 0) (pv 1)))) (fun a oe cls d pn hz hf => pss_one (ps_set (i := 2) sc_unlike.nd rfl (.inl rfl) (pe_op op_add (pv 2) pe_int))))
      (pss_one (ps_ret (pe_cmpR op_eq (pv 2) pe_int (nomark _)))))))), ?_⟩
    obtain ⟨dx, t, e1⟩ := hA.ins
    obtain ⟨dy, u, f1⟩ := hB.ins
    refine ⟨_, rfl, _, rfl, a, dx, _, b, dy, _, rfl, e1, rfl, f1, a, b, m, k, rfl, hA, hB, hl, hn, hk, fun H1 s1 => ?_⟩
    refine ⟨true, T.e_UnlikeTables.me, fun _ x3 nx3 => ?_, fun z => nomatch z⟩
    refine ⟨_, rfl, _, _, rfl, rfl, ?_⟩
    refine ⟨_, rfl, _, rfl, a, dx, _, b, dy, _, rfl, s1 _ _ e1, rfl, s1 _ _ f1, a, b, m, k, rfl, hA.same s1, hB.same s1, hl, hn, hk, fun H2 s2 => ?_⟩
    refine ⟨true, T.e_UnlikeTables.me, fun _ x3 nx3 => ?_, fun z => nomatch z⟩
    refine ⟨_, rfl, _, _, rfl, rfl, ?_⟩
    have s12 := s1.trans s2
    refine ⟨_, rfl, _, rfl, a, dx, _, b, dy, _, rfl, s12 _ _ e1, rfl, s12 _ _ f1, a, b, m, k, rfl, hA.same s12, hB.same s12, hl, hn, hk, fun H3 s3 => ?_⟩
    refine ⟨true, T.e_UnlikeTables.me, fun _ x3 nx3 => ?_, fun z => nomatch z⟩
    refine ⟨_, rfl, _, _, rfl, rfl, ?_⟩
    exact ⟨_, rfl, rfl, q _ (s12.trans s3)⟩
end

end Fo

set_option maxHeartbeats 4100000
namespace Fo
open PySem PySem.Spec PyProof.Rows L2
/-! ### the errors that the law looks for -/
theorem rep_flat (k : Nat) (v : V) : (List.replicate k [v]).flatten = List.replicate k v := by
  induction k with
  | zero => rfl
  | succ k ih => rw [List.replicate_succ, List.flatten_cons, ih, List.replicate_succ]; rfl
theorem cut_to (ws : List V) (k : Nat) (h : k ≤ ws.length) : cutV ws none (some (k : Int)) = ws.take k := by
  unfold cutV
  have e0 : HT.sIx ws.length 0 none = 0 := rfl
  rw [HT.sIx_nat, e0, List.drop_zero, Nat.sub_zero, Nat.min_eq_left h]
def nb : V → Option Bool
  | .int _ => some true
  | .non => some false
  | .bl _ => some false
  | .str _ => some false
  | _ => none
theorem nums_chk {K : PySem.W.Frag} {H : Hp} {ws : List V} {bs : List Bool} (h : ws.map nb = bs.map some) : Nums K H ws bs := by
  refine ⟨by have := congrArg List.length h; simpa using this.symm, fun i v b e1 e2 => ?_⟩
  have e : (ws.map nb)[i]? = (bs.map some)[i]? := by rw [h]
  rw [List.getElem?_map, List.getElem?_map, e1, e2] at e
  have e : nb v = some b := Option.some.inj e
  cases v <;> cases e
  · exact .inr ⟨rfl, .non⟩
  · exact .inr ⟨rfl, .bl _⟩
  · exact .inl ⟨rfl, _, .inr ⟨_, rfl, rfl⟩⟩
  · exact .inr ⟨rfl, .str _⟩
theorem nums_rep {K : PySem.W.Frag} {H : Hp} (n : Nat) (i : Int) : Nums K H (List.replicate n (.int i)) (List.replicate n true) := nums_chk (by rw [List.map_replicate, List.map_replicate]; rfl)
theorem row_lst {K : PySem.W.Frag} {H : Hp} {q : Addr} {ws : List V} {n : Nat} {b : Bool} (bs : List Bool) (h : H q = some (.lst ws)) (e : ws.map nb = bs.map some) (l : ws.length ≤ 1000) (hb : b = (decide ((ws.length : Int) = (n : Int)) && bs.all id)) : RowB K H n (.ref q) b := .inr ⟨q, ws, bs, rfl, .inl h, nums_chk e, l, hb⟩
theorem bad_at {K : PySem.W.Frag} {H : Hp} {rs : List V} {n i : Nat} (hn : rs.length = n) (hi : i < n) (hbad : ∀ v, rs[i]? = some v → RowB K H n v false) (hgood : ∀ j v, j ≠ i → rs[j]? = some v → RowB K H n v true) : BadRows K H rs := by
  refine .inr (.inr ⟨(List.range n).map (fun j => decide (j ≠ i)), by simp [hn], ?_, fun j v b e1 e2 => ?_⟩)
  · refine List.all_eq_false.mpr ⟨false, List.mem_map.mpr ⟨i, List.mem_range.mpr hi, by simp⟩, by simp⟩
  · have hj := (List.getElem?_eq_some_iff.mp e1).1
    rw [List.getElem?_map, List.getElem?_range (by omega)] at e2
    have e2 : decide (j ≠ i) = b := Option.some.inj e2
    rw [hn]
    by_cases c : j = i
    · subst c
      rw [← e2, decide_eq_false (fun z => z rfl)]
      exact hbad v e1
    · rw [← e2, decide_eq_true c]
      exact hgood j v c e1
theorem cut_from (ws : List V) (k : Nat) (h : k ≤ ws.length) : cutV ws (some (k : Int)) none = ws.drop k := by
  unfold cutV
  have e0 : HT.sIx ws.length ws.length none = ws.length := rfl
  rw [HT.sIx_nat, e0, Nat.min_eq_left h, List.take_of_length_le (by rw [List.length_drop]; exact Nat.le_refl _)]
theorem set_mid (ws : List V) (k : Nat) (x : V) (h : k < ws.length) : (ws.take k ++ [x]) ++ ws.drop (k + 1) = ws.set k x := by
  rw [List.set_eq_take_append_cons_drop, if_pos h, List.append_assoc]
  rfl
def GdRow (n : Nat) (b D : Addr) (H : Hp) (v : V) : Prop := ∃ q, v = .ref q ∧ q ≠ D ∧ q ≠ b ∧ H q = some (.lst (List.replicate n (.int 1)))
/-- a value that is refused, whatever becomes of the box -/
def Odd (K : PySem.W.Frag) (b : Addr) (H : Hp) (y : V) : Prop := ∀ H', But b H H' → Refus K H' y
theorem two_of (k : Nat) (h : k < 2) : ∃ d : Int, [V.int 1, V.int (-1)][k]? = some (.int d) ∧ (d = 1 ∨ d = -1) :=
  match k, h with
  | 0, _ => ⟨_, rfl, .inl rfl⟩
  | 1, _ => ⟨_, rfl, .inr rfl⟩
theorem bent_of (k : Nat) (h : k < 3) : ∃ y : V, [V.non, V.str "1", V.bl true][k]? = some y ∧ nb y = some false :=
  match k, h with
  | 0, _ => ⟨_, rfl, rfl⟩
  | 1, _ => ⟨_, rfl, rfl⟩
  | 2, _ => ⟨_, rfl, rfl⟩
theorem three_of {K : PySem.W.Frag} {H : Hp} {n : Nat} {q1 q2 : Addr} {z : Str} (n1 : 1 ≤ n) (n8 : n ≤ 8) (h1 : H q1 = some (.lst (List.replicate (n + 1) (.int 1)))) (h2 : H q2 = some (.lst (List.replicate n .non))) :
    ∀ (i : Nat) (v : V), [V.ref q1, V.ref q2, V.str z][i]? = some v → BadNums K H (n : Int) v
  | 0, v, e => by
    cases e
    refine .inr ⟨q1, _, _, rfl, .inl h1, nums_rep _ 1, by rw [List.length_replicate]; omega, ?_⟩
    rw [List.length_replicate, decide_eq_false (by omega)]
    rfl
  | 1, v, e => by
    cases e
    refine .inr ⟨q2, _, List.replicate n false, rfl, .inl h2, nums_chk (by rw [List.map_replicate, List.map_replicate]; rfl), by rw [List.length_replicate]; omega, ?_⟩
    have : (List.replicate n false).all id = false := List.all_eq_false.mpr ⟨false, List.mem_replicate.mpr ⟨by omega, rfl⟩, by simp⟩
    rw [this, Bool.and_false]
  | 2, v, e => by
    cases e
    exact .inl (.str _)
theorem bad1 {K : PySem.W.Frag} {H : Hp} {v : V} (h : RowB K H 1 v false) : BadRows K H [v] := bad_at (n := 1) (i := 0) rfl (by decide) (fun w e => by cases e; exact h) (fun j w hj e => by
  have := (List.getElem?_eq_some_iff.mp e).1
  simp at this
  omega)
theorem bad2 {K : PySem.W.Frag} {H : Hp} {v w : V} {b1 b2 : Bool} (h1 : RowB K H 2 v b1) (h2 : RowB K H 2 w b2) (hf : (b1 && b2) = false) : BadRows K H [v, w] := by
  refine .inr (.inr ⟨[b1, b2], rfl, ?_, fun i u b e1 e2 => ?_⟩)
  · show (b1 && (b2 && true)) = false
    rw [Bool.and_true, hf]
  · match i with
    | 0 => cases e1; cases e2; exact h1
    | 1 => cases e1; cases e2; exact h2
    | i + 2 => simp at e1
theorem Odd.same {K : PySem.W.Frag} {b : Addr} {H H' : Hp} {y : V} (h : Odd K b H y) (s : Same H H') : Odd K b H' y := fun G g => h G ((But.of_same s).trans g)
theorem Odd.but {K : PySem.W.Frag} {b : Addr} {H H' : Hp} {y : V} (h : Odd K b H y) (s : But b H H') : Odd K b H' y := fun G g => h G (s.trans g)
theorem Odd.now {K : PySem.W.Frag} {b : Addr} {H : Hp} {y : V} (h : Odd K b H y) : Refus K H y := h H (But.refl b H)
theorem TabAt.but {K : PySem.W.Frag} {H H' : Hp} {p b : Addr} {c : Nat} {m : List (List Rat)} (h : TabAt K H p m) (hB : BoxAt H b c) (s : But b H H') : TabAt K H' p m := h.nl (hB.nl s)
structure Er (K : PySem.W.Frag) (b a D : Addr) (n : Nat) (m : List (List Rat)) (wg : List V) (y : V) (H0 H : Hp) : Prop where
  bx : But b H0 H
  ta : TabAt K H a m
  od : Odd K b H y
  db : D ≠ b
  gd : H D = some (.lst wg)
  gr : ∀ (j : Nat) (v : V), wg[j]? = some v → GdRow n b D H v
theorem Er.same {K : PySem.W.Frag} {b a D : Addr} {n : Nat} {m : List (List Rat)} {wg : List V} {y : V} {H0 H H' : Hp} (h : Er K b a D n m wg y H0 H) (s : Same H H') : Er K b a D n m wg y H0 H' :=
  ⟨h.bx.trans (But.of_same s), h.ta.same s, h.od.same s, h.db, s _ _ h.gd, fun j v e => let ⟨q, e1, e2, e3, e4⟩ := h.gr j v e; ⟨q, e1, e2, e3, s _ _ e4⟩⟩
theorem Er.but {K : PySem.W.Frag} {b a D : Addr} {n c : Nat} {m : List (List Rat)} {wg : List V} {y : V} {H0 H H' : Hp} (h : Er K b a D n m wg y H0 H) (hB : BoxAt H b c) (s : But b H H') : Er K b a D n m wg y H0 H' :=
  ⟨h.bx.trans s, h.ta.but hB s, h.od.but s, h.db, s _ _ h.gd h.db, fun j v e => let ⟨q, e1, e2, e3, e4⟩ := h.gr j v e; ⟨q, e1, e2, e3, s _ _ e4 e3⟩⟩
/-- good rows but one -/
theorem odd_row {K : PySem.W.Frag} {b a D : Addr} {n : Nat} {m : List (List Rat)} {wg : List V} {y : V} {H0 H : Hp} {w r : Addr} {k : Nat} {us : List V} (bs : List Bool) (h : Er K b a D n m wg y H0 H) (hl : wg.length = n) (hk : k < n) (hn : n ≤ 100)
    (hw : H w = some (.lst (wg.set k (.ref r)))) (wb : w ≠ b) (hr : H r = some (.lst us)) (rb : r ≠ b) (e : us.map nb = bs.map some) (lu : us.length ≤ 1000) (hf : false = (decide ((us.length : Int) = (n : Int)) && bs.all id)) : Odd K b H (.ref w) := fun H' bb => by
  refine .inr ⟨w, _, rfl, bb _ _ hw wb, by rw [List.length_set]; omega, bad_at (n := n) (i := k) (by rw [List.length_set, hl]) hk (fun v ev => ?_) (fun j v hj ev => ?_)⟩
  · rw [List.getElem?_set_self (by omega)] at ev
    cases ev
    exact row_lst bs (bb _ _ hr rb) e lu hf
  · rw [List.getElem?_set_ne (fun z => hj z.symm)] at ev
    obtain ⟨q, rfl, _, qb, hq⟩ := h.gr j v ev
    refine row_lst (List.replicate n true) (bb _ _ hq qb) (by rw [List.map_replicate, List.map_replicate]; rfl) (by rw [List.length_replicate]; omega) ?_
    rw [List.length_replicate, decide_eq_true rfl, all_rep]
    rfl
theorem nb_snoc {n : Nat} {y : V} (h : nb y = some false) : (List.replicate n (V.int 1) ++ [y]).map nb = (List.replicate n true ++ [false]).map some := by
  rw [List.map_append, List.map_append, List.map_replicate, List.map_replicate, List.map_singleton, h]
  rfl
theorem all_snoc (n : Nat) : (List.replicate n true ++ [false]).all id = false := List.all_eq_false.mpr ⟨false, by simp, by simp⟩
theorem tunit_len (n : Nat) : (tunit n).length = n := tab_len _ _
theorem tunit_rows (n i : Nat) (h : n ≤ 8) : ((tunit n).getD i []).length ≤ 1000 := by
  by_cases c : i < n
  · unfold tunit
    rw [tab_row c]
    simp
    omega
  · rw [List.getD_eq_getElem?_getD, List.getElem?_eq_none (by rw [tunit_len]; omega)]
    simp
def spErrs (K : PySem.W.Frag) : Sp := fun vs H Q _ => ∃ (b a : Addr) (n c : Nat) (m : List (List Rat)), vs = [.ref b, .ref a, .int n] ∧ BoxAt H b c ∧ c ≤ 80000 ∧ TabAt K H a m ∧ m.length = n ∧ 1 ≤ n ∧ n ≤ 4 ∧ ∀ H', But b H H' → Q (.bl true) H'
section
variable {P : Program} {w : World} {K : PySem.W.Frag} {mg : Str → Option Value} {base : Heap}
theorem ok_errs (T : Tx K mg) : FnOk P w K mg base CX0 8 (He.ga K "_law_errors") T.fd_errors ["_law_box_here", "_law_table_here", "_law_size"] (spErrs K) := by
  refine T.F_errors.ok sc_errors (fun vs H Q E h => ?_) (fun cdv A outer s H vs Q E hr h => ?_)
  · obtain ⟨b, a, n, c, m, rfl, _⟩ := h
    rfl
  · obtain ⟨b, a, n, c, m, rfl, hB, hc, hA, hm, n1, n4, q⟩ := h
    refine ⟨_, (pss_cons (ps_for PassesOwn.never rfl (pi_list (pe_lst (pa_cons (pe_op op_rep (pe_lst (pa_cons pe_int pa_nil)) (pe_op op_add (pv 2) pe_int)) (pa_cons (pe_op op_rep (pe_lst (pa_cons pe_non pa_nil)) (pv 2)) (pa_cons (pe_op FoS.op_mulS pe_str (pv 2)) pa_nil))))) (pg_name (i := 3) sc_errors.nd rfl (.inl rfl)) (pss_one (ps_if (pt_not (pt_val (pe_call (ok_noB T) (hr.mono (by decide)) (by rfl) T.g_no_beam T.F_no_beam.kp T.b_no_beam .nil pass0 (pa_cons (pv 1) (pa_cons (pv 3) pa_nil))))) (pss_one (ps_ret pe_bl)) pss_nil)))
      (pss_cons (ps_set (i := 4) sc_errors.nd rfl (.inl rfl) (pe_ix ix_list (pe_lst (pa_cons (pe_lst pa_nil) (pa_cons (pe_lst (pa_cons (pe_lst pa_nil) pa_nil)) (pa_cons (pe_lst (pa_cons (pe_lst (pa_cons pe_int (pa_cons pe_int pa_nil))) pa_nil)) (pa_cons (pe_lst (pa_cons (pe_lst (pa_cons pe_int pa_nil)) (pa_cons (pe_lst (pa_cons pe_int pa_nil)) pa_nil))) (pa_cons (pe_lst (pa_cons (pe_lst (pa_cons pe_int (pa_cons pe_int pa_nil))) (pa_cons (pe_lst (pa_cons pe_int (pa_cons pe_non pa_nil))) pa_nil))) (pa_cons (pe_lst (pa_cons (pe_lst (pa_cons pe_bl pa_nil)) pa_nil)) (pa_cons pe_str (pa_cons pe_non (pa_cons (pe_lst (pa_cons pe_int pa_nil)) pa_nil)))))))))) (pe_call (ok_take T) (hr.mono (by decide)) (by rfl) T.g_take T.F_take.kp T.b_take .nil pass0 (pa_cons (pv 0) (pa_cons pe_int pa_nil))) (fun _ _ => rfl)))
      (pss_cons (ps_setLc (i := 6) (own := [("_law_k", 5)]) (g := gName 5) rfl sc_errors.nd rfl rfl (sw_true rfl rfl rfl (by decide +kernel)) (pi_range1 (by rfl) T.z_range (pa_cons (pv 2) pa_nil)) (blkOk_by (own := [("_law_k", 5)]) (N := ["_law_box_here", "_law_table_here", "_law_size", "_law_row", "_law_odd", "_law_k", "_law_good", "_law_at", "_law_wide", "_law_bent", "_law_short"]) (sc := defScope s_errors) (by decide +kernel)) (fun _ _ _ _ _ => (pg_name (i := 5) sc_errors.nd rfl (.inl rfl))) (fun _ _ _ _ _ => pts_nil) (fun _ _ _ _ _ => (pe_op op_rep (pe_lst (pa_cons pe_int pa_nil)) (pv 2))))
      (pss_cons (ps_set (i := 7) sc_errors.nd rfl (.inl rfl) (pe_call (ok_take T) (hr.mono (by decide)) (by rfl) T.g_take T.F_take.kp T.b_take .nil pass0 (pa_cons (pv 0) (pa_cons (pv 2) pa_nil))))
      (pss_cons (ps_set (i := 8) sc_errors.nd rfl (.inl rfl) (pe_op op_cat (pe_op op_cat (pe_slice sl_list (pv 6) po_none (po_some (pv 7))) (pe_lst (pa_cons (pe_op op_rep (pe_lst (pa_cons pe_int pa_nil)) (pe_op op_add (pv 2) (pe_ix ix_list (pe_lst (pa_cons pe_int (pa_cons (pe_un un_neg pe_int) pa_nil))) (pe_call (ok_take T) (hr.mono (by decide)) (by rfl) T.g_take T.F_take.kp T.b_take .nil pass0 (pa_cons (pv 0) (pa_cons pe_int pa_nil))) (fun _ _ => rfl)))) pa_nil))) (pe_slice sl_list (pv 6) (po_some (pe_op op_add (pv 7) pe_int)) po_none)))
      (pss_cons (ps_set (i := 9) sc_errors.nd rfl (.inl rfl) (pe_op op_cat (pe_op op_cat (pe_slice sl_list (pv 6) po_none (po_some (pv 7))) (pe_lst (pa_cons (pe_op op_cat (pe_op op_rep (pe_lst (pa_cons pe_int pa_nil)) (pe_op op_sub (pv 2) pe_int)) (pe_lst (pa_cons (pe_ix ix_list (pe_lst (pa_cons pe_non (pa_cons pe_str (pa_cons pe_bl pa_nil)))) (pe_call (ok_take T) (hr.mono (by decide)) (by rfl) T.g_take T.F_take.kp T.b_take .nil pass0 (pa_cons (pv 0) (pa_cons pe_int pa_nil))) (fun _ _ => rfl)) pa_nil))) pa_nil))) (pe_slice sl_list (pv 6) (po_some (pe_op op_add (pv 7) pe_int)) po_none)))
      (pss_cons (ps_if (PW.pt (pw_or (pt_not (pt_val (pe_call (ok_refT T) (hr.mono (by decide)) (by rfl) T.g_refused T.F_refused.kp T.b_refused .nil pass0 (pa_cons (pv 8) pa_nil)))) (pw_or (pt_not (pt_val (pe_call (ok_refT T) (hr.mono (by decide)) (by rfl) T.g_refused T.F_refused.kp T.b_refused .nil pass0 (pa_cons (pv 9) pa_nil)))) (pw_or1 (pt_not (pt_val (pe_call (ok_refT T) (hr.mono (by decide)) (by rfl) T.g_refused T.F_refused.kp T.b_refused .nil pass0 (pa_cons (pe_op op_rep (pe_lst (pa_cons (pe_op op_rep (pe_lst (pa_cons pe_int pa_nil)) pe_int) pa_nil)) pe_int) pa_nil)))))))) (pss_one (ps_ret pe_bl)) pss_nil)
      (pss_cons (ps_set (i := 10) sc_errors.nd rfl (.inl rfl) (pe_op op_rep (pe_lst (pa_cons pe_int pa_nil)) (pe_op op_sub (pv 2) pe_int)))
      (pss_cons (ps_if (PW.pt (pw_or (pt_not (pt_val (pe_call (ok_noB T) (hr.mono (by decide)) (by rfl) T.g_no_beam T.F_no_beam.kp T.b_no_beam .nil pass0 (pa_cons (pv 1) (pa_cons (pv 10) pa_nil))))) (pw_or1 (pt_not (pt_val (pe_call (ok_noB T) (hr.mono (by decide)) (by rfl) T.g_no_beam T.F_no_beam.kp T.b_no_beam .nil pass0 (pa_cons (pv 1) (pa_cons (pe_op op_cat (pv 10) (pe_lst (pa_cons pe_non pa_nil))) pa_nil)))))))) (pss_one (ps_ret pe_bl)) pss_nil)
      (pss_cons (ps_if (PW.pt (pw_or (pt_cmpR (FoA.op_ownC (ok_Teq T) (hr.mono (by decide)) T.b_Table_eq pass0 T.cmT_eq (fun _ _ => rfl)) (pv 1) (FoD.pe_cmethS (E := fun _ => L2.E0) (pe_glob (v := V.ref (TC K)) (by rfl) T.c_Table rfl) T.cr_T T.cm_unit (ok_Tunit T) (hr.mono (by decide)) T.b_Table_unit (fun σ => FoS.passAt0) (pa_cons (pe_op op_add (pv 2) pe_int) pa_nil)) (nomark _)) (pw_or1 (pt_cmpR (FoA.op_ownC (ok_Teq T) (hr.mono (by decide)) T.b_Table_eq pass0 T.cmT_eq (fun _ _ => rfl)) (FoD.pe_cmethS (E := fun _ => L2.E0) (pe_glob (v := V.ref (TC K)) (by rfl) T.c_Table rfl) T.cr_T T.cm_unit (ok_Tunit T) (hr.mono (by decide)) T.b_Table_unit (fun σ => FoS.passAt0) (pa_cons (pe_op op_add (pv 2) pe_int) pa_nil)) (FoD.pe_cmethS (E := fun _ => L2.E0) (pe_glob (v := V.ref (TC K)) (by rfl) T.c_Table rfl) T.cr_T T.cm_unit (ok_Tunit T) (hr.mono (by decide)) T.b_Table_unit (fun σ => FoS.passAt0) (pa_cons (pv 2) pa_nil)) (nomark _))))) (pss_one (ps_ret pe_bl)) pss_nil)
      (pss_one (ps_ret (pe_and (pe_call (ok_refT T) (hr.mono (by decide)) (by rfl) T.g_refused T.F_refused.kp T.b_refused .nil pass0 (pa_cons (pv 4) pa_nil)) (pe_one (pe_cmpR (op_eqD hr.units) (pe_call (ok_rowsL T) (hr.mono (by decide)) (by rfl) T.g_rows T.F_rows.kp T.b_rows .nil pass0 (pa_cons (FoD.pe_cmethS (E := fun _ => L2.E0) (pe_glob (v := V.ref (TC K)) (by rfl) T.c_Table rfl) T.cr_T T.cm_unit (ok_Tunit T) (hr.mono (by decide)) T.b_Table_unit (fun σ => FoS.passAt0) (pa_cons (pv 2) pa_nil)) pa_nil)) (pe_call (ok_unitL T) (hr.mono (by decide)) (by rfl) T.g_unit T.F_unit.kp T.b_unit .nil pass0 (pa_cons (pv 2) pa_nil)) (nomark _)))))))))))))))), ?_⟩
    -- the three beams
    have hBx := hB
    refine ⟨(by show 1 ≤ sizeLine; rw [sizeLine_eq]; decide), fun x1 n_x1 => ?_⟩
    have b_x1 := hBx.ne n_x1
    have t_x1 := Same.upd n_x1 (o := .lst ([.int 1]))
    have f_x1 : upd H x1 (.lst ([.int 1])) x1 = some (.lst ([.int 1])) := upd_same
    replace hBx := hBx.same t_x1
    generalize upd H x1 (.lst ([.int 1])) = A1 at *
    refine ⟨_, rfl, _, _, rfl, rfl, x1, _, _, rfl, rfl, f_x1, by omega, by omega, by rw [sizeLine_eq]; show 1 * ((n : Int) + 1).toNat ≤ _; omega, fun q1 n_q1 => ?_⟩
    have t1 : ((n : Int) + 1).toNat = n + 1 := by omega
    rw [t1, rep_flat]
    have b_q1 := hBx.ne n_q1
    have t_q1 := Same.upd n_q1 (o := .lst (List.replicate (n + 1) (.int 1)))
    have f_q1 : upd A1 q1 (.lst (List.replicate (n + 1) (.int 1))) q1 = some (.lst (List.replicate (n + 1) (.int 1))) := upd_same
    replace hBx := hBx.same t_q1
    generalize upd A1 q1 (.lst (List.replicate (n + 1) (.int 1))) = A2 at *
    refine ⟨(by show 1 ≤ sizeLine; rw [sizeLine_eq]; decide), fun x2 n_x2 => ?_⟩
    have b_x2 := hBx.ne n_x2
    have t_x2 := Same.upd n_x2 (o := .lst ([.non]))
    have f_x2 : upd A2 x2 (.lst ([.non])) x2 = some (.lst ([.non])) := upd_same
    replace hBx := hBx.same t_x2
    generalize upd A2 x2 (.lst ([.non])) = A3 at *
    refine ⟨_, rfl, x2, _, _, rfl, rfl, f_x2, by omega, by omega, by rw [sizeLine_eq]; show 1 * ((n : Int)).toNat ≤ _; omega, fun q2 n_q2 => ?_⟩
    have t2 : ((n : Int)).toNat = n := by omega
    rw [t2, rep_flat]
    have b_q2 := hBx.ne n_q2
    have t_q2 := Same.upd n_q2 (o := .lst (List.replicate n .non))
    have f_q2 : upd A3 q2 (.lst (List.replicate n .non)) q2 = some (.lst (List.replicate n .non)) := upd_same
    replace hBx := hBx.same t_q2
    generalize upd A3 q2 (.lst (List.replicate n .non)) = A4 at *
    refine ⟨_, rfl, _, _, rfl, rfl, by decide +kernel, by omega, by omega, fun z3 => ?_⟩
    refine ⟨(by show 3 ≤ sizeLine; rw [sizeLine_eq]; decide), fun L3 n_L3 => ?_⟩
    have b_L3 := hBx.ne n_L3
    have t_L3 := Same.upd n_L3 (o := .lst ([.ref q1, .ref q2, .str z3]))
    have f_L3 : upd A4 L3 (.lst ([.ref q1, .ref q2, .str z3])) L3 = some (.lst ([.ref q1, .ref q2, .str z3])) := upd_same
    replace hBx := hBx.same t_L3
    generalize upd A4 L3 (.lst ([.ref q1, .ref q2, .str z3])) = A5 at *
    replace f_q1 := ((t_x2.trans t_q2).trans t_L3) _ _ f_q1
    replace f_q2 := t_L3 _ _ f_q2
    have sA : Same H A5 := (((t_x1.trans t_q1).trans t_x2).trans t_q2).trans t_L3
    have hA5 := hA.same sA
    have hB5 := hBx
    refine ⟨L3, rfl, ⟨_, SqL.of f_L3⟩, ?_⟩
    refine for_list (xs := [V.ref q1, V.ref q2, V.str z3]) (fun i σ H' => Same A5 H' ∧ ∃ o3, σ = [some (.ref b), some (.ref a), some (.int n), o3, none, none, none, none, none, none, none]) ⟨Same.refl _, _, rfl⟩ (fun i σ H' _ h => SqL.of (h.1 _ _ f_L3)) ?_ ?_
    · rintro i v σ H' ev ⟨s2, o3, rfl⟩
      have hv := (three_of (K := K) (z := z3) n1 (by omega) f_q1 f_q2 i v ev).same s2
      refine ⟨_, rfl, _, rfl, a, v, m, rfl, hA5.same s2, by rw [hm]; exact hv, fun H2 s3 => ⟨_, rfl, iteF ?_⟩⟩
      exact ⟨s2.trans s3, _, rfl⟩
    rintro σ H3 ⟨s3, o3, rfl⟩
    replace hBx := hBx.same s3
    have hA3 := hA5.same s3
    have sH3 := sA.trans s3
    -- the odd list
    refine ⟨(by show 0 ≤ sizeLine; rw [sizeLine_eq]; decide), fun r0 n_r0 => ?_⟩
    have b_r0 := hBx.ne n_r0
    have t_r0 := Same.upd n_r0 (o := .lst ([]))
    have f_r0 : upd H3 r0 (.lst ([])) r0 = some (.lst ([])) := upd_same
    replace hBx := hBx.same t_r0
    generalize upd H3 r0 (.lst ([])) = G0 at *
    refine ⟨(by show 0 ≤ sizeLine; rw [sizeLine_eq]; decide), fun u1 n_u1 => ?_⟩
    have b_u1 := hBx.ne n_u1
    have t_u1 := Same.upd n_u1 (o := .lst ([]))
    have f_u1 : upd G0 u1 (.lst ([])) u1 = some (.lst ([])) := upd_same
    replace hBx := hBx.same t_u1
    generalize upd G0 u1 (.lst ([])) = G1 at *
    refine ⟨(by show 1 ≤ sizeLine; rw [sizeLine_eq]; decide), fun r1 n_r1 => ?_⟩
    have b_r1 := hBx.ne n_r1
    have t_r1 := Same.upd n_r1 (o := .lst ([.ref u1]))
    have f_r1 : upd G1 r1 (.lst ([.ref u1])) r1 = some (.lst ([.ref u1])) := upd_same
    replace hBx := hBx.same t_r1
    generalize upd G1 r1 (.lst ([.ref u1])) = G2 at *
    refine ⟨(by show 2 ≤ sizeLine; rw [sizeLine_eq]; decide), fun u2 n_u2 => ?_⟩
    have b_u2 := hBx.ne n_u2
    have t_u2 := Same.upd n_u2 (o := .lst ([.int 1, .int 2]))
    have f_u2 : upd G2 u2 (.lst ([.int 1, .int 2])) u2 = some (.lst ([.int 1, .int 2])) := upd_same
    replace hBx := hBx.same t_u2
    generalize upd G2 u2 (.lst ([.int 1, .int 2])) = G3 at *
    refine ⟨(by show 1 ≤ sizeLine; rw [sizeLine_eq]; decide), fun r2 n_r2 => ?_⟩
    have b_r2 := hBx.ne n_r2
    have t_r2 := Same.upd n_r2 (o := .lst ([.ref u2]))
    have f_r2 : upd G3 r2 (.lst ([.ref u2])) r2 = some (.lst ([.ref u2])) := upd_same
    replace hBx := hBx.same t_r2
    generalize upd G3 r2 (.lst ([.ref u2])) = G4 at *
    refine ⟨(by show 1 ≤ sizeLine; rw [sizeLine_eq]; decide), fun u3 n_u3 => ?_⟩
    have b_u3 := hBx.ne n_u3
    have t_u3 := Same.upd n_u3 (o := .lst ([.int 1]))
    have f_u3 : upd G4 u3 (.lst ([.int 1])) u3 = some (.lst ([.int 1])) := upd_same
    replace hBx := hBx.same t_u3
    generalize upd G4 u3 (.lst ([.int 1])) = G5 at *
    refine ⟨(by show 1 ≤ sizeLine; rw [sizeLine_eq]; decide), fun u4 n_u4 => ?_⟩
    have b_u4 := hBx.ne n_u4
    have t_u4 := Same.upd n_u4 (o := .lst ([.int 2]))
    have f_u4 : upd G5 u4 (.lst ([.int 2])) u4 = some (.lst ([.int 2])) := upd_same
    replace hBx := hBx.same t_u4
    generalize upd G5 u4 (.lst ([.int 2])) = G6 at *
    refine ⟨(by show 2 ≤ sizeLine; rw [sizeLine_eq]; decide), fun r3 n_r3 => ?_⟩
    have b_r3 := hBx.ne n_r3
    have t_r3 := Same.upd n_r3 (o := .lst ([.ref u3, .ref u4]))
    have f_r3 : upd G6 r3 (.lst ([.ref u3, .ref u4])) r3 = some (.lst ([.ref u3, .ref u4])) := upd_same
    replace hBx := hBx.same t_r3
    generalize upd G6 r3 (.lst ([.ref u3, .ref u4])) = G7 at *
    refine ⟨(by show 2 ≤ sizeLine; rw [sizeLine_eq]; decide), fun u5 n_u5 => ?_⟩
    have b_u5 := hBx.ne n_u5
    have t_u5 := Same.upd n_u5 (o := .lst ([.int 1, .int 2]))
    have f_u5 : upd G7 u5 (.lst ([.int 1, .int 2])) u5 = some (.lst ([.int 1, .int 2])) := upd_same
    replace hBx := hBx.same t_u5
    generalize upd G7 u5 (.lst ([.int 1, .int 2])) = G8 at *
    refine ⟨(by show 2 ≤ sizeLine; rw [sizeLine_eq]; decide), fun u6 n_u6 => ?_⟩
    have b_u6 := hBx.ne n_u6
    have t_u6 := Same.upd n_u6 (o := .lst ([.int 3, .non]))
    have f_u6 : upd G8 u6 (.lst ([.int 3, .non])) u6 = some (.lst ([.int 3, .non])) := upd_same
    replace hBx := hBx.same t_u6
    generalize upd G8 u6 (.lst ([.int 3, .non])) = G9 at *
    refine ⟨(by show 2 ≤ sizeLine; rw [sizeLine_eq]; decide), fun r4 n_r4 => ?_⟩
    have b_r4 := hBx.ne n_r4
    have t_r4 := Same.upd n_r4 (o := .lst ([.ref u5, .ref u6]))
    have f_r4 : upd G9 r4 (.lst ([.ref u5, .ref u6])) r4 = some (.lst ([.ref u5, .ref u6])) := upd_same
    replace hBx := hBx.same t_r4
    generalize upd G9 r4 (.lst ([.ref u5, .ref u6])) = G10 at *
    refine ⟨(by show 1 ≤ sizeLine; rw [sizeLine_eq]; decide), fun u7 n_u7 => ?_⟩
    have b_u7 := hBx.ne n_u7
    have t_u7 := Same.upd n_u7 (o := .lst ([.bl true]))
    have f_u7 : upd G10 u7 (.lst ([.bl true])) u7 = some (.lst ([.bl true])) := upd_same
    replace hBx := hBx.same t_u7
    generalize upd G10 u7 (.lst ([.bl true])) = G11 at *
    refine ⟨(by show 1 ≤ sizeLine; rw [sizeLine_eq]; decide), fun r5 n_r5 => ?_⟩
    have b_r5 := hBx.ne n_r5
    have t_r5 := Same.upd n_r5 (o := .lst ([.ref u7]))
    have f_r5 : upd G11 r5 (.lst ([.ref u7])) r5 = some (.lst ([.ref u7])) := upd_same
    replace hBx := hBx.same t_r5
    generalize upd G11 r5 (.lst ([.ref u7])) = G12 at *
    refine ⟨(by show 1 ≤ sizeLine; rw [sizeLine_eq]; decide), fun r8 n_r8 => ?_⟩
    have b_r8 := hBx.ne n_r8
    have t_r8 := Same.upd n_r8 (o := .lst ([.int 1]))
    have f_r8 : upd G12 r8 (.lst ([.int 1])) r8 = some (.lst ([.int 1])) := upd_same
    replace hBx := hBx.same t_r8
    generalize upd G12 r8 (.lst ([.int 1])) = G13 at *
    refine ⟨(by show 9 ≤ sizeLine; rw [sizeLine_eq]; decide), fun L9 n_L9 => ?_⟩
    have b_L9 := hBx.ne n_L9
    have t_L9 := Same.upd n_L9 (o := .lst ([.ref r0, .ref r1, .ref r2, .ref r3, .ref r4, .ref r5, .str "1", .non, .ref r8]))
    have f_L9 : upd G13 L9 (.lst ([.ref r0, .ref r1, .ref r2, .ref r3, .ref r4, .ref r5, .str "1", .non, .ref r8])) L9 = some (.lst ([.ref r0, .ref r1, .ref r2, .ref r3, .ref r4, .ref r5, .str "1", .non, .ref r8])) := upd_same
    replace hBx := hBx.same t_L9
    generalize upd G13 L9 (.lst ([.ref r0, .ref r1, .ref r2, .ref r3, .ref r4, .ref r5, .str "1", .non, .ref r8])) = G14 at *
    replace f_r0 := ((((((((((((((t_u1).trans t_r1).trans t_u2).trans t_r2).trans t_u3).trans t_u4).trans t_r3).trans t_u5).trans t_u6).trans t_r4).trans t_u7).trans t_r5).trans t_r8).trans t_L9) _ _ f_r0
    replace f_u1 := (((((((((((((t_r1).trans t_u2).trans t_r2).trans t_u3).trans t_u4).trans t_r3).trans t_u5).trans t_u6).trans t_r4).trans t_u7).trans t_r5).trans t_r8).trans t_L9) _ _ f_u1
    replace f_r1 := ((((((((((((t_u2).trans t_r2).trans t_u3).trans t_u4).trans t_r3).trans t_u5).trans t_u6).trans t_r4).trans t_u7).trans t_r5).trans t_r8).trans t_L9) _ _ f_r1
    replace f_u2 := (((((((((((t_r2).trans t_u3).trans t_u4).trans t_r3).trans t_u5).trans t_u6).trans t_r4).trans t_u7).trans t_r5).trans t_r8).trans t_L9) _ _ f_u2
    replace f_r2 := ((((((((((t_u3).trans t_u4).trans t_r3).trans t_u5).trans t_u6).trans t_r4).trans t_u7).trans t_r5).trans t_r8).trans t_L9) _ _ f_r2
    replace f_u3 := (((((((((t_u4).trans t_r3).trans t_u5).trans t_u6).trans t_r4).trans t_u7).trans t_r5).trans t_r8).trans t_L9) _ _ f_u3
    replace f_u4 := ((((((((t_r3).trans t_u5).trans t_u6).trans t_r4).trans t_u7).trans t_r5).trans t_r8).trans t_L9) _ _ f_u4
    replace f_r3 := (((((((t_u5).trans t_u6).trans t_r4).trans t_u7).trans t_r5).trans t_r8).trans t_L9) _ _ f_r3
    replace f_u5 := ((((((t_u6).trans t_r4).trans t_u7).trans t_r5).trans t_r8).trans t_L9) _ _ f_u5
    replace f_u6 := (((((t_r4).trans t_u7).trans t_r5).trans t_r8).trans t_L9) _ _ f_u6
    replace f_r4 := ((((t_u7).trans t_r5).trans t_r8).trans t_L9) _ _ f_r4
    replace f_u7 := (((t_r5).trans t_r8).trans t_L9) _ _ f_u7
    replace f_r5 := ((t_r8).trans t_L9) _ _ f_r5
    replace f_r8 := (t_L9) _ _ f_r8
    have s34 : Same H3 G14 := ((((((((((((((t_r0).trans t_u1).trans t_r1).trans t_u2).trans t_r2).trans t_u3).trans t_u4).trans t_r3).trans t_u5).trans t_u6).trans t_r4).trans t_u7).trans t_r5).trans t_r8).trans t_L9
    have odd9 : ∀ k, k < 9 → ∃ y, [V.ref r0, V.ref r1, V.ref r2, V.ref r3, V.ref r4, V.ref r5, V.str "1", V.non, V.ref r8][k]? = some y ∧ Odd K b G14 y := fun k hk => match k, hk with
      | 0, _ => ⟨_, rfl, fun H' bb => .inr ⟨r0, [], rfl, bb _ _ f_r0 b_r0, by decide, .inl rfl⟩⟩
      | 1, _ => ⟨_, rfl, fun H' bb => .inr ⟨r1, _, rfl, bb _ _ f_r1 b_r1, Nat.le_of_ble_eq_true rfl, bad1 (row_lst [] (bb _ _ f_u1 b_u1) rfl (by decide) rfl)⟩⟩
      | 2, _ => ⟨_, rfl, fun H' bb => .inr ⟨r2, _, rfl, bb _ _ f_r2 b_r2, Nat.le_of_ble_eq_true rfl, bad1 (row_lst [true, true] (bb _ _ f_u2 b_u2) rfl (by decide) rfl)⟩⟩
      | 3, _ => ⟨_, rfl, fun H' bb => .inr ⟨r3, _, rfl, bb _ _ f_r3 b_r3, Nat.le_of_ble_eq_true rfl, bad2 (row_lst [true] (bb _ _ f_u3 b_u3) rfl (by decide) rfl) (row_lst [true] (bb _ _ f_u4 b_u4) rfl (by decide) rfl) rfl⟩⟩
      | 4, _ => ⟨_, rfl, fun H' bb => .inr ⟨r4, _, rfl, bb _ _ f_r4 b_r4, Nat.le_of_ble_eq_true rfl, bad2 (row_lst [true, true] (bb _ _ f_u5 b_u5) rfl (by decide) rfl) (row_lst [true, false] (bb _ _ f_u6 b_u6) rfl (by decide) rfl) rfl⟩⟩
      | 5, _ => ⟨_, rfl, fun H' bb => .inr ⟨r5, _, rfl, bb _ _ f_r5 b_r5, Nat.le_of_ble_eq_true rfl, bad1 (row_lst [false] (bb _ _ f_u7 b_u7) rfl (by decide) rfl)⟩⟩
      | 6, _ => ⟨_, rfl, fun H' bb => .inl (.str _)⟩
      | 7, _ => ⟨_, rfl, fun H' bb => .inl .non⟩
      | 8, _ => ⟨_, rfl, fun H' bb => .inr ⟨r8, _, rfl, bb _ _ f_r8 b_r8, Nat.le_of_ble_eq_true rfl, bad1 (.inl ⟨.int 1, rfl⟩)⟩⟩
    refine ⟨_, rfl, b, 9, c, rfl, hBx, by omega, by decide, sz1000, fun g9 H4 g90 g91 hB4 b4 => ?_⟩
    obtain ⟨k9, rfl⟩ := Int.eq_ofNat_of_zero_le g90
    obtain ⟨y, ey, hy⟩ := odd9 k9 (by omega)
    refine ⟨L9, _, _, _, rfl, rfl, SqL.of (b4 _ _ f_L9 b_L9), atI_nat ey, ?_⟩
    have bH4 : But b H H4 := (But.of_same (sH3.trans s34)).trans b4
    have hA4 : TabAt K H4 a m := (hA3.same s34).but hBx b4
    replace hy : Odd K b H4 y := fun H' bb => hy H' (b4.trans bb)
    -- the good rows
    refine ⟨_, rfl, _, rfl, by omega, by omega, fun D nD => ?_⟩
    have b_D := hB4.ne nD
    refine lc_range (LInv (fun _ => GdRow n b D) H4 D) (LInv.start nD) (fun i H5 hi h => ?_) (fun H5 h => ?_)
    · refine ⟨rfl, (by show 1 ≤ sizeLine; rw [sizeLine_eq]; decide), fun x nx => ?_⟩
      have tx := Same.upd nx (o := .lst [.int 1])
      refine ⟨_, rfl, x, _, _, rfl, rfl, upd_same, by omega, by omega, by rw [sizeLine_eq]; show 1 * ((n : Int)).toNat ≤ _; omega, fun p np => ?_⟩
      rw [t2, rep_flat]
      have hB5 := (hB4.same h.1).same tx
      have pD : p ≠ D := fun z => by
        obtain ⟨_, ws, e, _⟩ := h
        rw [z, tx _ _ e] at np
        cases np
      refine h.nextB (fun j {G G' acc u} hD bt hR => ?_) nD (tx.trans (Same.upd np)) ⟨p, rfl, pD, hB5.ne np, upd_same⟩ (by omega)
      obtain ⟨q3, e3, n3, n3', hP⟩ := hR
      exact ⟨q3, e3, n3, n3', bt _ _ hP n3⟩
    rw [t2] at h
    obtain ⟨s5, wg, eg, lg, hg⟩ := h
    have lg' : wg.length = n := lg
    have hB5 := hB4.same s5
    -- the place
    refine ⟨_, rfl, _, rfl, b, _, _, rfl, hB5, by omega, by omega, sz1000 (by omega) (by omega), fun gat H6 ga0 ga1 hB6 b6 => ?_⟩
    obtain ⟨at_, rfl⟩ := Int.eq_ofNat_of_zero_le ga0
    have hat : at_ < n := by omega
    have eg6 := b6 _ _ eg b_D
    have hg6 : ∀ (j : Nat) (v : V), wg[j]? = some v → GdRow n b D H6 v := fun j v ev => by
      obtain ⟨q3, e3, n3, n3', hP⟩ := hg j v ev
      exact ⟨q3, e3, n3, n3', b6 _ _ hP n3'⟩
    have bH6 : But b H H6 := (bH4.trans (But.of_same s5)).trans b6
    have hA6 : TabAt K H6 a m := (hA4.same s5).but hB5 b6
    replace hy : Odd K b H6 y := fun H' bb => hy H' (((But.of_same s5).trans b6).trans bb)
    have hBx := hB6
    have er : Er K b a D n m wg y H H6 := ⟨bH6, hA6, hy, b_D, eg6, hg6⟩
    -- wide
    refine ⟨_, rfl, _, rfl, _, rfl, D, _, rfl, SqL.of er.gd, fun w1 n_w1 => ?_⟩
    rw [cut_to _ _ (by omega)]
    have b_w1 := hBx.ne n_w1
    have t_w1 := Same.upd n_w1 (o := .lst (wg.take at_))
    have f_w1 : upd H6 w1 (.lst (wg.take at_)) w1 = some (.lst (wg.take at_)) := upd_same
    replace hBx := hBx.same t_w1
    replace er := er.same t_w1
    generalize upd H6 w1 (.lst (wg.take at_)) = B1 at *
    refine ⟨(by show 1 ≤ sizeLine; rw [sizeLine_eq]; decide), fun w2 n_w2 => ?_⟩
    have b_w2 := hBx.ne n_w2
    have t_w2 := Same.upd n_w2 (o := .lst ([.int 1]))
    have f_w2 : upd B1 w2 (.lst ([.int 1])) w2 = some (.lst ([.int 1])) := upd_same
    replace hBx := hBx.same t_w2
    replace er := er.same t_w2
    generalize upd B1 w2 (.lst ([.int 1])) = B2 at *
    refine ⟨_, rfl, _, rfl, (by show 2 ≤ sizeLine; rw [sizeLine_eq]; decide), fun w3 n_w3 => ?_⟩
    have b_w3 := hBx.ne n_w3
    have t_w3 := Same.upd n_w3 (o := .lst ([.int 1, .int (-1)]))
    have f_w3 : upd B2 w3 (.lst ([.int 1, .int (-1)])) w3 = some (.lst ([.int 1, .int (-1)])) := upd_same
    replace hBx := hBx.same t_w3
    replace er := er.same t_w3
    generalize upd B2 w3 (.lst ([.int 1, .int (-1)])) = B3 at *
    refine ⟨_, rfl, b, 2, _, rfl, hBx, by omega, by decide, sz1000, fun g2 H7 g20 g21 hB7 b7 => ?_⟩
    obtain ⟨k2, rfl⟩ := Int.eq_ofNat_of_zero_le g20
    obtain ⟨d, ed, hd⟩ := two_of k2 (by omega)
    replace f_w1 := b7 _ _ ((t_w2.trans t_w3) _ _ f_w1) b_w1
    replace f_w2 := b7 _ _ (t_w3 _ _ f_w2) b_w2
    replace f_w3 := b7 _ _ f_w3 b_w3
    replace er := er.but hBx b7
    replace hBx := hB7
    refine ⟨w3, _, _, _, rfl, rfl, SqL.of f_w3, atI_nat ed, _, _, rfl, rfl, ?_⟩
    obtain ⟨kk, ek⟩ : ∃ kk : Nat, (n : Int) + d = (kk : Int) := ⟨((n : Int) + d).toNat, by omega⟩
    refine ⟨w2, _, _, rfl, rfl, f_w2, by omega, by omega, by rw [sizeLine_eq]; show 1 * ((n : Int) + d).toNat ≤ _; omega, fun w4 n_w4 => ?_⟩
    rw [show ((n : Int) + d).toNat = kk by omega, rep_flat]
    have b_w4 := hBx.ne n_w4
    have t_w4 := Same.upd n_w4 (o := .lst (List.replicate kk (.int 1)))
    have f_w4 : upd H7 w4 (.lst (List.replicate kk (.int 1))) w4 = some (.lst (List.replicate kk (.int 1))) := upd_same
    replace hBx := hBx.same t_w4
    replace er := er.same t_w4
    generalize upd H7 w4 (.lst (List.replicate kk (.int 1))) = B4 at *
    refine ⟨(by show 1 ≤ sizeLine; rw [sizeLine_eq]; decide), fun w5 n_w5 => ?_⟩
    have b_w5 := hBx.ne n_w5
    have t_w5 := Same.upd n_w5 (o := .lst ([.ref w4]))
    have f_w5 : upd B4 w5 (.lst ([.ref w4])) w5 = some (.lst ([.ref w4])) := upd_same
    replace hBx := hBx.same t_w5
    replace er := er.same t_w5
    generalize upd B4 w5 (.lst ([.ref w4])) = B5 at *
    replace f_w1 := (t_w4.trans t_w5) _ _ f_w1
    replace f_w4 := t_w5 _ _ f_w4
    refine ⟨w1, w5, _, _, rfl, rfl, f_w1, f_w5, by rw [sizeLine_eq, List.length_take]; show _ + 1 ≤ _; omega, fun w6 n_w6 => ?_⟩
    have b_w6 := hBx.ne n_w6
    have t_w6 := Same.upd n_w6 (o := .lst (wg.take at_ ++ [.ref w4]))
    have f_w6 : upd B5 w6 (.lst (wg.take at_ ++ [.ref w4])) w6 = some (.lst (wg.take at_ ++ [.ref w4])) := upd_same
    replace hBx := hBx.same t_w6
    replace er := er.same t_w6
    generalize upd B5 w6 (.lst (wg.take at_ ++ [.ref w4])) = B6 at *
    refine ⟨_, rfl, _, rfl, _, _, rfl, rfl, _, rfl, D, _, rfl, SqL.of er.gd, fun w7 n_w7 => ?_⟩
    rw [show ((at_ : Int) + 1) = ((at_ + 1 : Nat) : Int) by omega, cut_from _ _ (by omega)]
    have b_w7 := hBx.ne n_w7
    have t_w7 := Same.upd n_w7 (o := .lst (wg.drop (at_ + 1)))
    have f_w7 : upd B6 w7 (.lst (wg.drop (at_ + 1))) w7 = some (.lst (wg.drop (at_ + 1))) := upd_same
    replace hBx := hBx.same t_w7
    replace er := er.same t_w7
    generalize upd B6 w7 (.lst (wg.drop (at_ + 1))) = B7 at *
    replace f_w6 := t_w7 _ _ f_w6
    replace f_w4 := (t_w6.trans t_w7) _ _ f_w4
    refine ⟨w6, w7, _, _, rfl, rfl, f_w6, f_w7, by rw [sizeLine_eq]; simp; omega, fun w8 n_w8 => ?_⟩
    rw [set_mid _ _ _ (by omega)]
    have b_w8 := hBx.ne n_w8
    have t_w8 := Same.upd n_w8 (o := .lst (wg.set at_ (.ref w4)))
    have f_w8 : upd B7 w8 (.lst (wg.set at_ (.ref w4))) w8 = some (.lst (wg.set at_ (.ref w4))) := upd_same
    replace hBx := hBx.same t_w8
    replace er := er.same t_w8
    generalize upd B7 w8 (.lst (wg.set at_ (.ref w4))) = B8 at *
    replace f_w4 := t_w8 _ _ f_w4
    have ow : Odd K b B8 (.ref w8) := odd_row (List.replicate kk true) er lg' hat (by omega) f_w8 b_w8 f_w4 b_w4 (by rw [List.map_replicate, List.map_replicate]; rfl) (by rw [List.length_replicate]; omega) (by rw [List.length_replicate, decide_eq_false (by omega)]; rfl)
    -- bent
    refine ⟨_, rfl, _, rfl, _, rfl, D, _, rfl, SqL.of er.gd, fun v1 n_v1 => ?_⟩
    rw [cut_to _ _ (by omega)]
    have b_v1 := hBx.ne n_v1
    have t_v1 := Same.upd n_v1 (o := .lst (wg.take at_))
    have f_v1 : upd B8 v1 (.lst (wg.take at_)) v1 = some (.lst (wg.take at_)) := upd_same
    replace hBx := hBx.same t_v1
    replace er := er.same t_v1
    replace ow := ow.same t_v1
    generalize upd B8 v1 (.lst (wg.take at_)) = C1 at *
    refine ⟨(by show 1 ≤ sizeLine; rw [sizeLine_eq]; decide), fun v2 n_v2 => ?_⟩
    have b_v2 := hBx.ne n_v2
    have t_v2 := Same.upd n_v2 (o := .lst ([.int 1]))
    have f_v2 : upd C1 v2 (.lst ([.int 1])) v2 = some (.lst ([.int 1])) := upd_same
    replace hBx := hBx.same t_v2
    replace er := er.same t_v2
    replace ow := ow.same t_v2
    generalize upd C1 v2 (.lst ([.int 1])) = C2 at *
    refine ⟨_, rfl, _, _, rfl, rfl, ?_⟩
    refine ⟨v2, _, _, rfl, rfl, f_v2, by omega, by omega, by rw [sizeLine_eq]; show 1 * ((n : Int) - 1).toNat ≤ _; omega, fun v3 n_v3 => ?_⟩
    rw [show ((n : Int) - 1).toNat = n - 1 by omega, rep_flat]
    have b_v3 := hBx.ne n_v3
    have t_v3 := Same.upd n_v3 (o := .lst (List.replicate (n - 1) (.int 1)))
    have f_v3 : upd C2 v3 (.lst (List.replicate (n - 1) (.int 1))) v3 = some (.lst (List.replicate (n - 1) (.int 1))) := upd_same
    replace hBx := hBx.same t_v3
    replace er := er.same t_v3
    replace ow := ow.same t_v3
    generalize upd C2 v3 (.lst (List.replicate (n - 1) (.int 1))) = C3 at *
    refine ⟨(by show 3 ≤ sizeLine; rw [sizeLine_eq]; decide), fun v4 n_v4 => ?_⟩
    have b_v4 := hBx.ne n_v4
    have t_v4 := Same.upd n_v4 (o := .lst ([.non, .str "1", .bl true]))
    have f_v4 : upd C3 v4 (.lst ([.non, .str "1", .bl true])) v4 = some (.lst ([.non, .str "1", .bl true])) := upd_same
    replace hBx := hBx.same t_v4
    replace er := er.same t_v4
    replace ow := ow.same t_v4
    generalize upd C3 v4 (.lst ([.non, .str "1", .bl true])) = C4 at *
    refine ⟨_, rfl, b, 3, _, rfl, hBx, by omega, by decide, sz1000, fun g3 H8 g30 g31 hB8 b8 => ?_⟩
    obtain ⟨k3, rfl⟩ := Int.eq_ofNat_of_zero_le g30
    obtain ⟨y3, ey3, hy3⟩ := bent_of k3 (by omega)
    replace f_v1 := b8 _ _ (((t_v2.trans t_v3).trans t_v4) _ _ f_v1) b_v1
    replace f_v3 := b8 _ _ (t_v4 _ _ f_v3) b_v3
    replace f_v4 := b8 _ _ f_v4 b_v4
    replace er := er.but hBx b8
    replace ow := ow.but b8
    replace hBx := hB8
    refine ⟨v4, _, _, _, rfl, rfl, SqL.of f_v4, atI_nat ey3, ?_⟩
    refine ⟨(by show 1 ≤ sizeLine; rw [sizeLine_eq]; decide), fun v5 n_v5 => ?_⟩
    have b_v5 := hBx.ne n_v5
    have t_v5 := Same.upd n_v5 (o := .lst ([y3]))
    have f_v5 : upd H8 v5 (.lst ([y3])) v5 = some (.lst ([y3])) := upd_same
    replace hBx := hBx.same t_v5
    replace er := er.same t_v5
    replace ow := ow.same t_v5
    generalize upd H8 v5 (.lst ([y3])) = C5 at *
    replace f_v3 := t_v5 _ _ f_v3
    refine ⟨v3, v5, _, _, rfl, rfl, f_v3, f_v5, by rw [sizeLine_eq, List.length_replicate]; show _ + 1 ≤ _; omega, fun v6 n_v6 => ?_⟩
    have b_v6 := hBx.ne n_v6
    have t_v6 := Same.upd n_v6 (o := .lst (List.replicate (n - 1) (.int 1) ++ [y3]))
    have f_v6 : upd C5 v6 (.lst (List.replicate (n - 1) (.int 1) ++ [y3])) v6 = some (.lst (List.replicate (n - 1) (.int 1) ++ [y3])) := upd_same
    replace hBx := hBx.same t_v6
    replace er := er.same t_v6
    replace ow := ow.same t_v6
    generalize upd C5 v6 (.lst (List.replicate (n - 1) (.int 1) ++ [y3])) = C6 at *
    refine ⟨(by show 1 ≤ sizeLine; rw [sizeLine_eq]; decide), fun v7 n_v7 => ?_⟩
    have b_v7 := hBx.ne n_v7
    have t_v7 := Same.upd n_v7 (o := .lst ([.ref v6]))
    have f_v7 : upd C6 v7 (.lst ([.ref v6])) v7 = some (.lst ([.ref v6])) := upd_same
    replace hBx := hBx.same t_v7
    replace er := er.same t_v7
    replace ow := ow.same t_v7
    generalize upd C6 v7 (.lst ([.ref v6])) = C7 at *
    replace f_v1 := ((t_v5.trans t_v6).trans t_v7) _ _ f_v1
    replace f_v6 := t_v7 _ _ f_v6
    refine ⟨v1, v7, _, _, rfl, rfl, f_v1, f_v7, by rw [sizeLine_eq, List.length_take]; show _ + 1 ≤ _; omega, fun v8 n_v8 => ?_⟩
    have b_v8 := hBx.ne n_v8
    have t_v8 := Same.upd n_v8 (o := .lst (wg.take at_ ++ [.ref v6]))
    have f_v8 : upd C7 v8 (.lst (wg.take at_ ++ [.ref v6])) v8 = some (.lst (wg.take at_ ++ [.ref v6])) := upd_same
    replace hBx := hBx.same t_v8
    replace er := er.same t_v8
    replace ow := ow.same t_v8
    generalize upd C7 v8 (.lst (wg.take at_ ++ [.ref v6])) = C8 at *
    refine ⟨_, rfl, _, rfl, _, _, rfl, rfl, _, rfl, D, _, rfl, SqL.of er.gd, fun v9 n_v9 => ?_⟩
    rw [show ((at_ : Int) + 1) = ((at_ + 1 : Nat) : Int) by omega, cut_from _ _ (by omega)]
    have b_v9 := hBx.ne n_v9
    have t_v9 := Same.upd n_v9 (o := .lst (wg.drop (at_ + 1)))
    have f_v9 : upd C8 v9 (.lst (wg.drop (at_ + 1))) v9 = some (.lst (wg.drop (at_ + 1))) := upd_same
    replace hBx := hBx.same t_v9
    replace er := er.same t_v9
    replace ow := ow.same t_v9
    generalize upd C8 v9 (.lst (wg.drop (at_ + 1))) = C9 at *
    replace f_v8 := t_v9 _ _ f_v8
    refine ⟨v8, v9, _, _, rfl, rfl, f_v8, f_v9, by rw [sizeLine_eq]; simp; omega, fun u1' n_u1' => ?_⟩
    rw [set_mid _ _ _ (by omega)]
    have b_u1' := hBx.ne n_u1'
    have t_u1' := Same.upd n_u1' (o := .lst (wg.set at_ (.ref v6)))
    have f_u1' : upd C9 u1' (.lst (wg.set at_ (.ref v6))) u1' = some (.lst (wg.set at_ (.ref v6))) := upd_same
    replace hBx := hBx.same t_u1'
    replace er := er.same t_u1'
    replace ow := ow.same t_u1'
    generalize upd C9 u1' (.lst (wg.set at_ (.ref v6))) = C10 at *
    replace f_v6 := ((t_v8.trans t_v9).trans t_u1') _ _ f_v6
    have ob : Odd K b C10 (.ref u1') := odd_row (List.replicate (n - 1) true ++ [false]) er lg' hat (by omega) f_u1' b_u1' f_v6 b_v6 (nb_snoc hy3) (by rw [List.length_append, List.length_replicate]; show _ + 1 ≤ _; omega) (by rw [all_snoc, Bool.and_false])
    -- they are refused
    refine ⟨_, rfl, _, rfl, ow.now, fun H9 s9 => ⟨_, rfl, iteF ?_⟩⟩
    replace er := er.same s9
    replace ob := ob.same s9
    replace hBx := hBx.same s9
    refine ⟨_, rfl, _, rfl, ob.now, fun H10 s10 => ⟨_, rfl, iteF ?_⟩⟩
    replace er := er.same s10
    replace hBx := hBx.same s10
    refine ⟨(by show 1 ≤ sizeLine; rw [sizeLine_eq]; decide), fun z1 n_z1 => ?_⟩
    have b_z1 := hBx.ne n_z1
    have t_z1 := Same.upd n_z1 (o := .lst ([.int 0]))
    have f_z1 : upd H10 z1 (.lst ([.int 0])) z1 = some (.lst ([.int 0])) := upd_same
    replace hBx := hBx.same t_z1
    replace er := er.same t_z1
    generalize upd H10 z1 (.lst ([.int 0])) = D1 at *
    refine ⟨z1, _, _, rfl, rfl, f_z1, by omega, by omega, by rw [sizeLine_eq]; show 1 * 9 ≤ _; omega, fun z2 n_z2 => ?_⟩
    rw [show (Int.toNat 9) = 9 from rfl, rep_flat]
    have b_z2 := hBx.ne n_z2
    have t_z2 := Same.upd n_z2 (o := .lst (List.replicate 9 (.int 0)))
    have f_z2 : upd D1 z2 (.lst (List.replicate 9 (.int 0))) z2 = some (.lst (List.replicate 9 (.int 0))) := upd_same
    replace hBx := hBx.same t_z2
    replace er := er.same t_z2
    generalize upd D1 z2 (.lst (List.replicate 9 (.int 0))) = D2 at *
    refine ⟨(by show 1 ≤ sizeLine; rw [sizeLine_eq]; decide), fun z4 n_z4 => ?_⟩
    have b_z4 := hBx.ne n_z4
    have t_z4 := Same.upd n_z4 (o := .lst ([.ref z2]))
    have f_z4 : upd D2 z4 (.lst ([.ref z2])) z4 = some (.lst ([.ref z2])) := upd_same
    replace hBx := hBx.same t_z4
    replace er := er.same t_z4
    generalize upd D2 z4 (.lst ([.ref z2])) = D3 at *
    refine ⟨z4, _, _, rfl, rfl, f_z4, by omega, by omega, by rw [sizeLine_eq]; show 1 * 9 ≤ _; omega, fun z5 n_z5 => ?_⟩
    rw [show (Int.toNat 9) = 9 from rfl, rep_flat]
    have b_z5 := hBx.ne n_z5
    have t_z5 := Same.upd n_z5 (o := .lst (List.replicate 9 (.ref z2)))
    have f_z5 : upd D3 z5 (.lst (List.replicate 9 (.ref z2))) z5 = some (.lst (List.replicate 9 (.ref z2))) := upd_same
    replace hBx := hBx.same t_z5
    replace er := er.same t_z5
    generalize upd D3 z5 (.lst (List.replicate 9 (.ref z2))) = D4 at *
    refine ⟨_, rfl, .inr ⟨z5, _, rfl, f_z5, by rw [List.length_replicate]; decide, .inr (.inl (by rw [List.length_replicate]; decide))⟩, fun H11 s11 => ⟨_, rfl, iteF ?_⟩⟩
    replace er := er.same s11
    replace hBx := hBx.same s11
    try dsimp only [tNext]
    -- short beams
    refine ⟨(by show 1 ≤ sizeLine; rw [sizeLine_eq]; decide), fun y1 n_y1 => ?_⟩
    have b_y1 := hBx.ne n_y1
    have t_y1 := Same.upd n_y1 (o := .lst ([.int 1]))
    have f_y1 : upd H11 y1 (.lst ([.int 1])) y1 = some (.lst ([.int 1])) := upd_same
    replace hBx := hBx.same t_y1
    replace er := er.same t_y1
    generalize upd H11 y1 (.lst ([.int 1])) = E1 at *
    refine ⟨_, rfl, _, _, rfl, rfl, ?_⟩
    refine ⟨y1, _, _, rfl, rfl, f_y1, by omega, by omega, by rw [sizeLine_eq]; show 1 * ((n : Int) - 1).toNat ≤ _; omega, fun y2 n_y2 => ?_⟩
    rw [show ((n : Int) - 1).toNat = n - 1 by omega, rep_flat]
    have b_y2 := hBx.ne n_y2
    have t_y2 := Same.upd n_y2 (o := .lst (List.replicate (n - 1) (.int 1)))
    have f_y2 : upd E1 y2 (.lst (List.replicate (n - 1) (.int 1))) y2 = some (.lst (List.replicate (n - 1) (.int 1))) := upd_same
    replace hBx := hBx.same t_y2
    replace er := er.same t_y2
    generalize upd E1 y2 (.lst (List.replicate (n - 1) (.int 1))) = E2 at *
    have bn2 : BadNums K E2 m.length (.ref y2) := .inr ⟨y2, _, _, rfl, .inl f_y2, nums_rep _ 1, by rw [List.length_replicate]; omega, by rw [List.length_replicate, decide_eq_false (by omega)]; rfl⟩
    refine ⟨_, rfl, _, rfl, a, .ref y2, m, rfl, er.ta, bn2, fun H12 s12 => ⟨_, rfl, iteF ?_⟩⟩
    replace er := er.same s12
    replace hBx := hBx.same s12
    replace f_y2 := s12 _ _ f_y2
    refine ⟨_, rfl, _, rfl, ?_⟩
    refine ⟨(by show 1 ≤ sizeLine; rw [sizeLine_eq]; decide), fun y3' n_y3' => ?_⟩
    have b_y3' := hBx.ne n_y3'
    have t_y3' := Same.upd n_y3' (o := .lst ([.non]))
    have f_y3' : upd H12 y3' (.lst ([.non])) y3' = some (.lst ([.non])) := upd_same
    replace hBx := hBx.same t_y3'
    replace er := er.same t_y3'
    generalize upd H12 y3' (.lst ([.non])) = E3 at *
    replace f_y2 := t_y3' _ _ f_y2
    refine ⟨y2, y3', _, _, rfl, rfl, f_y2, f_y3', by rw [sizeLine_eq, List.length_replicate]; show _ + 1 ≤ _; omega, fun y4 n_y4 => ?_⟩
    have b_y4 := hBx.ne n_y4
    have t_y4 := Same.upd n_y4 (o := .lst (List.replicate (n - 1) (.int 1) ++ [.non]))
    have f_y4 : upd E3 y4 (.lst (List.replicate (n - 1) (.int 1) ++ [.non])) y4 = some (.lst (List.replicate (n - 1) (.int 1) ++ [.non])) := upd_same
    replace hBx := hBx.same t_y4
    replace er := er.same t_y4
    generalize upd E3 y4 (.lst (List.replicate (n - 1) (.int 1) ++ [.non])) = E4 at *
    have bn4 : BadNums K E4 m.length (.ref y4) := .inr ⟨y4, _, List.replicate (n - 1) true ++ [false], rfl, .inl f_y4, nums_chk (nb_snoc rfl), by rw [List.length_append, List.length_replicate]; show _ + 1 ≤ _; omega, by rw [all_snoc, Bool.and_false]⟩
    refine ⟨a, .ref y4, m, rfl, er.ta, bn4, fun H13 s13 => ⟨_, rfl, iteF ?_⟩⟩
    replace er := er.same s13
    replace hBx := hBx.same s13
    try dsimp only [tNext]
    -- unit tables
    have cn : (n : Int) + 1 = ((n + 1 : Nat) : Int) := by omega
    refine ⟨_, rfl, rfl, _, rfl, _, _, rfl, rfl, n + 1, by show [V.ref _, V.int ((n : Int) + 1)] = _; rw [cn], by omega, fun p1 H14 np1 s14 hT1 => ?_⟩
    replace er := er.same s14
    obtain ⟨da, ta, ea⟩ := er.ta.ins
    obtain ⟨d1, tt1, e1⟩ := hT1.ins
    refine ⟨a, da, _, rfl, ea, .ins e1, a, .ref p1, m, rfl, er.ta, .inl ⟨p1, _, rfl, hT1, ?_⟩⟩
    rw [decide_eq_false (fun z => by have := congrArg List.length z; rw [tunit_len] at this; omega)]
    refine ⟨_, rfl, iteF ?_⟩
    refine ⟨rfl, _, rfl, _, _, rfl, rfl, n + 1, by show [V.ref _, V.int ((n : Int) + 1)] = _; rw [cn], by omega, fun p2 H15 np2 s15 hT2 => ?_⟩
    refine ⟨rfl, _, rfl, n, rfl, by omega, fun p3 H16 np3 s16 hT3 => ?_⟩
    have hT2' := hT2.same s16
    obtain ⟨d2, tt2, e2⟩ := hT2'.ins
    obtain ⟨d3, tt3, e3⟩ := hT3.ins
    refine ⟨p2, d2, _, rfl, e2, .ins e3, p2, .ref p3, _, rfl, hT2', .inl ⟨p3, _, rfl, hT3, ?_⟩⟩
    rw [decide_eq_false (fun z => by have := congrArg List.length z; rw [tunit_len, tunit_len] at this; omega)]
    refine ⟨_, rfl, iteF ?_⟩
    replace er := (er.same s15).same s16
    try dsimp only [tNext]
    -- the answer
    refine ⟨_, rfl, _, rfl, er.od.now, fun H17 s17 => ⟨_, rfl, iteT ?_⟩⟩
    replace er := er.same s17
    refine ⟨rfl, _, rfl, n, rfl, by omega, fun p4 H18 np4 s18 hT4 => ?_⟩
    refine ⟨p4, tunit n, rfl, hT4, by rw [tunit_len]; omega, fun i => tunit_rows n i (by omega), fun p5 H19 np5 s19 hL5 => ?_⟩
    refine ⟨_, rfl, n, rfl, by omega, fun p6 H20 np6 s20 hL6 => ?_⟩
    refine lr_eq (hL5.same s20) hL6 ?_
    rw [decide_eq_true rfl]
    exact q _ (((er.same s18).same s19).same s20).bx
end

end Fo

set_option maxHeartbeats 4100000
namespace Fo
open PySem PySem.Spec PyProof.Rows L2
/-! ### the law -/
def spLaw (K : PySem.W.Frag) : Sp := fun vs H Q _ => ∃ (a : Addr) (ns : List Int), vs = [.ref a] ∧ SqL K H a (ns.map V.int) ∧ ns.length ≤ 63 ∧ ∀ H', Q (.bl true) H'
/-- what is made of the box, each item as R says -/
def BL (R : Nat → Hp → V → Prop) (b : Addr) (c n : Nat) (H1 : Hp) (D : Addr) (i : Nat) (H : Hp) : Prop := But b H1 H ∧ BoxAt H b (n + c * i) ∧ ∃ ws, H D = some (.lst ws) ∧ ws.length = i ∧ ∀ (j : Nat) (v : V), ws[j]? = some v → R j H v
theorem BL.start {R : Nat → Hp → V → Prop} {b : Addr} {c n : Nat} {H1 : Hp} {D : Addr} (hB : BoxAt H1 b n) (nD : H1 D = none) : BL R b c n H1 D 0 (upd H1 D (.lst [])) :=
  ⟨But.of_same (Same.upd nD), hB.same (Same.upd nD), [], upd_same, rfl, fun j v e => by simp at e⟩
theorem BL.next {R : Nat → Hp → V → Prop} {b : Addr} {c n : Nat} {H1 H H4 : Hp} {D : Addr} {i : Nat} (h : BL R b c n H1 D i H) (hs : ∀ j, Solid (R j)) (nD : H1 D = none) (db : D ≠ b) (s : But b H H4) (hB : BoxAt H4 b (n + c * (i + 1))) {v : V} (hv : R i H4 v) (hi : i < 100) :
    ∃ acc, H4 D = some (.lst acc) ∧ acc.length < sizeLine ∧ BL R b c n H1 D (i + 1) (upd H4 D (.lst (acc ++ [v]))) := by
  obtain ⟨s1, hB0, ws, e, el, hw⟩ := h
  have e4 := s _ _ e db
  have nl : NLst H4 (upd H4 D (.lst (ws ++ [v]))) := nl_upd e4
  have nl0 := (hB0.nl s).trans nl
  refine ⟨ws, e4, by rw [el, sizeLine_eq]; omega, fun a o q z => ?_, ?_, ws ++ [v], upd_same, by simp [el], fun j u q => ?_⟩
  · rw [upd_ne (ne_of_none q nD)]
    exact s a o (s1 a o q z) z
  · obtain ⟨x, k, sd, q, r⟩ := hB
    exact ⟨x, k, sd, by rw [upd_ne (Ne.symm db)]; exact q, r⟩
  · rw [List.getElem?_append] at q
    split at q
    · exact hs j nl0 (hw j u q)
    · rename_i hj
      have ej : j = i := by
        cases q1 : j - ws.length with
        | zero => omega
        | succ n =>
          rw [q1] at q
          simp at q
      subst ej
      rw [← el, Nat.sub_self] at q
      cases q
      exact hs _ nl hv
theorem Ls.rnl {K : PySem.W.Frag} {H H' : Hp} {ws : List V} {l : List Rat} (h : Ls (Rn K) H ws l) (s : NLst H H') : Ls (Rn K) H' ws l := Ls.nl (R := Rn K) (fun r => rn_solid r) h s
theorem rq_szN {n : Nat} {l : List Rat} (h : AllSz n l) {m : Nat} (e : n ≤ m) : AllSz m l := fun i => (h i).mono e
theorem allSz_map {n : Nat} {f : Nat → Rat} {k : Nat} (h : ∀ i, FoQ.SzR n (f i)) (n0 : 0 < n) : AllSz n ((List.range k).map f) := fun i => by
  rw [FoQ.co_map]
  split
  · exact h i
  · exact FoQ.SzR.zero n0
theorem ls_ne {K : PySem.W.Frag} {H : Hp} {a b : Addr} {ws us : List V} {l m : List Rat} {Q : VK} (ha : H a = some (.lst ws)) (hw : Ls Rq H ws l) (hb : H b = some (.lst us)) (hu : Ls Rq H us m) (e : l = m) (q : Q (.bl false) H) : rNeD K (.ref a) (.ref b) H Q := by
  refine ⟨_, _, dp_ls ha hw, dp_ls hb hu, ls_shaped _, ls_shaped _, ?_⟩
  rw [ls_eqv, decide_eq_true e]
  exact q
theorem fr_ne {K : PySem.W.Frag} {H : Hp} {a b : Addr} {x z : Rat} {Q : VK} (ha : FrQ H a x) (hb : FrQ H b z) (e : x = z) (q : Q (.bl false) H) : rNeD K (.ref a) (.ref b) H Q := by
  refine ⟨_, _, dp_q ha, dp_q hb, rfl, rfl, ?_⟩
  rw [tq_eqv, decide_eq_true e]
  exact q
theorem int_ne {H : Hp} {i j : Int} {Q : VK} (e : i = j) (q : Q (.bl false) H) : rNe (.int i) (.int j) H Q := by
  refine ⟨rfl, ?_⟩
  subst e
  rw [decide_eq_true rfl]
  exact q
theorem bl_ne {H : Hp} {i j : Bool} {Q : VK} (e : i = j) (q : Q (.bl false) H) : rNe (.bl i) (.bl j) H Q := by
  refine ⟨rfl, ?_⟩
  subst e
  rw [decide_eq_true rfl]
  exact q
theorem sz1q : FoM.Sz 4000 (1 : Int) := sz_of 1000000 (by decide) (by decide) (by decide)
theorem allE_mono {n k : Nat} {m : List (List Rat)} (h : AllE n m) (l : n ≤ k) : AllE k m := fun i j => (h i j).mono l
theorem tab_rows (n : Nat) (f : Nat → Nat → Rat) (i : Nat) : ((tab n f).getD i []).length ≤ n := by
  by_cases c : i < n
  · rw [tab_row c]
    simp
  · rw [List.getD_eq_getElem?_getD, List.getElem?_eq_none (by rw [tab_len]; omega)]
    simp
theorem sqr_rows {m : List (List Rat)} (h : Sqr m) (i : Nat) : (m.getD i []).length ≤ 1000 := by
  by_cases c : i < m.length
  · rw [h.2.2 i c]
    have := h.2.1
    omega
  · rw [List.getD_eq_getElem?_getD, List.getElem?_eq_none (by omega)]
    simp
theorem tab_congr {n : Nat} {f g : Nat → Nat → Rat} (h : ∀ i j, f i j = g i j) : tab n f = tab n g := by
  unfold tab
  congr 1
  funext i
  congr 1
  funext j
  exact h i j
theorem tadd_eq (m k : List (List Rat)) : tzip (· + ·) m k = tzip (fun y z => y + 1 * z) m k := tab_congr fun i j => by
  show ent m i j + ent k i j = ent m i j + 1 * ent k i j
  rw [Rat.one_mul]
theorem tsub_eq (m k : List (List Rat)) : tzip (· - ·) m k = tzip (fun y z => y + (-1) * z) m k := tab_congr fun i j => by
  show ent m i j - ent k i j = ent m i j + (-1) * ent k i j
  grind
theorem flip_sqr {m : List (List Rat)} (h : Sqr m) : Sqr (flip m) := by
  have e : (flip m).length = m.length := tab_len _ _
  refine ⟨by rw [e]; exact h.1, by rw [e]; exact h.2.1, fun i hi => ?_⟩
  rw [e] at hi ⊢
  unfold flip
  rw [tab_row hi]
  simp
theorem flip_sz {n : Nat} {m : List (List Rat)} (h : AllE n m) (n0 : 0 < n) : AllE n (flip m) := fun i => by
  by_cases c : i < m.length
  · unfold flip
    rw [tab_row c]
    exact allSz_map (fun j => h j i) n0
  · rw [List.getD_eq_getElem?_getD, List.getElem?_eq_none (by have : (flip m).length = m.length := tab_len _ _; omega)]
    exact allSz_nil n0
/-- rows of numbers that are being made of the box, none of them there ahead of it -/
def RowN (K : PySem.W.Frag) (l : List Rat) (H1 : Hp) (D b : Addr) (H : Hp) (v : V) : Prop := ∃ q us, v = .ref q ∧ q ≠ D ∧ q ≠ b ∧ H1 q = none ∧ H q = some (.lst us) ∧ Ls (Rn K) H us l
def BN (K : PySem.W.Frag) (m : List (List Rat)) (b : Addr) (c n : Nat) (H1 : Hp) (D : Addr) (i : Nat) (H : Hp) : Prop := But b H1 H ∧ BoxAt H b (n + c * i) ∧ ∃ ws, H D = some (.lst ws) ∧ ws.length = i ∧ ∀ (j : Nat) (v : V), ws[j]? = some v → RowN K (m.getD j []) H1 D b H v
theorem BN.start {K : PySem.W.Frag} {m : List (List Rat)} {b : Addr} {c n : Nat} {H1 : Hp} {D : Addr} (hB : BoxAt H1 b n) (nD : H1 D = none) : BN K m b c n H1 D 0 (upd H1 D (.lst [])) :=
  ⟨But.of_same (Same.upd nD), hB.same (Same.upd nD), [], upd_same, rfl, fun j v e => by simp at e⟩
theorem BN.next {K : PySem.W.Frag} {m : List (List Rat)} {b : Addr} {c n : Nat} {H1 H H4 : Hp} {D q : Addr} {us : List V} {i : Nat} (h : BN K m b c n H1 D i H) (nD : H1 D = none) (db : D ≠ b) (s : But b H H4) (hB : BoxAt H4 b (n + c * (i + 1))) (nq : H q = none) (hq : H4 q = some (.lst us)) (hu : Ls (Rn K) H4 us (m.getD i [])) (hi : i < 100) :
    ∃ acc, H4 D = some (.lst acc) ∧ acc.length < sizeLine ∧ BN K m b c n H1 D (i + 1) (upd H4 D (.lst (acc ++ [.ref q]))) := by
  obtain ⟨s1, hB0, ws, e, el, hw⟩ := h
  have qb := hB0.ne nq
  have qD : q ≠ D := fun z => by rw [z, e] at nq; cases nq
  have e4 := s _ _ e db
  have nl : NLst H4 (upd H4 D (.lst (ws ++ [.ref q]))) := nl_upd e4
  have nl0 := (hB0.nl s).trans nl
  refine ⟨ws, e4, by rw [el, sizeLine_eq]; omega, fun a o q z => ?_, ?_, ws ++ [.ref q], upd_same, by simp [el], fun j u g => ?_⟩
  · rw [upd_ne (ne_of_none q nD)]
    exact s a o (s1 a o q z) z
  · obtain ⟨x, k, sd, q, r⟩ := hB
    exact ⟨x, k, sd, by rw [upd_ne (Ne.symm db)]; exact q, r⟩
  · rw [List.getElem?_append] at g
    split at g
    · obtain ⟨q1, us1, e1, n1, n2, n3, h1, h2⟩ := hw j u g
      exact ⟨q1, us1, e1, n1, n2, n3, by rw [upd_ne n1]; exact s _ _ h1 n2, h2.rnl nl0⟩
    · rename_i hj
      have ej : j = i := by
        cases q1 : j - ws.length with
        | zero => omega
        | succ n =>
          rw [q1] at g
          simp at g
      subst ej
      rw [← el, Nat.sub_self] at g
      cases g
      exact ⟨q, us, rfl, qD, qb, s1.free qb nq, by rw [upd_ne qD]; exact hq, hu.rnl nl⟩
/-- a tuple of numbers -/
def RowT (K : PySem.W.Frag) (l : List Rat) (H : Hp) (v : V) : Prop := ∃ q us, v = .ref q ∧ H q = some (.tup us) ∧ Ls (Rn K) H us l
theorem rowT_solid {K : PySem.W.Frag} (l : List Rat) : Solid (RowT K l) := fun s ⟨q, us, e1, e2, e3⟩ => ⟨q, us, e1, s _ _ e2 (fun xs z => by cases z), e3.rnl s⟩
/-- what a call of Table asks -/
theorem tt_make {K : PySem.W.Frag} {H : Hp} {a : Addr} {rs : List V} {m : List (List Rat)} {R : Addr → VK} {E : XK} (hS : SqHere H a rs) (hm : rs.length = m.length) (h1 : 1 ≤ rs.length) (h8 : rs.length ≤ 8)
    (hR : ∀ (i : Nat) (v : V), rs[i]? = some v → RowIn K H rs.length v (m.getD i [])) (q : ∀ p H', H p = none → Same H H' → TabAt K H' p m → R p .non H') :
    ∀ x dx, H x = none → H dx = none → dx ≠ x → spTIn K [.ref x, .ref a] (upd (upd H dx (.own x)) x (.ins (TC K) dx [])) (R x) E := fun x dx nx ndx ne => by
  have s3 : Same H (upd (upd H dx (.own x)) x (.ins (TC K) dx [])) := (Same.upd ndx).trans (Same.upd (by rw [upd_ne (Ne.symm ne)]; exact nx))
  exact ⟨x, dx, a, rs, m, rfl, upd_same, hS.same s3, hm, h1, h8, fun i v e => (hR i v e).same s3, fun H' hT hB => q x H' nx (Same.made nx ndx hB) hT⟩
/-- what a turn has made -/
structure Md (K : PySem.W.Frag) (pb D1 D2 p1 p2 : Addr) (m k : List (List Rat)) (H0 H : Hp) : Prop where
  f : LR H D1 m
  s : LR H D2 k
  o : TabAt K H p1 m
  t : TabAt K H p2 k
  base : But pb H0 H
theorem Md.same {K : PySem.W.Frag} {pb D1 D2 p1 p2 : Addr} {m k : List (List Rat)} {H0 H H' : Hp} (h : Md K pb D1 D2 p1 p2 m k H0 H) (s : Same H H') : Md K pb D1 D2 p1 p2 m k H0 H' :=
  ⟨h.f.same s, h.s.same s, h.o.same s, h.t.same s, h.base.trans (But.of_same s)⟩
theorem Md.but {K : PySem.W.Frag} {pb D1 D2 p1 p2 : Addr} {m k : List (List Rat)} {H0 H H' : Hp} {n : Nat} (h : Md K pb D1 D2 p1 p2 m k H0 H) (hB : BoxAt H pb n) (s : But pb H H') : Md K pb D1 D2 p1 p2 m k H0 H' :=
  ⟨h.f.but hB s, h.s.but hB s, h.o.but hB s, h.t.but hB s, h.base.trans s⟩
section
variable {P : Program} {w : World} {K : PySem.W.Frag} {mg : Str → Option Value} {base : Heap}
theorem ok_law (T : Tx K mg) : FnOk P w K mg base CX0 9 (He.ga K "law") T.fd_law ["_law_script"] (spLaw K) := by
  refine T.F_law.ok sc_law (fun vs H Q E h => ?_) (fun cdv A outer s H vs Q E hr h => ?_)
  · obtain ⟨a, ns, rfl, _⟩ := h
    rfl
  · obtain ⟨a, ns, rfl, hS, hl, q⟩ := h
    obtain ⟨ds, vd, bd⟩ := bind_init1 T
    refine ⟨_, (pss_cons (ps_for PassesOwn.never rfl (pi_range1 (by rfl) T.z_range (pa_cons (pe_callB (call_max2 rfl) (by rfl) T.z_max (by decide +kernel) (pa_cons pe_int (pa_cons (pe_callB (call_min2 rfl) (by rfl) T.z_min (by decide +kernel) (pa_cons pe_int (pa_cons (pe_callB call_len_seq (by rfl) T.z_len PySem.boot_len (pa_cons (pv 0) pa_nil)) pa_nil))) pa_nil))) pa_nil)) (pg_name (i := 1) sc_law.nd rfl (.inl rfl)) (pss_cons (ps_set (i := 2) sc_law.nd rfl (.inr rfl) (pe_call (ok_box T) (hr.mono (by decide)) (by rfl) T.g_box T.F_box.kp T.b_box .nil pass0 (pa_cons (pv 0) (pa_cons (pv 1) pa_nil))))
      (pss_cons (ps_set (i := 3) sc_law.nd rfl (.inl rfl) (pe_op op_add pe_int (pe_call (ok_take T) (hr.mono (by decide)) (by rfl) T.g_take T.F_take.kp T.b_take .nil pass0 (pa_cons (pv 2) (pa_cons pe_int pa_nil)))))
      (pss_cons (ps_set (i := 4) sc_law.nd rfl (.inl rfl) (pe_call (ok_drawnL T) (hr.mono (by decide)) (by rfl) T.g_drawn T.F_drawn.kp T.b_drawn .nil pass0 (pa_cons (pv 2) (pa_cons (pv 3) pa_nil))))
      (pss_cons (ps_set (i := 5) sc_law.nd rfl (.inl rfl) (pe_ifExp (pt_cmpR op_eq (pe_call (ok_take T) (hr.mono (by decide)) (by rfl) T.g_take T.F_take.kp T.b_take .nil pass0 (pa_cons (pv 2) (pa_cons pe_int pa_nil))) pe_int (nomark _)) (pv 4) (pe_call (ok_drawnL T) (hr.mono (by decide)) (by rfl) T.g_drawn T.F_drawn.kp T.b_drawn .nil pass0 (pa_cons (pv 2) (pa_cons (pv 3) pa_nil)))))
      (pss_cons (ps_if (pt_cmpR op_eq (pe_call (ok_take T) (hr.mono (by decide)) (by rfl) T.g_take T.F_take.kp T.b_take .nil pass0 (pa_cons (pv 2) (pa_cons pe_int pa_nil))) pe_int (nomark _)) (pss_one (ps_set (i := 5) sc_law.nd rfl (.inl rfl) (pe_call (ok_flipL T) (hr.mono (by decide)) (by rfl) T.g_flipped T.F_flipped.kp T.b_flipped .nil pass0 (pa_cons (pv 4) pa_nil)))) pss_nil)
      (pss_cons (ps_setLc (i := 8) (own := [("_law_row", 6)]) (g := gName 6) rfl sc_law.nd rfl rfl (sw_true rfl rfl rfl (by decide +kernel)) (pi_list (pv 4)) (blkOk_by (own := [("_law_row", 6)]) (N := ["_law_script", "_law_k", "_law_box_here", "_law_size", "_law_first", "_law_second", "_law_row", "_law_x", "_law_handed_here", "_law_one", "_law_other", "_law_j", "_law_beam", "_law_sent_here"]) (sc := defScope s_law) (by decide +kernel)) (fun _ _ _ _ _ => (pg_name (i := 6) sc_law.nd rfl (.inl rfl))) (fun _ _ _ _ _ => pts_nil) (fun _ _ _ _ _ => (pe_lc (own := [("_law_x", 7)]) (g := gName 7) rfl sc_law.nd (FoK.pi_listK (K' := K) (by rfl) (pv 6)) (blkOk_by (own := [("_law_x", 7)]) (N := ["_law_script", "_law_k", "_law_box_here", "_law_size", "_law_first", "_law_second", "_law_row", "_law_x", "_law_handed_here", "_law_one", "_law_other", "_law_j", "_law_beam", "_law_sent_here"]) (sc := _) (by kernel_rfl)) (fun _ _ _ _ _ => (pg_name (i := 7) sc_law.nd rfl (.inl rfl))) (fun _ _ _ _ _ => pts_nil) (fun _ _ _ _ _ => (pe_call (ok_handed T) (hr.mono (by decide)) (by rfl) T.g_handed T.F_handed.kp T.b_handed .nil pass0 (pa_cons (pv 7) (pa_cons (pv 2) pa_nil)))))))
      (pss_cons (ps_set (i := 9) sc_law.nd rfl (.inl rfl) (pe_make T.mk_T (ok_Tinit T) (hr.mono (by decide)) (by rfl) T.c_Table T.b_Table_init .nil pass0 (pa_cons (pv 8) pa_nil)))
      (pss_cons (ps_for PassesOwn.never rfl (pi_list (pv 8)) (pg_name (i := 6) sc_law.nd rfl (.inl rfl)) (pss_one (ps_expr (pe_bm PySem.F.plainAttrs_list PySem.F.slot_list_append PySem.F.type_list_append mt_append (pv 6) (pa_cons pe_int pa_nil)))))
      (pss_cons (ps_set (i := 10) sc_law.nd rfl (.inl rfl) (pe_make T.mk_T (ok_Tinit T) (hr.mono (by decide)) (by rfl) T.c_Table T.b_Table_init .nil pass0 (pa_cons (pe_callTy call_tuple_of (by rfl) T.z_tuple (by decide +kernel) (pa_cons (pe_lc (own := [("_law_row", 6)]) (g := gName 6) rfl sc_law.nd (pi_list (pv 5)) (blkOk_by (own := [("_law_row", 6)]) (N := ["_law_script", "_law_k", "_law_box_here", "_law_size", "_law_first", "_law_second", "_law_row", "_law_x", "_law_handed_here", "_law_one", "_law_other", "_law_j", "_law_beam", "_law_sent_here"]) (sc := defScope s_law) (by decide +kernel)) (fun _ _ _ _ _ => (pg_name (i := 6) sc_law.nd rfl (.inl rfl))) (fun _ _ _ _ _ => pts_nil) (fun _ _ _ _ _ => (pe_callTy (FoK.call_tupleK (K' := K) (by rfl)) (by rfl) T.z_tuple (by decide +kernel) (pa_cons (pe_lc (own := [("_law_x", 7)]) (g := gName 7) rfl sc_law.nd (FoK.pi_listK (K' := K) (by rfl) (pv 6)) (blkOk_by (own := [("_law_x", 7)]) (N := ["_law_script", "_law_k", "_law_box_here", "_law_size", "_law_first", "_law_second", "_law_row", "_law_x", "_law_handed_here", "_law_one", "_law_other", "_law_j", "_law_beam", "_law_sent_here"]) (sc := _) (by kernel_rfl)) (fun _ _ _ _ _ => (pg_name (i := 7) sc_law.nd rfl (.inl rfl))) (fun _ _ _ _ _ => pts_nil) (fun _ _ _ _ _ => (pe_call (ok_handed T) (hr.mono (by decide)) (by rfl) T.g_handed T.F_handed.kp T.b_handed .nil pass0 (pa_cons (pv 7) (pa_cons (pv 2) pa_nil))))) pa_nil)))) pa_nil)) pa_nil)))
      (pss_cons (ps_if (PW.pt (pw_or (pt_cmpR (op_neD hr.units) (pe_call (ok_rowsL T) (hr.mono (by decide)) (by rfl) T.g_rows T.F_rows.kp T.b_rows .nil pass0 (pa_cons (pv 9) pa_nil)) (pv 4) (nomark _)) (pw_or (pt_cmpR op_ne (pe_callB (FoL.call_lenO (ok_Tlen T) (hr.mono (by decide)) T.b_Table_len pass0 T.mT_len.at_ T.mT_len.fn) (by rfl) T.z_len PySem.boot_len (pa_cons (pv 9) pa_nil)) (pv 3) (nomark _)) (pw_or1 (pt_cmpR op_ne (pe_cmpR (FoA.op_ownC (ok_Teq T) (hr.mono (by decide)) T.b_Table_eq pass0 T.cmT_eq (fun _ _ => rfl)) (pv 9) (pv 10) (nomark _)) (pe_cmpR (op_eqD hr.units) (pv 4) (pv 5) (nomark _)) (nomark _)))))) (pss_one (ps_ret pe_bl)) pss_nil)
      (pss_cons (ps_expr (pe_bm0 PySem.F.plainAttrs_list PySem.F.slot_list_clear PySem.F.type_list_clear mt_clear (pe_meth0 (pv 9) T.cl_T T.mT_rows (ok_Trows T) (hr.mono (by decide)) T.b_Table_rows .nil pass0)))
      (pss_cons (ps_if (PW.pt (pw_or (pt_cmpR (op_neD hr.units) (pe_lc (own := [("_law_row", 6)]) (g := gName 6) rfl sc_law.nd (pi_list (pe_meth0 (pv 9) T.cl_T T.mT_rows (ok_Trows T) (hr.mono (by decide)) T.b_Table_rows .nil pass0)) (blkOk_by (own := [("_law_row", 6)]) (N := ["_law_script", "_law_k", "_law_box_here", "_law_size", "_law_first", "_law_second", "_law_row", "_law_x", "_law_handed_here", "_law_one", "_law_other", "_law_j", "_law_beam", "_law_sent_here"]) (sc := defScope s_law) (by decide +kernel)) (fun _ _ _ _ _ => (pg_name (i := 6) sc_law.nd rfl (.inl rfl))) (fun _ _ _ _ _ => (pts_one (pt_not (pt_val (pe_callB (FoK.call_isiK (K' := K) (by rfl)) (by rfl) T.z_isinstance (by decide +kernel) (pa_cons (pv 6) (pa_cons (pe_bltn (v := V.ty "tuple") (u := Value.type "tuple") (by rfl) T.z_tuple (by decide +kernel) rfl) pa_nil))))))) (fun _ _ _ _ _ => (pv 6))) (pe_lst pa_nil) (nomark _)) (pw_or (pt_cmpR (FoL.op_ownO (ok_Teq T) (hr.mono (by decide)) T.b_Table_eq pass0 T.cmT_eq T.noRT (fun _ _ => rfl)) (pv 9) (pe_make T.mk_R (ok_initQ T) (hr.mono (by decide)) (by rfl) T.c_Ratio bd vd pass0 (pa_cons pe_int pa_nil)) (nomark _)) (pw_or1 (pt_cmpR (FoL.op_ownO (ok_ReqT T) (hr.mono (by decide)) T.b_Ratio_eq pass0 T.cm_eq T.noTR (fun _ _ => rfl)) (pe_make T.mk_R (ok_initQ T) (hr.mono (by decide)) (by rfl) T.c_Ratio bd vd pass0 (pa_cons pe_int pa_nil)) (pv 9) (nomark _)))))) (pss_one (ps_ret pe_bl)) pss_nil)
      (pss_cons (ps_if (pt_cmpR (op_neD hr.units) (pe_call (ok_rowsL T) (hr.mono (by decide)) (by rfl) T.g_rows T.F_rows.kp T.b_rows .nil pass0 (pa_cons (pe_op (FoA.op_own (ok_Tadd T) (hr.mono (by decide)) T.b_Table_add pass0 T.biT_add FoN.int_add FoN.int_addR) (pv 9) (pv 10)) pa_nil)) (pe_call (ok_addL T) (hr.mono (by decide)) (by rfl) T.g_added T.F_added.kp T.b_added .nil pass0 (pa_cons (pv 4) (pa_cons (pv 5) (pa_cons (pe_tup (pa_cons pe_int (pa_cons pe_int pa_nil))) pa_nil)))) (nomark _)) (pss_one (ps_ret pe_bl)) pss_nil)
      (pss_cons (ps_if (pt_cmpR (op_neD hr.units) (pe_call (ok_rowsL T) (hr.mono (by decide)) (by rfl) T.g_rows T.F_rows.kp T.b_rows .nil pass0 (pa_cons (pe_op (FoA.op_own (ok_Tsub T) (hr.mono (by decide)) T.b_Table_sub pass0 T.biT_sub FoN.int_sub FoN.int_subR) (pv 9) (pv 10)) pa_nil)) (pe_call (ok_addL T) (hr.mono (by decide)) (by rfl) T.g_added T.F_added.kp T.b_added .nil pass0 (pa_cons (pv 4) (pa_cons (pv 5) (pa_cons (pe_tup (pa_cons (pe_un un_neg pe_int) (pa_cons pe_int pa_nil))) pa_nil)))) (nomark _)) (pss_one (ps_ret pe_bl)) pss_nil)
      (pss_cons (ps_if (PW.pt (pw_or (pt_cmpR (op_neD hr.units) (pe_call (ok_rowsL T) (hr.mono (by decide)) (by rfl) T.g_rows T.F_rows.kp T.b_rows .nil pass0 (pa_cons (pe_op (FoA.op_own (ok_Tmul T) (hr.mono (by decide)) T.b_Table_mul pass0 T.biT_mul FoN.int_mul FoN.int_mulR) (pv 9) (pv 10)) pa_nil)) (pe_call (ok_ttL T) (hr.mono (by decide)) (by rfl) T.g_times_tables T.F_times_tables.kp T.b_times_tables .nil pass0 (pa_cons (pv 4) (pa_cons (pv 5) pa_nil))) (nomark _)) (pw_or1 (pt_cmpR (op_neD hr.units) (pe_call (ok_rowsL T) (hr.mono (by decide)) (by rfl) T.g_rows T.F_rows.kp T.b_rows .nil pass0 (pa_cons (pe_meth0 (pv 9) T.cl_T T.mT_mirror (ok_Tmirror T) (hr.mono (by decide)) T.b_Table_mirror .nil pass0) pa_nil)) (pe_call (ok_flipL T) (hr.mono (by decide)) (by rfl) T.g_flipped T.F_flipped.kp T.b_flipped .nil pass0 (pa_cons (pv 4) pa_nil)) (nomark _))))) (pss_one (ps_ret pe_bl)) pss_nil)
      (pss_cons (ps_setLc (i := 12) (own := [("_law_j", 11)]) (g := gName 11) rfl sc_law.nd rfl rfl (sw_true rfl rfl rfl (by decide +kernel)) (pi_range1 (by rfl) T.z_range (pa_cons (pv 3) pa_nil)) (blkOk_by (own := [("_law_j", 11)]) (N := ["_law_script", "_law_k", "_law_box_here", "_law_size", "_law_first", "_law_second", "_law_row", "_law_x", "_law_handed_here", "_law_one", "_law_other", "_law_j", "_law_beam", "_law_sent_here"]) (sc := defScope s_law) (by decide +kernel)) (fun _ _ _ _ _ => (pg_name (i := 11) sc_law.nd rfl (.inl rfl))) (fun _ _ _ _ _ => pts_nil) (fun _ _ _ _ _ => (pe_call (ok_number T) (hr.mono (by decide)) (by rfl) T.g_number T.F_number.kp T.b_number .nil pass0 (pa_cons (pv 2) (pa_cons pe_int pa_nil)))))
      (pss_cons (ps_set (i := 13) sc_law.nd rfl (.inl rfl) (pe_meth (pv 9) T.cl_T T.mT_sent (ok_Tsent T) (hr.mono (by decide)) T.b_Table_sent .nil pass0 (pa_cons (pe_lc (own := [("_law_x", 7)]) (g := gName 7) rfl sc_law.nd (pi_list (pv 12)) (blkOk_by (own := [("_law_x", 7)]) (N := ["_law_script", "_law_k", "_law_box_here", "_law_size", "_law_first", "_law_second", "_law_row", "_law_x", "_law_handed_here", "_law_one", "_law_other", "_law_j", "_law_beam", "_law_sent_here"]) (sc := defScope s_law) (by decide +kernel)) (fun _ _ _ _ _ => (pg_name (i := 7) sc_law.nd rfl (.inl rfl))) (fun _ _ _ _ _ => pts_nil) (fun _ _ _ _ _ => (pe_call (ok_handed T) (hr.mono (by decide)) (by rfl) T.g_handed T.F_handed.kp T.b_handed .nil pass0 (pa_cons (pv 7) (pa_cons (pv 2) pa_nil))))) pa_nil)))
      (pss_cons (ps_if (PW.pt (pw_or (pt_cmpR (op_neD hr.units) (pe_call (ok_told T) (hr.mono (by decide)) (by rfl) T.g_told T.F_told.kp T.b_told .nil pass0 (pa_cons (pe_meth0 (pv 9) T.cl_T T.mT_trace (ok_Ttrace T) (hr.mono (by decide)) T.b_Table_trace .nil pass0) pa_nil)) (pe_call (ok_trL T) (hr.mono (by decide)) (by rfl) T.g_trace T.F_trace.kp T.b_trace .nil pass0 (pa_cons (pv 4) pa_nil)) (nomark _)) (pw_or1 (pt_cmpR (op_neD hr.units) (pe_lc (own := [("_law_x", 7)]) (g := gName 7) rfl sc_law.nd (pi_list (pv 13)) (blkOk_by (own := [("_law_x", 7)]) (N := ["_law_script", "_law_k", "_law_box_here", "_law_size", "_law_first", "_law_second", "_law_row", "_law_x", "_law_handed_here", "_law_one", "_law_other", "_law_j", "_law_beam", "_law_sent_here"]) (sc := defScope s_law) (by decide +kernel)) (fun _ _ _ _ _ => (pg_name (i := 7) sc_law.nd rfl (.inl rfl))) (fun _ _ _ _ _ => pts_nil) (fun _ _ _ _ _ => (pe_call (ok_told T) (hr.mono (by decide)) (by rfl) T.g_told T.F_told.kp T.b_told .nil pass0 (pa_cons (pv 7) pa_nil)))) (pe_call (ok_sentL T) (hr.mono (by decide)) (by rfl) T.g_sent T.F_sent.kp T.b_sent .nil pass0 (pa_cons (pv 4) (pa_cons (pv 12) pa_nil))) (nomark _))))) (pss_one (ps_ret pe_bl)) pss_nil)
      (pss_one (ps_if (PW.pt (pw_or (pt_not (pt_val (pe_call (ok_unl T) (hr.mono (by decide)) (by rfl) T.g_unlike T.F_unlike.kp T.b_unlike .nil pass0 (pa_cons (pv 9) (pa_cons (FoD.pe_cmethS (E := fun _ => L2.E0) (pe_glob (v := V.ref (TC K)) (by rfl) T.c_Table rfl) T.cr_T T.cm_unit (ok_Tunit T) (hr.mono (by decide)) T.b_Table_unit (fun σ => FoS.passAt0) (pa_cons (pe_op op_add (pv 3) pe_int) pa_nil)) pa_nil))))) (pw_or1 (pt_not (pt_val (pe_call (ok_errs T) (hr.mono (by decide)) (by rfl) T.g_errors T.F_errors.kp T.b_errors .nil pass0 (pa_cons (pv 2) (pa_cons (pv 9) (pa_cons (pv 3) pa_nil))))))))) (pss_one (ps_ret pe_bl)) pss_nil)))))))))))))))))))))
      (pss_one (ps_ret pe_bl))), ?_⟩
    refine ⟨_, rfl, a, _, rfl, .inl hS, _, _, rfl, _, _, rfl, _, rfl, by split <;> (try split) <;> omega, by split <;> (try split) <;> omega, ?_⟩
    refine for_range (fun i σ H' => Same H H' ∧ ∃ o1 o2 o3 o4 o5 o6 o7 o8 o9 o10 o11 o12 o13, σ = [some (.ref a), o1, o2, o3, o4, o5, o6, o7, o8, o9, o10, o11, o12, o13]) ⟨Same.refl H, _, _, _, _, _, _, _, _, _, _, _, _, _, rfl⟩ ?turn ?after
    case after =>
      rintro σ H' ⟨s0, o1, o2, o3, o4, o5, o6, o7, o8, o9, o10, o11, o12, o13, rfl⟩
      exact q _
    case turn =>
      rintro i σ H0 hi ⟨s0, o1, o2, o3, o4, o5, o6, o7, o8, o9, o10, o11, o12, o13, rfl⟩
      have hS0 := sqL_sm hS s0
      have hi2 : i ≤ 1 := by
        split at hi <;> (try split at hi) <;> omega
      refine ⟨_, rfl, _, rfl, a, ns, i, ?_, hS0, by omega, fun pb H1 npb s1 hB => ?_⟩
      · show [V.ref a, V.int (0 + (i : Int))] = _
        rw [Int.zero_add]
      dsimp only [gName, tNext]
      refine gen_s (C := fun v H' => ∃ n : Nat, v = .int n ∧ 1 ≤ n ∧ n ≤ 4 ∧ BoxAt H' pb 1 ∧ But pb H0 H') (fun Q' rest => ?_) ?_
      · refine ⟨_, rfl, pb, 4, 0, rfl, hB, by omega, by decide, sz1000, fun g H2 g0 g1 hB2 b2 => ⟨_, _, rfl, rfl, rest _ _ ⟨(1 + g).toNat, ?_, by omega, by omega, hB2, (But.of_same s1).trans b2⟩⟩⟩
        show V.int (1 + g) = _
        congr 1
        omega
      rintro _ H2 ⟨n, rfl, n1, n4, hB2, b02⟩
      refine ⟨_, rfl, _, rfl, pb, n, 1, rfl, hB2, by omega, n1, by omega, fun D1 H3 m nD1 hF lm sqm zm hB3 b3 => ?_⟩
      have b03 := b02.trans b3
      dsimp only [gName, tNext]
      -- the second rows
      refine gen_s (C := fun v H' => ∃ D2 k, v = .ref D2 ∧ LR H' D2 k ∧ k.length = n ∧ Sqr k ∧ AllE 12 k ∧ LR H' D1 m ∧ BoxAt H' pb 802 ∧ But pb H0 H') (fun Q' rest => ?_) ?_
      · refine ⟨_, rfl, pb, 5, _, rfl, hB3, by omega, by decide, sz1000, fun g H4 g0 g1 hB4 b4 => ?_⟩
        refine ⟨rfl, _, rfl, ite2 (fun e => ?_) (fun e => ?_)⟩
        · exact ⟨_, rfl, rest _ _ ⟨D1, m, rfl, hF.but hB3 b4, lm, sqm, zm, hF.but hB3 b4, hB4.mono (by omega), b03.trans b4⟩⟩
        · refine ⟨_, rfl, _, rfl, pb, n, _, rfl, hB4, by omega, n1, by omega, fun D2 H5 k nD2 hG lk sqk zk hB5 b5 => rest _ _ ⟨D2, k, rfl, hG, lk, sqk, zk, (hF.but hB3 b4).but hB4 b5, hB5.mono (by omega), (b03.trans b4).trans b5⟩⟩
      rintro _ H4 ⟨D2, k, rfl, hG, lk, sqk, zk, hF4, hB4, b04⟩
      dsimp only [gName, tNext]
      clear hB3 b3 hF hB2 b02 b03
      refine gen_u (C := fun σ' H' => ∃ D2 k, σ' = [some (.ref a), some (.int (0 + i)), some (.ref pb), some (.int n), some (.ref D1), some (.ref D2), o6, o7, o8, o9, o10, o11, o12, o13] ∧ LR H' D2 k ∧ k.length = n ∧ Sqr k ∧ AllE 12 k ∧ LR H' D1 m ∧ BoxAt H' pb 803 ∧ But pb H0 H') (fun D' rest => ?_) ?_
      · refine ⟨_, rfl, pb, 5, _, rfl, hB4, by omega, by decide, sz1000, fun g H5 g0 g1 hB5 b5 => ?_⟩
        refine ⟨rfl, _, rfl, ite2 (fun e => ?_) (fun e => ?_)⟩
        · refine ⟨_, rfl, D1, m, rfl, hF4.but hB4 b5, sqm, zm, fun D3 H6 nD3 s6 hL => ?_⟩
          exact rest _ _ ⟨D3, flip m, rfl, hL, (tab_len _ _).trans lm, flip_sqr sqm, flip_sz zm (by decide), (hF4.but hB4 b5).same s6, (hB5.same s6), (b04.trans b5).trans (But.of_same s6)⟩
        · exact rest _ _ ⟨D2, k, rfl, hG.but hB4 b5, lk, sqk, zk, hF4.but hB4 b5, hB5, b04.trans b5⟩
      rintro _ H5 ⟨D2, k, rfl, hG, lk, sqk, zk, hF, hB5, b05⟩
      -- the numbers as they are handed in
      obtain ⟨wf, ef, lf, hwf⟩ := id hF
      refine ⟨_, rfl, D1, rfl, ⟨_, SqL.of ef⟩, fun D nD => ?_⟩
      have db := hB5.ne nD
      have efb := fun {H'} (bb : But pb H5 H') => ((hF.but hB5 bb).len)
      have efn : D1 ≠ pb := fun z => by
        obtain ⟨x, c, sd, e2, _⟩ := hB5
        rw [z, e2] at ef
        cases ef
        obtain ⟨q, us, e3, _⟩ := hwf 0 _ rfl
        cases e3
      refine lc_list (BN K m pb 10 803 H5 D) (BN.start hB5 nD) (fun j H6 _ h => SqL.of (h.1 _ _ ef efn)) (fun j v H6 ev h => ?_) (fun H6 h => ?_)
      · have hj := (List.getElem?_eq_some_iff.mp ev).1
        obtain ⟨b6, hB6, _⟩ := id h
        have hF6 := hF.but hB5 b6
        obtain ⟨q1, us, rfl, q1D, e3, e4⟩ : RowL (m.getD j []) D1 H6 v := by
          obtain ⟨q1, us, rfl, q1D, e3, e4⟩ := hwf j v ev
          exact ⟨q1, us, rfl, q1D, b6 _ _ e3 (ls_ne_box hB5 e3 e4), e4.nl rq_solid (hB5.nl b6)⟩
        have q1b := ls_ne_box hB6 e3 e4
        have rl : (m.getD j []).length = n := by rw [sqm.2.2 j (by omega), lm]
        refine ⟨rfl, _, rfl, q1, rfl, ⟨_, SqL.of e3⟩, fun D4 nD4 => ?_⟩
        have d4b := hB6.ne nD4
        refine lc_list (BL (fun i => Rn K (FoQ.co (m.getD j []) i)) pb 1 (803 + 10 * j) H6 D4) (BL.start hB6 nD4) (fun i H7 _ h => SqL.of (h.1 _ _ e3 q1b)) (fun i v H7 ev h7 => ?_) (fun H7 h7 => ?_)
        · have hi := (List.getElem?_eq_some_iff.mp ev).1
          rw [e4.1, rl] at hi
          obtain ⟨c, rfl, hc⟩ := e4.2 i v ev
          obtain ⟨b7, hB7, _⟩ := id h7
          exact ⟨rfl, _, rfl, _, rfl, c, pb, _, _, rfl, hc.nl (hB6.nl b7), (zm j i).mono (by decide), hB7, by omega, fun v H8 hv hB8 b8 => h7.next (fun j => rn_solid _) nD4 d4b b8 (hB8.mono (by omega)) hv (by omega)⟩
        · obtain ⟨b7, hB7, us2, eu, elu, hu⟩ := h7
          rw [e4.1, rl] at elu hB7
          exact h.next nD db b7 (hB7.mono (by omega)) nD4 eu ⟨by rw [elu, rl], hu⟩ (by omega)
      obtain ⟨b6, hB6, wh, eh, lh, hh⟩ := h
      rw [lf, lm] at lh hB6
      have hF6 := hF.but hB5 b6
      have hG6 := hG.but hB5 b6
      -- the first table
      refine ⟨_, rfl, tt_make (.inl eh) (by rw [lh, lm]) (by omega) (by omega) (fun j v ev => ?_) fun p1 H7 np1 s7 hp1 => ⟨rfl, ?_⟩⟩
      · have hj := (List.getElem?_eq_some_iff.mp ev).1
        obtain ⟨q2, us, rfl, _, _, _, e5, e6⟩ := hh j v ev
        exact ⟨q2, us, rfl, .inl e5, e6, by rw [sqm.2.2 j (by omega), lm, lh]⟩
      have eh7 := s7 _ _ eh
      refine ⟨_, rfl, D, rfl, ⟨_, SqL.of eh7⟩, ?_⟩
      have b57 : But pb H5 H7 := b6.trans (But.of_same s7)
      refine for_list (xs := wh) (fun j σ H' => But pb H5 H' ∧ NLst H7 H' ∧ BoxAt H' pb 843 ∧ H' D = some (.lst wh) ∧ (∀ (i : Nat) (v : V), wh[i]? = some v → ∃ q us, v = .ref q ∧ q ≠ D ∧ q ≠ pb ∧ H5 q = none ∧ H' q = some (.lst us) ∧ us.length ≤ 50 + j) ∧ ∃ o6, σ = [some (.ref a), some (.int (0 + i)), some (.ref pb), some (.int n), some (.ref D1), some (.ref D2), o6, o7, some (.ref D), some (.ref p1), o10, o11, o12, o13])
        ⟨b57, NLst.refl _, (hB6.same s7).mono (by omega), eh7, fun j v ev => ?_, _, rfl⟩ (fun j σ H' _ h => SqL.of h.2.2.2.1) ?_ ?_
      · have hj := (List.getElem?_eq_some_iff.mp ev).1
        obtain ⟨q2, us, e1, e2, e3, e4, e5, e6⟩ := hh j v ev
        refine ⟨q2, us, e1, e2, e3, e4, s7 _ _ e5, ?_⟩
        rw [e6.1, sqm.2.2 j (by omega), lm]
        omega
      · rintro j v σ H8 ev ⟨b8, nl8, hB8, eD, hq8, o6, rfl⟩
        have hj := (List.getElem?_eq_some_iff.mp ev).1
        obtain ⟨q2, us, rfl, e2, e3, e4, e5, e6⟩ := hq8 j v ev
        refine ⟨_, rfl, .inl ⟨rfl, _, SqL.of e5⟩, q2, _, _, rfl, rfl, e5, by rw [sizeLine_eq]; omega, ?_⟩
        refine ⟨fun c o e z => ?_, nl8.trans (nl_upd e5), hB8.app e3, by rw [upd_ne (Ne.symm e2)]; exact eD, fun i2 v2 ev2 => ?_, _, rfl⟩
        · rw [upd_ne (ne_of_none e e4)]
          exact b8 _ _ e z
        · obtain ⟨q3, us3, r1, r2, r3, r4, r5, r6⟩ := hq8 i2 v2 ev2
          by_cases c : q3 = q2
          · subst c
            rw [e5] at r5
            cases r5
            exact ⟨q3, _, r1, r2, r3, r4, upd_same, by rw [List.length_append]; show _ + 1 ≤ _; omega⟩
          · exact ⟨q3, us3, r1, r2, r3, r4, by rw [upd_ne c]; exact r5, by omega⟩
      rintro σ H8 ⟨b8, nl8, hB8, _, _, o6', rfl⟩
      have hp1 := hp1.nl nl8
      have hF := hF.but hB5 b8
      have hG := hG.but hB5 b8
      have b08 := b05.trans b8
      clear hF6 hG6 b57 eh7 eh hh hB6 b6 s7 nl8 hB5 b8 b05 ef hwf efb
      -- the second table
      obtain ⟨wg, eg, lg, hwg⟩ := id hG
      refine ⟨_, rfl, D2, rfl, ⟨_, SqL.of eg⟩, fun D3 nD3 => ?_⟩
      have d3b := hB8.ne nD3
      have egn : D2 ≠ pb := fun z => by
        obtain ⟨x, c, sd, e2, _⟩ := hB8
        rw [z, e2] at eg
        cases eg
        obtain ⟨q, us, e3, _⟩ := hwg 0 _ rfl
        cases e3
      refine lc_list (BL (fun j => RowT K (k.getD j [])) pb 10 843 H8 D3) (BL.start hB8 nD3) (fun j H9 _ h => SqL.of (h.1 _ _ eg egn)) (fun j v H9 ev h => ?_) (fun H9 h => ?_)
      · have hj := (List.getElem?_eq_some_iff.mp ev).1
        obtain ⟨b9, hB9, _⟩ := id h
        obtain ⟨q1, us, rfl, q1D, e3, e4⟩ : RowL (k.getD j []) D2 H9 v := by
          obtain ⟨q1, us, rfl, q1D, e3, e4⟩ := hwg j v ev
          exact ⟨q1, us, rfl, q1D, b9 _ _ e3 (ls_ne_box hB8 e3 e4), e4.nl rq_solid (hB8.nl b9)⟩
        have q1b := ls_ne_box hB9 e3 e4
        have rl : (k.getD j []).length = n := by rw [sqk.2.2 j (by omega), lk]
        refine ⟨rfl, _, rfl, q1, rfl, ⟨_, SqL.of e3⟩, fun D4 nD4 => ?_⟩
        have d4b := hB9.ne nD4
        refine lc_list (BL (fun i => Rn K (FoQ.co (k.getD j []) i)) pb 1 (843 + 10 * j) H9 D4) (BL.start hB9 nD4) (fun i H7 _ h => SqL.of (h.1 _ _ e3 q1b)) (fun i v H7 ev h7 => ?_) (fun H7 h7 => ?_)
        · have hi := (List.getElem?_eq_some_iff.mp ev).1
          rw [e4.1, rl] at hi
          obtain ⟨c, rfl, hc⟩ := e4.2 i v ev
          obtain ⟨b7, hB7, _⟩ := id h7
          exact ⟨rfl, _, rfl, _, rfl, c, pb, _, _, rfl, hc.nl (hB9.nl b7), (zk j i).mono (by decide), hB7, by omega, fun v H8 hv hB8 b8 => h7.next (fun j => rn_solid _) nD4 d4b b8 (hB8.mono (by omega)) hv (by omega)⟩
        · obtain ⟨b7, hB7, us2, eu, elu, hu⟩ := h7
          rw [e4.1, rl] at elu hB7
          refine ⟨D4, us2, rfl, .inl ⟨SqL.of eu, fun p4 np4 => ?_⟩⟩
          have s5 := Same.upd np4 (o := .tup us2)
          exact h.next (fun j => rowT_solid _) nD3 d3b (b7.trans (But.of_same s5)) ((hB7.same s5).mono (by omega)) ⟨p4, us2, rfl, upd_same, Ls.rnl ⟨by rw [elu, rl], hu⟩ (same_nl s5)⟩ (by omega)
      obtain ⟨b9, hB9, wo, eo, lo, ho⟩ := h
      rw [lg, lk] at lo hB9
      refine ⟨D3, _, rfl, .inl ⟨SqL.of eo, fun tt ntt => ?_⟩⟩
      have s10 := Same.upd ntt (o := .tup wo)
      refine tt_make (.inr upd_same) (by rw [lo, lk]) (by omega) (by omega) (fun j v ev => ?_) fun p2 H11 np2 s11 hp2 => ⟨rfl, ?_⟩
      · have hj := (List.getElem?_eq_some_iff.mp ev).1
        obtain ⟨q2, us, rfl, e5, e6⟩ := rowT_solid _ (same_nl s10) (ho j v ev)
        exact ⟨q2, us, rfl, .inr e5, e6, by rw [sqk.2.2 j (by omega), lk, lo]⟩
      have M : Md K pb D1 D2 p1 p2 m k H0 H11 :=
        ⟨((hF.but hB8 b9).same s10).same s11, ((hG.but hB8 b9).same s10).same s11, ((hp1.nl (hB8.nl b9)).same s10).same s11, hp2, (b08.trans b9).trans (But.of_same (s10.trans s11))⟩
      have hB := ((hB9.same s10).same s11).mono (show 843 + 10 * n ≤ 900 by omega)
      clear hF hG hp1 hp2 b08 hB8 b9 s10 s11 hB9 eo ho eg hwg
      have hmk : m.length = k.length := by omega
      have zm40 := allE_mono zm (show 12 ≤ 40 by decide)
      have zk40 := allE_mono zk (show 12 ≤ 40 by decide)
      -- rows, length, equality
      refine ⟨_, rfl, p1, m, rfl, M.o, by omega, sqr_rows sqm, fun q1 H1' nq1 s1' h1' => ?_⟩
      have M := M.same s1'
      have hB := hB.same s1'
      refine ⟨_, rfl, lr_ne h1' M.f rfl ⟨_, rfl, iteF ?_⟩⟩
      obtain ⟨dx, tx, ep⟩ := M.o.ins
      refine ⟨_, rfl, p1, dx, _, rfl, ep, p1, m, rfl, M.o, _, rfl, by omega, _, rfl, int_ne (by rw [lm]) ⟨_, rfl, iteF ?_⟩⟩
      obtain ⟨dy, ty, eq⟩ := M.t.ins
      refine ⟨_, rfl, _, rfl, p1, dx, _, rfl, ep, .ins eq, p1, .ref p2, m, rfl, M.o, .inl ⟨p2, k, rfl, M.t, ?_⟩⟩
      refine ⟨_, rfl, _, rfl, lr_eq M.f M.s (bl_ne rfl ⟨_, rfl, iteF ?_⟩)⟩
      dsimp only [tNext]
      -- what is told is a list of its own
      refine ⟨_, rfl, p1, dx, _, rfl, ep, rfl, p1, m, rfl, M.o, fun q4 H4' w4 n4' s4 e4 g4 => ⟨.inl ⟨rfl, _, SqL.of e4⟩, q4, _, rfl, rfl, e4, ?_⟩⟩
      have M := M.same (same_set s4 n4' (o := .lst []))
      have hB := hB.same (same_set s4 n4' (o := .lst []))
      revert M hB
      generalize upd H4' q4 (.lst []) = H5'
      intro M hB
      obtain ⟨dx, tx, ep⟩ := M.o.ins
      refine ⟨_, rfl, p1, dx, _, rfl, ep, rfl, p1, m, rfl, M.o, fun q5 H6 rs5 n5 s5 e5 g5 => ⟨q5, rfl, ⟨_, SqL.of e5⟩, fun D5 nD5 => ?_⟩⟩
      have M := M.same s5
      have hB := hB.same s5
      refine lc_list (fun _ H' => Same H6 H' ∧ H' D5 = some (.lst [])) ⟨Same.upd nD5, upd_same⟩ (fun j H7 _ h => SqL.of (h.1 _ _ e5)) (fun j v H7 ev h => ?_) (fun H7 h => ?_)
      · obtain ⟨b1, ws, rfl, hb, hL⟩ := row_solid _ (same_nl h.1) (g5.2 j v ev)
        exact ⟨rfl, _, rfl, _, _, _, _, _, rfl, .ty _, .base (.tup hb), kit_ty (by decide +kernel), true, rfl, iteF h⟩
      obtain ⟨s7, e7⟩ := h
      have M := M.same s7
      have hB := hB.same s7
      refine ⟨(by show 0 ≤ sizeLine; rw [sizeLine_eq]; decide), fun t6 n6 => ?_⟩
      have s8 := Same.upd n6 (o := .lst [])
      refine ⟨.list [], .list [], .lst (SqL.of (s8 _ _ e7)) .nil, .lst (SqL.of upd_same) .nil, rfl, rfl, ⟨_, rfl, iteF ?_⟩⟩
      have M := M.same s8
      have hB := hB.same s8
      refine ⟨_, rfl, rq_make (by decide) sz1q (FoQ.q_int 1) fun r1 H9 n9 s9 hr1 => ⟨rfl, ?_⟩⟩
      have M := M.same s9
      have hB := hB.same s9
      obtain ⟨dx, tx, ep⟩ := M.o.ins
      obtain ⟨d1, hr1'⟩ := id hr1
      refine ⟨p1, dx, _, r1, d1, _, rfl, ep, rfl, hr1', p1, .ref r1, m, rfl, M.o, .inr ⟨r1, _, rfl, hr1, _, rfl, iteF ?_⟩⟩
      refine rq_make (by decide) sz1q (FoQ.q_int 1) fun r2 H10 n10 s10 hr2 => ⟨rfl, ?_⟩
      have M := M.same s10
      have hB := hB.same s10
      obtain ⟨dx, tx, ep⟩ := M.o.ins
      obtain ⟨d2, hr2'⟩ := id hr2
      refine ⟨_, rfl, r2, d2, _, p1, dx, _, rfl, hr2', rfl, ep, r2, p1, _, m, rfl, hr2, M.o, _, rfl, iteF ?_⟩
      dsimp only [tNext]
      -- sums and differences
      obtain ⟨dy, ty, eq⟩ := M.t.ins
      refine ⟨_, rfl, _, rfl, p1, dx, _, rfl, ep, .inr ⟨p2, dy, _, rfl, eq⟩, p1, p2, m, k, rfl, M.o, M.t, sqm, sqk, hmk, zm40, zk40, fun q6 H11 n11 s11 h11 => ?_⟩
      refine ⟨q6, _, rfl, h11, by rw [show (tzip (· + ·) m k).length = m.length from tab_len _ _]; omega, fun i => Nat.le_trans (tab_rows _ _ i) (by omega), fun q7 H12 n12 s12 h12 => ?_⟩
      have M := (M.same s11).same s12
      have hB := (hB.same s11).same s12
      refine ⟨_, rfl, _, rfl, (by show 2 ≤ sizeLine; rw [sizeLine_eq]; decide), fun t7 n7 => ?_⟩
      have s13 := Same.upd n7 (o := .tup [.int 1, .int 1])
      have M := M.same s13
      have hB := hB.same s13
      refine ⟨D1, D2, t7, m, k, 1, rfl, M.f, M.s, upd_same, (FoQ.SzR.int (i := 1) (n := 12) (sz_of 1001 (by decide) (by decide) (by decide)) (by decide)), sqm, sqk, hmk, zm, zk, fun q8 H14 n14 s14 h14 => ?_⟩
      refine lr_ne ((h12.same s13).same s14) h14 (tadd_eq m k) ⟨_, rfl, iteF ?_⟩
      have M := M.same s14
      have hB := hB.same s14
      dsimp only [tNext]
      obtain ⟨dx, tx, ep⟩ := M.o.ins
      obtain ⟨dy, ty, eq⟩ := M.t.ins
      refine ⟨_, rfl, _, rfl, p1, dx, _, rfl, ep, .inr ⟨p2, dy, _, rfl, eq⟩, p1, p2, m, k, rfl, M.o, M.t, sqm, sqk, hmk, zm40, zk40, fun q6 H11 n11 s11 h11 => ?_⟩
      refine ⟨q6, _, rfl, h11, by rw [show (tzip (· - ·) m k).length = m.length from tab_len _ _]; omega, fun i => Nat.le_trans (tab_rows _ _ i) (by omega), fun q7 H12 n12 s12 h12 => ?_⟩
      have M := (M.same s11).same s12
      have hB := (hB.same s11).same s12
      refine ⟨_, rfl, _, rfl, _, rfl, (by show 2 ≤ sizeLine; rw [sizeLine_eq]; decide), fun t7 n7 => ?_⟩
      have s13 := Same.upd n7 (o := .tup [.int (-1), .int 1])
      have M := M.same s13
      have hB := hB.same s13
      refine ⟨D1, D2, t7, m, k, -1, rfl, M.f, M.s, upd_same, (FoQ.SzR.int (i := 1) (n := 12) (sz_of 1001 (by decide) (by decide) (by decide)) (by decide)).neg, sqm, sqk, hmk, zm, zk, fun q8 H14 n14 s14 h14 => ?_⟩
      refine lr_ne ((h12.same s13).same s14) h14 (tsub_eq m k) ⟨_, rfl, iteF ?_⟩
      have M := M.same s14
      have hB := hB.same s14
      dsimp only [tNext]
      -- products and mirrors
      obtain ⟨dx, tx, ep⟩ := M.o.ins
      obtain ⟨dy, ty, eq⟩ := M.t.ins
      refine ⟨_, rfl, _, rfl, p1, dx, _, rfl, ep, .inr ⟨p2, dy, _, rfl, eq⟩, p1, p2, m, k, rfl, M.o, M.t, sqm, sqk, hmk, zm40, zk40, fun q6 H11 n11 s11 h11 => ?_⟩
      refine ⟨q6, _, rfl, h11, by rw [show (tmul m k).length = m.length from tab_len _ _]; omega, fun i => Nat.le_trans (tab_rows _ _ i) (by omega), fun q7 H12 n12 s12 h12 => ?_⟩
      have M := (M.same s11).same s12
      have hB := (hB.same s11).same s12
      refine ⟨_, rfl, _, rfl, D1, D2, m, k, rfl, M.f, M.s, sqm, sqk, hmk, zm, zk, fun q8 H14 n14 s14 h14 => ?_⟩
      refine lr_ne (h12.same s14) h14 rfl ⟨_, rfl, iteF ?_⟩
      have M := M.same s14
      have hB := hB.same s14
      obtain ⟨dx, tx, ep⟩ := M.o.ins
      refine ⟨_, rfl, p1, dx, _, rfl, ep, rfl, p1, m, rfl, M.o, sqm, fun q6 H11 n11 s11 h11 => ?_⟩
      refine ⟨q6, _, rfl, h11, by rw [show (flip m).length = m.length from tab_len _ _]; omega, fun i => Nat.le_trans (tab_rows _ _ i) (by omega), fun q7 H12 n12 s12 h12 => ?_⟩
      have M := (M.same s11).same s12
      have hB := (hB.same s11).same s12
      refine ⟨_, rfl, D1, m, rfl, M.f, sqm, zm, fun q8 H14 n14 s14 h14 => ?_⟩
      refine lr_ne (h12.same s14) h14 rfl ⟨_, rfl, iteF ?_⟩
      have M := M.same s14
      have hB := hB.same s14
      dsimp only [tNext]
      -- the beam
      have tn : ((n : Nat) : Int).toNat = n := Int.toNat_natCast _
      refine ⟨_, rfl, _, rfl, by omega, by omega, fun Db nDb => ?_⟩
      have dbb := hB.ne nDb
      refine lc_range (BInv pb 3 900 _ Db) ⟨But.of_same (Same.upd nDb), hB.same (Same.upd nDb), [], [], upd_same, rfl, Ls.nil, allSz_nil (by decide)⟩ (fun j H15 hj h => ?_) (fun H15 h => ?_)
      · obtain ⟨b2, hB2, _⟩ := id h
        refine ⟨rfl, _, rfl, pb, 9, _, rfl, hB2, by omega, by decide, by decide, fun p H16 r np hp zr hB4 b4 => ?_⟩
        exact h.next nDb dbb b4 (hB4.mono (by omega)) ⟨p, rfl, hp⟩ zr (by omega)
      obtain ⟨b15, hB15, wb, l, eb, el, hLb, zl⟩ := h
      rw [tn] at el hB15
      have M := M.but hB b15
      have hB := hB15.mono (show 900 + 3 * n ≤ 920 by omega)
      clear hB15 b15
      dsimp only [gName, tNext]
      -- what is sent
      obtain ⟨dx, tx, ep⟩ := M.o.ins
      refine ⟨_, rfl, p1, dx, _, rfl, ep, rfl, ?_⟩
      refine ⟨_, rfl, Db, rfl, ⟨_, SqL.of eb⟩, fun D6 nD6 => ?_⟩
      have d6b := hB.ne nD6
      refine lc_list (BL (fun j => Rn K (FoQ.co l j)) pb 1 920 H15 D6) (BL.start hB nD6) (fun j H7 _ h => SqL.of (h.1 _ _ eb dbb)) (fun j v H7 ev h => ?_) (fun H7 h => ?_)
      · have hj := (List.getElem?_eq_some_iff.mp ev).1
        rw [hLb.1] at hj
        obtain ⟨c, rfl, hc⟩ := hLb.2 j v ev
        obtain ⟨b7, hB7, _⟩ := id h
        exact ⟨rfl, _, rfl, _, rfl, c, pb, _, _, rfl, hc.nl (hB.nl b7), (zl j).mono (by decide), hB7, by omega, fun v H8 hv hB8 b8 => h.next (fun j => rn_solid _) nD6 d6b b8 (hB8.mono (by omega)) hv (by omega)⟩
      obtain ⟨b7, hB7, us, eu, elu, hu⟩ := h
      rw [hLb.1, el] at elu hB7
      have M := M.but hB b7
      have hLb := hLb.nl rq_solid (hB.nl b7)
      have eb := b7 _ _ eb dbb
      have hB := hB7.mono (show 920 + 1 * n ≤ 930 by omega)
      clear hB7 b7
      refine ⟨p1, D6, us, m, l, rfl, M.o, sqm, zm40, .inl eu, ⟨by rw [elu, el], hu⟩, by omega, rq_szN zl (by decide), fun ps H8 ss nps s8 eps gps => ?_⟩
      have M := M.same s8
      have hB := hB.same s8
      have hLb := hLb.nl rq_solid (same_nl s8)
      have eb := s8 _ _ eb
      dsimp only [gName, tNext]
      obtain ⟨dx, tx, ep⟩ := M.o.ins
      refine ⟨_, rfl, p1, dx, _, rfl, ep, rfl, p1, m, rfl, M.o, sqm, zm40, fun p5 H9 s9 h9 => ⟨p5, ttr m, rfl, h9, fun t1 nt1 => ?_⟩⟩
      have s10 := s9.trans (Same.upd nt1 (o := qt (ttr m)))
      have M := M.same s10
      have hB := hB.same s10
      have hLb := hLb.nl rq_solid (same_nl s10)
      have eb := s10 _ _ eb
      have eps := s10 _ _ eps
      have gps := gps.nl rr_solid (same_nl s10)
      refine ⟨_, rfl, D1, m, rfl, M.f, sqm, zm, fun p6 H11 n11 s11 h11 => fr_ne (s11 _ _ upd_same) h11 rfl ⟨_, rfl, iteF ?_⟩⟩
      have M := M.same s11
      have hB := hB.same s11
      have hLb := hLb.nl rq_solid (same_nl s11)
      have eb := s11 _ _ eb
      have eps := s11 _ _ eps
      have gps := gps.nl rr_solid (same_nl s11)
      have lps : (sentQ m l).length = n := by
        unfold sentQ
        simp [lm]
      refine ⟨_, rfl, ps, rfl, ⟨_, SqL.of eps⟩, fun D7 nD7 => ?_⟩
      refine lc_list (LInv (fun j => Rq (FoQ.co (sentQ m l) j)) H11 D7) (LInv.start nD7) (fun j H12 _ h => SqL.of (h.1 _ _ eps)) (fun j v H12 ev h => ?_) (fun H12 h => ?_)
      · have hj := (List.getElem?_eq_some_iff.mp ev).1
        rw [gps.1, lps] at hj
        obtain ⟨c, rfl, hc⟩ := rr_solid _ (same_nl h.1) (gps.2 j v ev)
        exact ⟨rfl, _, rfl, c, _, rfl, hc, fun p np => h.next (fun j => rq_solid _) nD7 (Same.upd np) ⟨p, rfl, upd_same⟩ (by omega)⟩
      obtain ⟨s12, w7, e7, el7, h7⟩ := h
      have M := M.same s12
      have hB := hB.same s12
      have hLb := hLb.nl rq_solid (same_nl s12)
      have eb := s12 _ _ eb
      refine ⟨_, rfl, _, rfl, D1, Db, wb, m, l, rfl, M.f, sqm, zm, eb, hLb, by omega, zl, fun p8 H13 ts n13 s13 e13 g13 => ?_⟩
      refine ls_ne (s13 _ _ e7) ((show Ls Rq H12 w7 (sentQ m l) from ⟨by rw [el7, gps.1], h7⟩).nl rq_solid (same_nl s13)) e13 g13 rfl ⟨_, rfl, iteF ?_⟩
      have M := M.same s13
      have hB := hB.same s13
      dsimp only [tNext]
      -- what is unlike, and the errors
      have cn : (n : Int) + 1 = ((n + 1 : Nat) : Int) := by omega
      refine ⟨_, rfl, rfl, _, rfl, _, _, rfl, rfl, n + 1, by show [V.ref _, V.int ((n : Int) + 1)] = _; rw [cn], by omega, fun p9 H14 n14 s14 h14 => ?_⟩
      have M := M.same s14
      have hB := hB.same s14
      refine ⟨p1, p9, m, tunit (n + 1), rfl, M.o, h14, by rw [tunit_len]; omega, by omega, by rw [tunit_len]; omega, fun H15 s15 => ⟨_, rfl, iteF ?_⟩⟩
      have M := M.same s15
      have hB := hB.same s15
      refine ⟨_, rfl, _, rfl, _, rfl, pb, p1, n, _, m, rfl, hB, by omega, M.o, lm, n1, n4, fun H16 b16 => ⟨_, rfl, iteF ?_⟩⟩
      exact ⟨s0.trans (fun c o e => (M.base.trans b16) c o e (ne_of_none e npb)), _, _, _, _, _, _, _, _, _, _, _, _, _, rfl⟩
end

end Fo

set_option maxHeartbeats 4100000
open PySem PySem.W PySem.Calls PyProof.Rows
set_option maxHeartbeats 0 in
theorem PySem.Challenge.cw_filterorders_k19_tables_holds : PySem.Challenge.rw_filterorders_k19_tables.Holds := by
  w_on; o_law
  refine FoI.head_imp (r := OpenLaw.row PySem.Challenge.rw_filterorders_k19_tables) (q := view (OpenLaw.row PySem.Challenge.rw_filterorders_k19_tables).prog [61]) (H := Fo.hk) (ob := Fo.ob) (M := 20000) (lse := Fo.loose) (d := HandSHeadRun.topDef (OpenLaw.row PySem.Challenge.rw_filterorders_k19_tables).prog 61) (kwq := []) Fo.ob_eq
    Fo.run (by kernel_rfl) (by kernel_rfl) (by kernel_rfl) (by rfl) (by first | assumption | decide +kernel) (by decide +kernel) ⟨rfl, rfl, rfl, rfl, rfl, by decide +kernel⟩ ?hw ?hc
  case hw => w_witness2
  case hc =>
    refine L2.walk_ofE (l := PySem.Challenge.rw_filterorders_k19_tables) (n := 63) (k := 9) (x := "_law_script") (CX := L2.CX0) rfl (by decide) (by kernel_rfl) ⟨rfl, by decide, by decide⟩ ?F (fun _ _ _ _ z => z)
    intro w mg fa h Y G hmg0
    obtain ⟨K, KX, c⟩ := Y
    have hmg : mg ("law" : PySem.Str) = some (.ref fa) := by
      have e : (HandSHeadRun.topDef (OpenLaw.row PySem.Challenge.rw_filterorders_k19_tables).prog 61).name = ("law" : PySem.Str) := by kernel_rfl
      rw [← e]
      exact hmg0
    obtain ⟨T⟩ := Fo.facts KX G c
    have efa := hmg.symm.trans T.g_law
    cases efa
    exact ⟨K, T.fd_law, Fo.spLaw K, KX, fun s v => FoZ.bind1 T.F_law s v, fun H a ns hl _ hS => ⟨a, ns, rfl, hS, hl, fun _ => rfl⟩, fun base _ _ => Fo.ok_law T⟩

