import PyProof.Rows.All
import Wide.All
import OpenK.AllK
import Wide.FinOn
import PySem.Challenge.RW_filterorders_k01_errors
import KE.KStateDown
import HandS.ForMost
import HandS.Exc
import HandS.Defaults
import HandS.HeadHook1
import HandS.HeadHook2
import HandS.HeadNt
import HandS.HeadEnd
import HandS.Head2
import HandS.Property
import KE.KOpsOwn
import HandS.ExcOwn
import HandS.ExcInit
import HandS.TryOnly
import HandS.WordsExc
import HandS.MakeKw
import HandS.MakeKwOnly
import HandS.IsInst
import HandS.OwnEq
import HandS.Gcd
import HandS.Wide
import HandS.RaiseMore
import HandS.CallSlots
import PyProof.ReprRoads
import PyProof.ReprHeadsEmpty
import PyProof.InstNe
import HandS.ClsMeth
import HandS.ExcValue
import HandS.ExcIs
import HandS.List
import HandS.Comp
set_option Elab.async false
set_option linter.all false
set_option maxRecDepth 100000
set_option maxHeartbeats 4100000
/-! A hook whose facts are free Bools of the written part; defs at any address. -/
namespace FoZ
open PySem PySem.Spec PyProof.Rows L2
abbrev Fr1 := PySem.W.Frag
/-- what is looked at: all of the Bools, and the defs -/
def look (bs : List (Fr1 → Bool)) (ds : List He5.DefA) (K : Fr1) : Bool × List He.FnW :=
  ((bs.all fun b => b K) && ds.all fun d => d.ok K, ds.map fun d => He5.fnA K (d.at_ K))
def want (ds : List He5.DefA) : Bool × List He.FnW := (true, ds.map He5.DefA.val)
def Told (bs : List (Fr1 → Bool)) (ds : List He5.DefA) (K : Fr1) : Prop := look bs ds K = want ds
def lookG (n : Nat) (bs : List (Fr1 → Bool)) (ds : List He5.DefA) (g : Addr → Option Obj) : Bool × List He.FnW :=
  look bs ds (He.frG g (He5.asA g n))
def hook (n : Nat) (bs : List (Fr1 → Bool)) (ds : List He5.DefA) : PySem.W.Hook where
  α := Bool × List He.FnW
  obs := fun s => lookG n bs ds s.heap.get?
  val := fun _ => want ds
  says := fun _ h => ∃ K : Fr1, K.In h ∧ Told bs ds K
  of := fun _ _ e => ⟨_, He.frG_in, e⟩
  keeps := fun _ _ _ ⟨K, hKK, c⟩ k => ⟨K, PySem.W.Frag.In.keeps hKK k, c⟩
theorem lookG_eq {n : Nat} {bs : List (Fr1 → Bool)} {ds : List He5.DefA} {g : Addr → Option Obj} {s : Shared}
    (h : ∀ a, g a = s.heap.get? a) : lookG n bs ds g = (hook n bs ds).obs s := by
  have e : g = s.heap.get? := funext h; rw [e]
  rfl
section
variable {bs : List (Fr1 → Bool)} {ds : List He5.DefA} {K : Fr1}
theorem Told.bool (c : Told bs ds K) (i : Nat) {b : Fr1 → Bool} (h : bs[i]? = some b := by rfl) : b K = true := by
  have c0 : ((bs.all fun b => b K) && ds.all fun d => d.ok K) = true := congrArg Prod.fst c
  have c1 := (Bool.and_eq_true_iff.mp c0).1
  exact List.all_eq_true.mp c1 b (List.mem_of_getElem? h)
theorem Told.defn (c : Told bs ds K) (i : Nat) {d : He5.DefA} (h : ds[i]? = some d := by rfl) :
    ∃ fd, FunD K d.name d.qual d.params d.body d.scope (d.dvs K) (d.kws K) (d.at_ K) fd := by
  have c0 : ((bs.all fun b => b K) && ds.all fun d => d.ok K) = true := congrArg Prod.fst c
  have c1 := (Bool.and_eq_true_iff.mp c0).2
  have e : ds.map (fun d => He5.fnA K (d.at_ K)) = ds.map He5.DefA.val := congrArg Prod.snd c
  have e1 : (ds.map fun d => He5.fnA K (d.at_ K))[i]? = (ds.map He5.DefA.val)[i]? := by rw [e]
  rw [List.getElem?_map, List.getElem?_map, h] at e1
  exact He5.DefA.funD (Option.some.inj e1) (List.all_eq_true.mp c1 d (List.mem_of_getElem? h))
end
/-! ### further Bools -/
/-- the getter of a property m of the class that the name x stands for -/
def pg (K : Fr1) (x m : Str) : Addr := match PySem.W.recIn K (He.ma K (He.ga K x) m) "property" with
  | some (.ref g :: _) => g
  | _ => 0
def propB (x m : Str) (K : Fr1) : Bool :=
  He.eqO (PySem.W.findIn K (.ref (He.ga K x)) m) (some (some (.ref (He.ma K (He.ga K x) m)))) &&
  (He.eqO (PySem.W.specialIn K (.ref (He.ma K (He.ga K x) m)) "__get__") (some (some (.builtin "property.__get__"))) &&
  (decide (PySem.W.takesIn K (.ref (He.ma K (He.ga K x) m)) = some true) && (match PySem.W.recIn K (He.ma K (He.ga K x) m) "property" with
    | some (.ref _ :: _) => true
    | _ => false)))
theorem prop_ok {K : Fr1} {x m : Str} (h : propB x m K = true) : PropOf K (He.ga K x) m (He.ma K (He.ga K x) m) (pg K x m) := by
  obtain ⟨h1, h⟩ := He.ba h
  obtain ⟨h2, h⟩ := He.ba h
  obtain ⟨h3, h4⟩ := He.ba h
  refine ⟨He.eqO_ok h1, He.eqO_ok h2, of_decide_eq_true h3, ?_⟩
  unfold pg
  split at h4
  · rename_i g r e
    exact ⟨r, by rw [e]⟩
  · cases h4
def impB (x : Str) (id : String) (K : Fr1) : Bool := He.eqO (PySem.W.nsIn K mainGlobals x) (some (some (.builtin id)))
theorem imp_ok {K : Fr1} {h : Heap} {mg : Str → Option Value} (X : K.In h) (G : h.Ns mainGlobals mg) {x : Str} {id : String} (c : impB x id K = true) : mg x = some (.builtin id) :=
  PySem.W.mg_of X G (He.eqO_ok c)
def binB (x m r : Str) (K : Fr1) : Bool := PySem.W.selfFirst K (He.ga K x) && (He.eqO (PySem.W.findIn K (.ref (He.ga K x)) m) (some (some (.ref (He.ma K (He.ga K x) m)))) &&
  (PySem.W.isFn K (.ref (He.ma K (He.ga K x) m)) && (He.eqO (PySem.W.findIn K (.ref (He.ga K x)) r) (some none) && decide (PySem.W.subIn K (.type "int") (.ref (He.ga K x)) = some false))))
def tyNames : List String := ["NoneType", "bool", "int", "str", "list", "tuple", "dict"]
def cmpB (x m : Str) (K : Fr1) : Bool := He.eqO (PySem.W.findIn K (.ref (He.ga K x)) m) (some (some (.ref (He.ma K (He.ga K x) m)))) &&
  (PySem.W.isFn K (.ref (He.ma K (He.ga K x) m)) && tyNames.all fun T => decide (PySem.W.subIn K (.type T) (.ref (He.ga K x)) = some false))
/-- the binding of the law's one argument -/
theorem bind1 {K : Fr1} {x qual y : Str} {st : Stmt} {f : Addr} {fd : FuncData} (F : Fun K x qual st f fd) (s : Shared) (v : Value)
    (h : ∀ (kV doc pm : Value) (an : Option Addr) (cv ct : Value), bindArgs (PySem.W.fnOf x qual (defArgs st) (defBody st) (defScope st) .none kV doc pm an cv ct) ⟨[v], []⟩ = pure [(y, v)] := by intros; rfl) : BindsTo s fd ⟨[v], []⟩ [(y, v)] := by
  obtain ⟨oc, od, kV, doc, pm, an, cv, ct, osl, rfl, lk, hcd⟩ := F.ex
  exact .of_eq (h kV doc pm an cv ct)
end FoZ

set_option maxHeartbeats 4100000
/-! Rules that the layer lacks: operators of own classes, powers and quotients of greater ints, calls by keywords alone. -/
namespace FoA
open PySem PySem.Spec PyProof.Rows L2
section
variable {X : Cx}
/-! ### numbers -/
def CPowW (i j : Int) : Prop := 0 ≤ j ∧ j ≤ 1000 ∧ i.natAbs < 2 ^ 1000
theorem bits_of {i : Int} {n : Nat} (h0 : 0 < n) (h : i.natAbs < 2 ^ n) : Builtin.Int.intBits i ≤ n := by
  have z := PySem.Flt.log2_lt_of h0 h
  unfold Builtin.Int.intBits
  split <;> omega
theorem op_powW : OpR X (binaryOp .Pow) (rI CPowW fun i j => .int (i ^ j.toNat)) := opI fun i j _ _ _ _ _ hc q => by
  obtain ⟨h1, h2, h3⟩ := hc
  refine pow_int h1 ?_ q
  have b := bits_of (by decide) h3
  have b2 : (Builtin.Int.intBits i : Int) ≤ 1000 := by omega
  have b3 : (Builtin.Int.intBits i : Int) * j ≤ 1000 * 1000 := Int.mul_le_mul b2 h2 h1 (by decide)
  exact Int.le_trans b3 (by decide)
/-- // by any divisor but 0 below 2 ^ 9000 -/
def CDivZ (_ j : Int) : Prop := j ≠ 0 ∧ j.natAbs.log2 < 9000
theorem op_fdivZ : OpR X (binaryOp .FloorDiv) (rI CDivZ fun i j => .int (i.fdiv j)) :=
  opI fun _ _ _ _ _ _ _ hc q => floordiv_int hc.1 q (.inl (PyProof.noPylong_of_log2 hc.2))
theorem divZ_of {i j : Int} {b : Nat} (h : j ≠ 0) (hb : j.natAbs < 2 ^ b) (h0 : 0 < b) (h9 : b ≤ 9000) : CDivZ i j :=
  ⟨h, Nat.lt_of_lt_of_le (PySem.Flt.log2_lt_of h0 hb) h9⟩

/-! ### what a method hands back is never NotImplemented -/
theorem back_ok {pz : List (Addr × Obj)} {τ : L2.St} {Q : VK} {u : Value} {s : Shared} (h : EP X pz τ Q u s) :
    PySem.W.CmpBack (EP X pz τ Q) u s := by
  obtain ⟨v, H, I, r, q⟩ := h
  have z : EP X pz τ Q u s := ⟨v, H, I, r, q⟩
  cases v with
  | non => cases (show u = Value.none from r); exact z
  | bl b => cases (show u = Value.bool b from r); exact z
  | int i => obtain ⟨t, e⟩ := (show ∃ t, u = Value.int i t from r); cases e; exact z
  | str x => obtain ⟨t, e⟩ := (show ∃ t, u = Value.str x t from r); cases e; exact z
  | byt b => obtain ⟨t, e⟩ := (show ∃ t, u = Value.bytes b t from r); cases e; exact z
  | flt b => obtain ⟨t, e⟩ := (show ∃ t, u = Value.float b t from r); cases e; exact z
  | ref a => cases (show u = Value.ref a from r); exact z
  | ty n => cases (show u = Value.type n from r); exact z

/-! ### a op b, a of an own class, b of the class or an int -/
/-- what the written part says of the class's method for op -/
structure BinC (K : PySem.W.Frag) (C f : Addr) (op : Operator) : Prop where
  sf : PySem.W.selfFirst K C = true
  at_ : PySem.W.findIn K (.ref C) (PySem.dunder op.info.2) = some (some (.ref f))
  (fn : PySem.W.isFn K (.ref f) = true)
  nr : PySem.W.findIn K (.ref C) (dunderR op.info.2) = some none
  ni : PySem.W.subIn K (.type "int") (.ref C) = some false
def rBin (C : Addr) (sp : Sp) (E : XK) : R2 := fun x y H Q => ∃ a dx fs, x = .ref a ∧ H a = some (.ins C dx fs) ∧
  ((∃ i, y = .int i) ∨ ∃ b dy gs, y = .ref b ∧ H b = some (.ins C dy gs)) ∧ sp [x, y] H Q E
section
variable {CX : CXT} {k : Nat} {C f : Addr} {fd : FuncData} {ps : List Str} {sp : Sp} {E : XK} {op : Operator}
theorem op_own {fo ro : Option Value} (F : FnOk X.prog X.w X.K X.mg X.base CX k f fd ps sp) (hr : Room k X.A) (hb : Binds X.K fd ps []) (hx : Passes CX X E) (B : BinC X.K C f op)
    (h1 : PySem.W.findIn X.K (.type "int") (PySem.dunder op.info.2) = some fo) (h2 : PySem.W.findIn X.K (.type "int") (dunderR op.info.2) = some ro) : OpR X (binaryOp op) (rBin C sp E) := by
  intro pz s τ H x y v u Q I rx ry h
  obtain ⟨a, dx, fs, rfl, ea, hy, q⟩ := h
  cases rx
  obtain ⟨mA, J, _⟩ := ins_get I.hok ea
  obtain ⟨od, J, _⟩ := J.look
  obtain ⟨m, hF⟩ := I.fr
  have call := run_fn (us := [.ref a, u]) (vs := [.ref a, y]) (dvs := []) F hr hb .nil hx I (.cons rfl (.cons ry .nil)) (by simpa using q)
  have back := wpAny_mono call (fun r s' z => back_ok z) fun _ _ e => e
  rcases hy with ⟨i, rfl⟩ | ⟨b, dy, gs, rfl, eb⟩
  · obtain ⟨t, rfl⟩ := ry
    exact PySem.W.ksp_binT hF I.ok.mod.kin J rfl B.sf B.at_ B.fn B.nr (.inl rfl) h1 h2 B.ni back
  · cases ry
    obtain ⟨mB, J', _⟩ := ins_get I.hok eb
    obtain ⟨od', J', _⟩ := J'.look; exact PySem.W.binop_K hF I.ok.mod.kin J J'.type B.sf B.at_ B.fn back
/-- -a, a of an own class -/
theorem un_own (F : FnOk X.prog X.w X.K X.mg X.base CX k f fd ps sp) (hr : Room k X.A) (hb : Binds X.K fd ps []) (hx : Passes CX X E)
    (h1 : PySem.W.findIn X.K (.ref C) "__neg__" = some (some (.ref f))) (h2 : PySem.W.isFn X.K (.ref f) = true) :
    UnR X (unaryOp .USub) (fun x H Q => ∃ a dx fs, x = .ref a ∧ H a = some (.ins C dx fs) ∧ sp [x] H Q E) := by
  intro pz s τ H x v Q I rx h
  obtain ⟨a, dx, fs, rfl, ea, q⟩ := h
  cases rx
  obtain ⟨mA, J, _⟩ := ins_get I.hok ea
  obtain ⟨od, J, _⟩ := J.look
  obtain ⟨m, hF⟩ := I.fr
  exact PySem.W.ksp_neg hF I.ok.mod.kin J h1 h2 (run_fn (us := [.ref a]) (vs := [.ref a]) (dvs := []) F hr hb .nil hx I (.cons rfl .nil) (by simpa using q))
/-! ### a == b, a < b, a <= b by an own method: b a plain value, a list, a tuple, a dict, an object of the class -/
inductive OthV (H : Hp) (C : Addr) : V → Prop where
  | non : OthV H C .non
  | bl (b : Bool) : OthV H C (.bl b)
  | int (i : Int) : OthV H C (.int i)
  | str (x : Str) : OthV H C (.str x)
  | lst {a : Addr} {xs : List V} (e : H a = some (.lst xs)) : OthV H C (.ref a)
  | tup {a : Addr} {xs : List V} (e : H a = some (.tup xs)) : OthV H C (.ref a)
  | dK {a : Addr} {xs : List (Key × V)} (e : H a = some (.dK xs)) : OthV H C (.ref a)
  | ins {a dx : Addr} {fs : List (Str × V)} (e : H a = some (.ins C dx fs)) : OthV H C (.ref a)
structure CmpC (K : PySem.W.Frag) (C f : Addr) (op : CmpOp) : Prop where
  at_ : PySem.W.findIn K (.ref C) (cmpInfo op).2.1 = some (some (.ref f))
  (fn : PySem.W.isFn K (.ref f) = true)
  nt : ∀ T ∈ ["NoneType", "bool", "int", "str", "list", "tuple", "dict"], PySem.W.subIn K (.type T) (.ref C) = some false
theorem CmpC.ty {K : PySem.W.Frag} {C f : Addr} {op : CmpOp} (c : CmpC K C f op) {T : String} (h : T ∈ ["NoneType", "bool", "int", "str", "list", "tuple", "dict"]) : PySem.W.notFirst K C (.type T) = true := by
  unfold PySem.W.notFirst
  rw [c.nt T h]
  exact Bool.or_eq_true_iff.mpr (.inr (beq_self_eq_true _))
def rCmp (C : Addr) (sp : Sp) (E : XK) : R2 := fun x y H Q => ∃ a dx fs, x = .ref a ∧ H a = some (.ins C dx fs) ∧ OthV H C y ∧ sp [x, y] H Q E
theorem look_type {pz : List (Addr × Obj)} {s : Shared} {τ : L2.St} {H : Hp} {a : Addr} {T : String} (o : Obj) (h : s.heap.get? a = some o) (c : o.cls = .type T) {M : Model} :
    PySem.W.Looks M s.heap (typeOf (.ref a)) (.type T) := fun A Q E s k q => wpAny_typeOf_ref (k _ _ h) (by rw [c]; exact q)
theorem op_ownC {op : CmpOp} (F : FnOk X.prog X.w X.K X.mg X.base CX k f fd ps sp) (hr : Room k X.A) (hb : Binds X.K fd ps []) (hx : Passes CX X E) (B : CmpC X.K C f op)
    (ho : ∀ v u : Value, compareOp op v u = richCompare op v u) : OpR X (compareOp op) (rCmp C sp E) := by
  intro pz s τ H x y v u Q I rx ry h
  obtain ⟨a, dx, fs, rfl, ea, hy, q⟩ := h
  cases rx
  rw [ho]
  obtain ⟨mA, J, _⟩ := ins_get I.hok ea
  obtain ⟨od, J, _⟩ := J.look
  obtain ⟨m, hF⟩ := I.fr
  have call := run_fn (us := [.ref a, u]) (vs := [.ref a, y]) (dvs := []) F hr hb .nil hx I (.cons rfl (.cons ry .nil)) (by simpa using q)
  have back := wpAny_mono call (fun r s' z => back_ok z) fun _ _ e => e
  have hu := hr.units0
  cases hy with
  | non => cases ry; exact PySem.W.cmp_K hu hF I.ok.mod.kin J (PySem.W.Looks.of_pure rfl) (B.ty (T := "NoneType") (by simp)) B.at_ B.fn back
  | bl b => cases ry; exact PySem.W.cmp_K hu hF I.ok.mod.kin J (PySem.W.Looks.of_pure rfl) (B.ty (T := "bool") (by simp)) B.at_ B.fn back
  | int i => obtain ⟨t, rfl⟩ := ry; exact PySem.W.cmp_K hu hF I.ok.mod.kin J (PySem.W.Looks.of_pure rfl) (B.ty (T := "int") (by simp)) B.at_ B.fn back
  | str z => obtain ⟨t, rfl⟩ := ry; exact PySem.W.cmp_K hu hF I.ok.mod.kin J (PySem.W.Looks.of_pure rfl) (B.ty (T := "str") (by simp)) B.at_ B.fn back
  | @lst b xs e =>
    cases ry
    obtain ⟨_, _, n, _, h1⟩ := (show ObjOk X.prog X.w H s.heap b (.lst xs) from I.hok b _ e)
    exact PySem.W.cmp_K hu hF I.ok.mod.kin J (look_type (pz := pz) (τ := τ) (H := H) _ h1 rfl) (B.ty (T := "list") (by simp)) B.at_ B.fn back
  | @tup b xs e =>
    cases ry
    obtain ⟨_, _, _, o, h1, h2, _⟩ := (show ObjOk X.prog X.w H s.heap b (.tup xs) from I.hok b _ e)
    exact PySem.W.cmp_K hu hF I.ok.mod.kin J (look_type (pz := pz) (τ := τ) (H := H) _ h1 h2) (B.ty (T := "tuple") (by simp)) B.at_ B.fn back
  | @dK b xs e =>
    cases ry
    obtain ⟨_, _, vs, _, o, es, ep, h1, h2, _⟩ := (show ObjOk X.prog X.w H s.heap b (.dK xs) from I.hok b _ e)
    exact PySem.W.cmp_K hu hF I.ok.mod.kin J (look_type (pz := pz) (τ := τ) (H := H) _ h1 h2.1) (B.ty (T := "dict") (by simp)) B.at_ B.fn back
  | @ins b dy gs e =>
    cases ry
    obtain ⟨mB, J', _⟩ := ins_get I.hok e
    obtain ⟨od', J', _⟩ := J'.look; exact PySem.W.cmp_K hu hF I.ok.mod.kin J J'.type (by simp [PySem.W.notFirst]) B.at_ B.fn back
end
end
section
variable {X : Cx}
theorem call_intI : CallR X (.type "int") (fun xs H Q => ∃ i, xs = [.int i] ∧ Q (.int i) H) := fun pz s τ H xs us Q I r h =>
  call_int1 pz s τ H xs us Q I r (.inl h)
theorem call_intB : CallR X (.type "int") (fun xs H Q => ∃ k, xs = [.bl k] ∧ Q (.int (if k then 1 else 0)) H) := fun pz s τ H xs us Q I r h =>
  call_int1 pz s τ H xs us Q I r (.inr h)
end
end FoA

set_option maxHeartbeats 4100000
namespace FoB
open PySem PySem.Spec PyProof.Rows L2 FoZ
section
variable {K : PySem.W.Frag} {x m r : Str}
theorem bin_raw {op : Operator} (h : binB x m r K = true) (hm : PySem.dunder op.info.2 = m) (hr : dunderR op.info.2 = r) : FoA.BinC K (He.ga K x) (He.ma K (He.ga K x) m) op := by
  obtain ⟨h1, h⟩ := He.ba h
  obtain ⟨h2, h⟩ := He.ba h
  obtain ⟨h3, h⟩ := He.ba h
  obtain ⟨h4, h5⟩ := He.ba h
  exact ⟨h1, by rw [hm]; exact He.eqO_ok h2, h3, by rw [hr]; exact He.eqO_ok h4, of_decide_eq_true h5⟩
theorem bin_add (h : binB x "__add__" "__radd__" K = true) : FoA.BinC K (He.ga K x) (He.ma K (He.ga K x) "__add__") .Add := bin_raw h (by kernel_rfl) (by kernel_rfl)
theorem bin_sub (h : binB x "__sub__" "__rsub__" K = true) : FoA.BinC K (He.ga K x) (He.ma K (He.ga K x) "__sub__") .Sub := bin_raw h (by kernel_rfl) (by kernel_rfl)
theorem bin_mul (h : binB x "__mul__" "__rmul__" K = true) : FoA.BinC K (He.ga K x) (He.ma K (He.ga K x) "__mul__") .Mult := bin_raw h (by kernel_rfl) (by kernel_rfl)
theorem cmp_raw {op : CmpOp} (h : cmpB x m K = true) (hm : (cmpInfo op).2.1 = m) : FoA.CmpC K (He.ga K x) (He.ma K (He.ga K x) m) op := by
  obtain ⟨h1, h⟩ := He.ba h
  obtain ⟨h2, h3⟩ := He.ba h
  exact ⟨by rw [hm]; exact He.eqO_ok h1, h2, fun T hT => of_decide_eq_true (List.all_eq_true.mp h3 T hT)⟩
theorem cmp_eq (h : cmpB x "__eq__" K = true) : FoA.CmpC K (He.ga K x) (He.ma K (He.ga K x) "__eq__") .Eq := cmp_raw h rfl
theorem cmp_lt (h : cmpB x "__lt__" K = true) : FoA.CmpC K (He.ga K x) (He.ma K (He.ga K x) "__lt__") .Lt := cmp_raw h rfl
theorem cmp_le (h : cmpB x "__le__" K = true) : FoA.CmpC K (He.ga K x) (He.ma K (He.ga K x) "__le__") .LtE := cmp_raw h rfl
end
section
variable {K : PySem.W.Frag} {x : Str}
/-! ### isinstance -/
/-- an object of x's class: what isinstance looks at; its class against int, bool, the class itself; the plain types against the class -/
def isiB (x : Str) (K : PySem.W.Frag) : Bool := He.eqO (PySem.W.findIn K (.ref (He.ga K x)) "__class__") (some (some (.builtin "object.__class__"))) &&
  (He.eqO (PySem.W.specialIn K (.builtin "object.__class__") "__get__") (some (some (.builtin "getset_descriptor.__get__"))) &&
  (decide (PySem.W.takesIn K (.builtin "object.__class__") = some true) && (decide (PySem.W.mroIn K (He.ga K x) (.type "object") = some true) &&
  (decide (PySem.W.kitOne K (.ref (He.ga K x)) (.type "int") = some false) && (decide (PySem.W.kitOne K (.ref (He.ga K x)) (.type "bool") = some false) &&
  tyNames.all fun T => decide (PySem.W.kitOne K (.type T) (.ref (He.ga K x)) = some false))))))
structure Isi (K : PySem.W.Frag) (D : Addr) : Prop where
  (ha : PySem.W.findIn K (.ref D) "__class__" = some (some (.builtin "object.__class__")))
  (hn : PySem.W.specialIn K (.builtin "object.__class__") "__get__" = some (some (.builtin "getset_descriptor.__get__")))
  (ht : PySem.W.takesIn K (.builtin "object.__class__") = some true)
  (hm : PySem.W.mroIn K D (.type "object") = some true)
  ki : PySem.W.kitOne K (.ref D) (.type "int") = some false
  kb : PySem.W.kitOne K (.ref D) (.type "bool") = some false
  kt : ∀ T ∈ tyNames, PySem.W.kitOne K (.type T) (.ref D) = some false
theorem isi_ok (h : isiB x K = true) : Isi K (He.ga K x) := by
  obtain ⟨h1, h⟩ := He.ba h
  obtain ⟨h2, h⟩ := He.ba h
  obtain ⟨h3, h⟩ := He.ba h
  obtain ⟨h4, h⟩ := He.ba h
  obtain ⟨h5, h⟩ := He.ba h
  obtain ⟨h6, h7⟩ := He.ba h
  exact ⟨He.eqO_ok h1, He.eqO_ok h2, of_decide_eq_true h3, of_decide_eq_true h4, of_decide_eq_true h5, of_decide_eq_true h6, fun T hT => of_decide_eq_true (List.all_eq_true.mp h7 T hT)⟩
theorem kit_self {K : PySem.W.Frag} {D : Addr} : PySem.W.kitOne K (.ref D) (.ref D) = some true := by
  unfold PySem.W.kitOne
  rw [if_pos (beq_self_eq_true (Value.ref D))]
/-- isinstance(e, D), e an object of D -/
theorem TyI {D a dx : Addr} {H : Hp} {fs : List (Str × V)} (i : Isi K D) (c : Cls K D) (e : H a = some (.ins D dx fs)) : TyX K H (.ref a) (.ref D) := .base (.ins e c i.ha i.hn i.ht i.hm)
/-! ### own errors -/
structure ErrC (K : PySem.W.Frag) (D : Addr) : Prop where
  ex : PySem.W.excIn K D He.veBase "ValueError.__new__" = true
  kp : PySem.W.keepIn K (.ref D) = true
  sb : PySem.W.subIn K (.ref D) (.type "BaseException") = some true
  ty : PySem.W.typeIn K (.ref D) = some (.type "type")
  me : PySem.W.exmOne K (.ref D) (.ref D) = some true
def errB (x : Str) (K : PySem.W.Frag) : Bool := (He.Fa.exc x).ok K && (He.Fa.exm x x true).ok K
theorem err_ok (h : errB x K = true) : ErrC K (He.ga K x) := by
  obtain ⟨h1, h2⟩ := He.ba h
  obtain ⟨a, b, c, d⟩ := He.exc_ok h1
  exact ⟨a, b, c, d, He.exm_ok h2⟩
/-- an error with an __init__ of its own -/
def oexB (x : Str) (f : Str) (K : PySem.W.Frag) : Bool := (match K.lookup (He.ga K x) with
    | some ⟨.type t, _, .cls cdt, slt⟩ => decide (t = "type") && ((match cdt.mro with
      | .ref D :: bm => decide (D = He.ga K x) && PySem.HandSPX.refsVE bm
      | _ => false) && (cdt.hasDict && (!cdt.hasDel && (match slt.toList with
      | [_, _, _, _, some (.builtin n), _] => decide (n = "ValueError.__new__")
      | _ => false))))
    | _ => false) &&
  (He.eqO (PySem.W.findIn K (.ref (He.ga K x)) "__setattr__") (some (some (.builtin "object.__setattr__"))) &&
  (decide (PySem.W.subIn K (.ref (He.ga K x)) (.type "BaseException") = some true) && (decide (PySem.W.typeIn K (.ref (He.ga K x)) = some (.type "type")) && (PySem.W.keepIn K (.ref (He.ga K x)) &&
  (He.eqO (PySem.W.findIn K (.ref (He.ga K x)) f) (some none) && ((He.Fa.exm x x true).ok K &&
  (He.eqO (PySem.W.findIn K (.ref (He.ga K x)) "__init__") (some (some (.ref (He.ma K (He.ga K x) "__init__")))) && (decide (PySem.W.typeIn K (.ref (He.ma K (He.ga K x) "__init__")) = some (.type "function")) &&
  (He.eqO (PySem.W.findIn K (.ref (He.ga K x)) "__getattribute__") (some (some (.builtin "BaseException.__getattribute__"))) && (He.eqO (PySem.W.findIn K (.ref (He.ga K x)) "__getattr__") (some none) && PySem.W.hasDictIn K (He.ga K x)))))))))))
structure OErr (K : PySem.W.Frag) (D fI : Addr) (f : Str) : Prop where
  ox : OexC K D
  no : PySem.W.findIn K (.ref D) f = some none
  me : PySem.W.exmOne K (.ref D) (.ref D) = some true
  iC : PySem.W.findIn K (.ref D) "__init__" = some (some (.ref fI))
  tI : PySem.W.typeIn K (.ref fI) = some (.type "function")
  ga : PySem.W.findIn K (.ref D) "__getattribute__" = some (some (.builtin "BaseException.__getattribute__"))
  gg : PySem.W.findIn K (.ref D) "__getattr__" = some none
  (hd : PySem.W.hasDictIn K D = true)
theorem oerr_ok {f : Str} (h : oexB x f K = true) : OErr K (He.ga K x) (He.ma K (He.ga K x) "__init__") f := by
  obtain ⟨h1, h⟩ := He.ba h
  obtain ⟨h2, h⟩ := He.ba h
  obtain ⟨h3, h⟩ := He.ba h
  obtain ⟨h4, h⟩ := He.ba h
  obtain ⟨h5, h⟩ := He.ba h
  obtain ⟨h6, h⟩ := He.ba h
  obtain ⟨h7, h⟩ := He.ba h
  obtain ⟨h8, h⟩ := He.ba h
  obtain ⟨h9, h⟩ := He.ba h
  obtain ⟨h10, h⟩ := He.ba h
  obtain ⟨h11, h12⟩ := He.ba h
  refine ⟨⟨?_, He.eqO_ok h2, of_decide_eq_true h3, of_decide_eq_true h4, h5⟩, He.eqO_ok h6, He.exm_ok h7, He.eqO_ok h8, of_decide_eq_true h9, He.eqO_ok h10, He.eqO_ok h11, h12⟩
  generalize He.ga K x = D at h1
  split at h1
  · rename_i t dd cdt slt lk
    obtain ⟨g1, g⟩ := He.ba h1
    obtain ⟨g2, g⟩ := He.ba g
    obtain ⟨g3, g⟩ := He.ba g
    obtain ⟨g4, g5⟩ := He.ba g
    have e1 : t = "type" := of_decide_eq_true g1
    subst e1
    split at g2
    · rename_i C' bm hm
      obtain ⟨q1, q2⟩ := He.ba g2
      have e2 : C' = D := of_decide_eq_true q1
      subst e2
      split at g5
      · rename_i k0 k1 k2 k3 n k5 hs
        have e3 : n = "ValueError.__new__" := of_decide_eq_true g5
        subst e3
        obtain ⟨nm, bs, mro, ns, qn, hd, sn, sub, ab, col, del⟩ := cdt
        dsimp only at hm g3 g4
        subst hm g3
        have e4 : del = false := by
          cases del
          · rfl
          · cases g4
        subst e4
        have hsl : slt = #[k0, k1, k2, k3, some (.builtin "ValueError.__new__"), k5] := by
          obtain ⟨l⟩ := slt
          simp only at hs
          rw [hs]
        subst hsl
        exact ⟨nm, qn, ns, bs, bm, sn, sub, ab, col, dd, k0, k1, k2, k3, k5, lk, q2⟩
      · cases g5
    · cases g2
  · cases h1
end
section
variable {X : Cx} {D : Addr}
/-- X() -/
theorem pmk_own0 {x : Str} {p pos : Pos} (e : ErrC X.K D) (gC : X.mg x = some (.ref D)) (hg : Gl X x) (hdq : (x == ("__debug__" : Str)) = false := by decide) :
    L2.PMk X (.Call (.Name x p) [] [] pos) (fun _ H Q => Q (.ref D) none H) := by
  intro pz s τ H Q I h
  refine wpAny_Call_Name_kw (ld_glob I hg gC ?_ hdq)
  refine PySem.W.callWith_K0 I.kIn e.kp ?_
  show wpAny _ _ (call (.ref D) []) _ _ _
  obtain ⟨bm, N, nm, qn, bs, hdct, sn, sub, ab, col, dd, k0, k1, k2, k3, k5, mN, hC, hN, hni, T⟩ := exc_obj I.kIn e.ex
  refine wpAny_call_exc_subT PySem.F.excBase_ValueError T hC hN hni (fun h' e' hm => ?_) (Nat.zero_le _)
  exact mk_of I hm (raises_own e.sb e.ty) h (I.hok.gone hm.new)
end
end FoB

/-! Fractions in lowest terms, sizes of whole numbers. Plain mathematics. -/
namespace FoM
/-! ### sizes -/
def Sz (n : Nat) (i : Int) : Prop := i.natAbs < 2 ^ n
theorem Sz.mono {n m : Nat} {i : Int} (h : Sz n i) (l : n ≤ m) : Sz m i := Nat.lt_of_lt_of_le h (Nat.pow_le_pow_right (by decide) l)
theorem Sz.mul {n m : Nat} {i j : Int} (h : Sz n i) (g : Sz m j) : Sz (n + m) (i * j) := by
  unfold Sz
  rw [Nat.pow_add 2, Int.natAbs_mul]
  exact Nat.mul_lt_mul'' h g
theorem Sz.add {n : Nat} {i j : Int} (h : Sz n i) (g : Sz n j) : Sz (n + 1) (i + j) := by
  unfold Sz at *
  have e : 2 ^ (n + 1) = 2 ^ n + 2 ^ n := by rw [Nat.pow_succ]; omega
  omega
theorem Sz.sub {n : Nat} {i j : Int} (h : Sz n i) (g : Sz n j) : Sz (n + 1) (i - j) := by
  unfold Sz at *
  have e : 2 ^ (n + 1) = 2 ^ n + 2 ^ n := by rw [Nat.pow_succ]; omega
  omega
theorem Sz.neg {n : Nat} {i : Int} (h : Sz n i) : Sz n (-i) := by
  unfold Sz at *
  omega
theorem Sz.le {n : Nat} {i j : Int} (h : Sz n j) (l : i.natAbs ≤ j.natAbs) : Sz n i := Nat.lt_of_le_of_lt l h
theorem Sz.mulok {n m : Nat} {i j : Int} (h : Sz n i) (g : Sz m j) (h0 : 0 < n := by decide) (g0 : 0 < m := by decide) (l : n + m ≤ 1000000 := by decide) : L2.CMulW i j :=
  L2.wide_mul h g h0 g0 l
/-! ### the greatest common divisor, with the sign of the lower number -/
def gc (u d : Int) : Int := if d < 0 then -((Nat.gcd u.natAbs d.natAbs : Nat) : Int) else ((Nat.gcd u.natAbs d.natAbs : Nat) : Int)
def frN (u d : Int) : Int := u.fdiv (gc u d)
def frD (u d : Int) : Int := d.fdiv (gc u d)
theorem gc_abs (u d : Int) : (gc u d).natAbs = Nat.gcd u.natAbs d.natAbs := by
  unfold gc
  split <;> omega
theorem gc_ne {u d : Int} (h : d ≠ 0) : gc u d ≠ 0 := by
  intro e
  have z := gc_abs u d
  rw [e] at z
  have p : 0 < Nat.gcd u.natAbs d.natAbs := Nat.gcd_pos_of_pos_right _ (by omega)
  omega
theorem gc_le {u d : Int} (h : d ≠ 0) : (gc u d).natAbs ≤ d.natAbs := by
  rw [gc_abs]
  exact Nat.le_of_dvd (by omega) (Nat.gcd_dvd_right _ _)
theorem gc_dvd_l (u d : Int) : gc u d ∣ u := by
  rw [← Int.natAbs_dvd_natAbs, gc_abs]
  exact Nat.gcd_dvd_left _ _
theorem gc_dvd_r (u d : Int) : gc u d ∣ d := by
  rw [← Int.natAbs_dvd_natAbs, gc_abs]
  exact Nat.gcd_dvd_right _ _
theorem frN_mul {u d : Int} : frN u d * gc u d = u := Int.fdiv_mul_cancel (gc_dvd_l u d)
theorem frD_mul {u d : Int} : frD u d * gc u d = d := Int.fdiv_mul_cancel (gc_dvd_r u d)
theorem frD_ne {u d : Int} (h : d ≠ 0) : frD u d ≠ 0 := fun e => h (by rw [← frD_mul (u := u) (d := d), e, Int.zero_mul])
theorem gc_sign {u d : Int} (h : d ≠ 0) : (d < 0 ∧ gc u d < 0) ∨ (0 < d ∧ 0 < gc u d) := by
  have p : 0 < Nat.gcd u.natAbs d.natAbs := Nat.gcd_pos_of_pos_right _ (by omega)
  by_cases hd : d < 0
  · refine .inl ⟨hd, ?_⟩
    unfold gc
    rw [if_pos hd]
    omega
  · refine .inr ⟨by omega, ?_⟩
    unfold gc
    rw [if_neg hd]
    omega
theorem frD_pos {u d : Int} (h : d ≠ 0) : 0 < frD u d := by
  have e := frD_mul (u := u) (d := d)
  rcases gc_sign (u := u) h with ⟨a, b⟩ | ⟨a, b⟩
  · by_cases z : 0 < frD u d
    · exact z
    · have : 0 ≤ frD u d * gc u d := Int.mul_nonneg_of_nonpos_of_nonpos (by omega) (by omega)
      omega
  · by_cases z : 0 < frD u d
    · exact z
    · have : frD u d * gc u d ≤ 0 := Int.mul_nonpos_of_nonpos_of_nonneg (by omega) (by omega)
      omega
theorem fr_cop {u d : Int} (h : d ≠ 0) : Nat.gcd (frN u d).natAbs (frD u d).natAbs = 1 := by
  have e1 := congrArg Int.natAbs (frN_mul (u := u) (d := d))
  have e2 := congrArg Int.natAbs (frD_mul (u := u) (d := d))
  rw [Int.natAbs_mul, gc_abs] at e1 e2
  have p : 0 < Nat.gcd u.natAbs d.natAbs := Nat.gcd_pos_of_pos_right _ (by omega)
  have q : Nat.gcd ((frN u d).natAbs * Nat.gcd u.natAbs d.natAbs) ((frD u d).natAbs * Nat.gcd u.natAbs d.natAbs) = Nat.gcd u.natAbs d.natAbs := by rw [e1, e2]
  rw [Nat.gcd_mul_right] at q
  exact Nat.eq_of_mul_eq_mul_right p (by rw [Nat.one_mul]; exact q)
theorem frN_le {u d : Int} (h : d ≠ 0) : (frN u d).natAbs ≤ u.natAbs := by
  have e1 := congrArg Int.natAbs (frN_mul (u := u) (d := d))
  rw [Int.natAbs_mul, gc_abs] at e1
  have p : 0 < Nat.gcd u.natAbs d.natAbs := Nat.gcd_pos_of_pos_right _ (by omega)
  calc (frN u d).natAbs = (frN u d).natAbs * 1 := (Nat.mul_one _).symm
    _ ≤ (frN u d).natAbs * Nat.gcd u.natAbs d.natAbs := Nat.mul_le_mul_left _ p
    _ = u.natAbs := e1
theorem frD_le {u d : Int} (h : d ≠ 0) : (frD u d).natAbs ≤ d.natAbs := by
  have e1 := congrArg Int.natAbs (frD_mul (u := u) (d := d))
  rw [Int.natAbs_mul, gc_abs] at e1
  have p : 0 < Nat.gcd u.natAbs d.natAbs := Nat.gcd_pos_of_pos_right _ (by omega)
  calc (frD u d).natAbs = (frD u d).natAbs * 1 := (Nat.mul_one _).symm
    _ ≤ (frD u d).natAbs * Nat.gcd u.natAbs d.natAbs := Nat.mul_le_mul_left _ p
    _ = d.natAbs := e1
/-- the same fraction -/
theorem fr_cross {u d : Int} : frN u d * d = u * frD u d := by
  have e1 := frN_mul (u := u) (d := d)
  have e2 := frD_mul (u := u) (d := d)
  calc frN u d * d = frN u d * (frD u d * gc u d) := by rw [e2]
    _ = (frN u d * gc u d) * frD u d := by rw [Int.mul_comm (frD u d), Int.mul_assoc]
    _ = u * frD u d := by rw [e1]
/-- lowest terms are unique -/
theorem low_uniq {a b c e : Int} (hb : 0 < b) (he : 0 < e) (g1 : Nat.gcd a.natAbs b.natAbs = 1) (g2 : Nat.gcd c.natAbs e.natAbs = 1) (h : a * e = c * b) : a = c ∧ b = e := by
  have hn : a.natAbs * e.natAbs = c.natAbs * b.natAbs := by rw [← Int.natAbs_mul, ← Int.natAbs_mul, h]
  have d1 : b.natAbs ∣ e.natAbs := by
    have : b.natAbs ∣ a.natAbs * e.natAbs := ⟨c.natAbs, by rw [hn, Nat.mul_comm]⟩
    exact Nat.Coprime.dvd_of_dvd_mul_left (by rw [Nat.coprime_comm]; exact g1) this
  have d2 : e.natAbs ∣ b.natAbs := by
    have : e.natAbs ∣ c.natAbs * b.natAbs := ⟨a.natAbs, by rw [← hn, Nat.mul_comm]⟩
    exact Nat.Coprime.dvd_of_dvd_mul_left (by rw [Nat.coprime_comm]; exact g2) this
  have eb : b.natAbs = e.natAbs := Nat.dvd_antisymm d1 d2
  have eb' : b = e := by omega
  subst eb'
  refine ⟨?_, rfl⟩
  exact Int.eq_of_mul_eq_mul_right (by omega) h
theorem fr_eq {u d u' d' : Int} (h : d ≠ 0) (h' : d' ≠ 0) (e : u * d' = u' * d) : frN u d = frN u' d' ∧ frD u d = frD u' d' := by
  refine low_uniq (frD_pos h) (frD_pos h') (fr_cop h) (fr_cop h') ?_
  have c1 := fr_cross (u := u) (d := d)
  have c2 := fr_cross (u := u') (d := d')
  have hz : d * d' ≠ 0 := Int.mul_ne_zero h h'
  refine Int.eq_of_mul_eq_mul_right hz ?_
  calc frN u d * frD u' d' * (d * d') = (frN u d * d) * (frD u' d' * d') := by
        rw [Int.mul_assoc, Int.mul_assoc, ← Int.mul_assoc (frD u' d') d d', Int.mul_comm (frD u' d') d, Int.mul_assoc]
    _ = (u * frD u d) * (frD u' d' * d') := by rw [c1]
    _ = (u * d') * (frD u d * frD u' d') := by
        rw [Int.mul_assoc, Int.mul_assoc, Int.mul_comm (frD u' d') d', ← Int.mul_assoc (frD u d), Int.mul_comm (frD u d) d', Int.mul_assoc]
    _ = (u' * d) * (frD u d * frD u' d') := by rw [e]
    _ = (u' * frD u' d') * (frD u d * d) := by
        rw [Int.mul_assoc, Int.mul_assoc, Int.mul_comm (frD u d) (frD u' d'), ← Int.mul_assoc d, Int.mul_comm d, Int.mul_assoc (frD u' d'), Int.mul_comm d]
    _ = (frN u' d' * d') * (frD u d * d) := by rw [c2]
    _ = frN u' d' * frD u d * (d * d') := by
        rw [Int.mul_assoc, Int.mul_assoc, ← Int.mul_assoc d', Int.mul_comm d' (frD u d), Int.mul_assoc, Int.mul_comm d' d]
theorem fr_low {a b : Int} (hb : 0 < b) (g : Nat.gcd a.natAbs b.natAbs = 1) : frN a b = a ∧ frD a b = b := by
  have e : gc a b = 1 := by
    unfold gc
    rw [if_neg (by omega), g]
    rfl
  unfold frN frD
  rw [e]
  exact ⟨Int.fdiv_one a, Int.fdiv_one b⟩
theorem fr_one (a : Int) : frN a 1 = a ∧ frD a 1 = 1 := fr_low (by decide) (by simp)
/-- the sign of the upper number of a fraction with a lower number above 0 -/
theorem frN_sign {u d : Int} (h : 0 < d) : (0 < frN u d ↔ 0 < u) ∧ (frN u d < 0 ↔ u < 0) := by
  have c := fr_cross (u := u) (d := d)
  have p := frD_pos (u := u) (d := d) (by omega)
  refine ⟨⟨fun z => ?_, fun z => ?_⟩, ⟨fun z => ?_, fun z => ?_⟩⟩
  · have q : 0 < u * frD u d := by rw [← c]; exact Int.mul_pos z h
    exact Int.pos_of_mul_pos_left q p
  · have q : 0 < frN u d * d := by rw [c]; exact Int.mul_pos z p
    exact Int.pos_of_mul_pos_left q h
  · have q : u * frD u d < 0 := by rw [← c]; exact Int.mul_neg_of_neg_of_pos z h
    exact Int.neg_of_mul_neg_left q p
  · have q : frN u d * d < 0 := by rw [c]; exact Int.mul_neg_of_neg_of_pos z p
    exact Int.neg_of_mul_neg_left q h
end FoM

set_option maxHeartbeats 4100000
/-! The head of a program that begins with imports: the opening and the top by one kernel run each. -/
noncomputable section
namespace FoI
open PySem PySem.W PySem.Calls PyProof.Rows HandSHeadRun
/-- the state behind the opening, its heap as a tree -/
def treeOf (s : Shared) (r : PySem.W.BT × Nat) : SharedT := ⟨r.1, r.2, s.heap.life, s.gens, s.drawn, s.toks, s.os⟩
theorem treeOf_abs {s : Shared} {t : PySem.W.BT} {n : Nat} (e : putAll s.heap.objs.toList .nil 0 = some (t, n)) : (treeOf s (t, n)).abs = s := by
  have h := putAll_heap e
  show (⟨absHeap t n s.heap.life, s.gens, s.drawn, s.toks, s.os⟩ : Shared) = s
  rw [h]
def endS (st : SharedT → Thread → Option (SharedT × Thread)) (M : Nat) (p : Program) (s0 : Shared) : Option SharedT := match putAll s0.heap.objs.toList .nil 0 with
  | some (t, n) => frNat n fun n0 => goF st n0 (s0.heap.nsMap mainGlobals "__annotations__") M (treeOf s0 (t, n0)) (topStub p)
  | none => none
theorem endS_ok {M : Nat} {p : Program} {w : World} {s0 : Shared} {s : SharedT} (h : endS (stepT (denote treeTable) p w) M p s0 = some s) :
    topRun treeTable p w s0.heap.objs.size (s0.heap.nsMap mainGlobals "__annotations__") M s0 (topStub p) = some s.abs := by
  unfold endS at h
  cases e : putAll s0.heap.objs.toList .nil 0 with
  | none =>
    rw [e] at h
    cases h
  | some r =>
    obtain ⟨t, n⟩ := r
    rw [e] at h
    have h1 : (frNat n fun n0 => goF (stepT (denote treeTable) p w) n0 (s0.heap.nsMap mainGlobals "__annotations__") M (treeOf s0 (t, n0)) (topStub p)) = some s := h
    rw [frNat_eq] at h1
    have q := goF_ok h1
    have en : s0.heap.objs.size = n := by
      have eh := putAll_heap e
      have z : (absHeap t n s0.heap.life).objs.size = s0.heap.objs.size := by rw [eh]
      rw [← z]
      exact absHeap_size t n _
    rw [treeOf_abs e] at q
    rw [en]
    exact q
/-- the whole run, from nothing -/
def endI (tb : String → Option Builtin) (st : SharedT → Thread → Option (SharedT × Thread)) (M : Nat) (p : Program) (w : World) : Option (Shared × SharedT) :=
  match fencedOpening tb p w M with
  | some s0 => match endS st M p s0 with
    | some s => some (s0, s)
    | none => none
  | none => none
def looksI (p : Program) (s0 : Shared) (s : Shared) : Bool := (s0.heap.isNs mainGlobals && s0.gens.size == 0) && (staticsOk (importedModules p.main.body) s0.heap s.heap && namesBound p s.heap && gensDone s && laidKept s0.heap s.heap)
theorem left_imp {p q : Program} {lse : List PySem.Str} {Xt : Shared → Bool} {α : Type} {Yf : Shared → α} {Ya : World → α} {M : Nat}
    (run : ∀ w : World, (endI treeTable (stepT (denote treeTable) p w) M p w).map (fun s => (looksI p s.1 s.2.abs, openSeen q lse (importedModules p.main.body) Xt true s.2.abs, Yf s.2.abs)) = some (true, openGood q lse, Ya w)) :
    LeftO p q lse Xt Yf Ya M true := fun w => by
  obtain ⟨⟨s0, s⟩, hs, hv⟩ := Option.map_eq_some_iff.mp (run w)
  obtain ⟨m1, m2, m3⟩ : _ ∧ _ ∧ _ := by simpa only [Prod.mk.injEq] using hv
  unfold endI at hs
  cases e0 : fencedOpening treeTable p w M with
  | none =>
    rw [e0] at hs
    cases hs
  | some z =>
    rw [e0] at hs
    dsimp only at hs
    cases e1 : endS (stepT (denote treeTable) p w) M p z with
    | none =>
      rw [e1] at hs
      cases hs
    | some y =>
      rw [e1] at hs
      dsimp only at hs
      obtain ⟨rfl, rfl⟩ : z = s0 ∧ y = s := by
        have := Option.some.inj hs
        exact Prod.mk.inj this
      obtain ⟨a, b⟩ := Bool.and_eq_true_iff.mp m1
      have r := endS_ok e1
      have t : topFrom treeTable p w M z = some y.abs := by
        unfold topFrom
        rw [a]
        show (topRun treeTable p w z.heap.objs.size (z.heap.nsMap mainGlobals "__annotations__") M z (topStub p)).bind _ = _
        rw [r]
        show (match staticsOk (importedModules p.main.body) z.heap y.abs.heap && namesBound p y.abs.heap && gensDone y.abs && laidKept z.heap y.abs.heap with | true => some y.abs | false => none) = _
        rw [b]
      unfold openEnds
      rw [e0]
      show (topFrom treeTable p w M z).map _ = _
      rw [t]
      exact congrArg some (Prod.ext m2 m3)
/-- the run's equation at a world, by the library's twins -/
def RunI (r : OpenRow) (q : Program) (H : Hook) (ob : SharedT → H.α) (M : Nat) (lse : List PySem.Str) (w : World) : Prop :=
  (endI tabQ (stepQ (denQ tabQ) r.prog w) M r.prog w).map (fun s => (looksI r.prog s.1 s.2.abs, seenQ q lse (importedModules r.prog.main.body) (fun s => xlAt q [] s && recOk r.toRowW.records s) s.2.abs, ob s.2)) = some (true, openGood q lse, H.val w)
theorem head_imp {r : OpenRow} {q : Program} {H : Hook} {ob : SharedT → H.α} {M : Nat} {lse : List PySem.Str} {d : DefRec} {kwq : List (PySem.Str × PySem.Expr)} (ho : ∀ s : SharedT, ob s = H.obs s.abs)
    (run : ∀ w, RunI r q H ob M lse w)
    (hdef : defOf q r.name = some (d, kwq)) (hp : r.prog.theDef r.name = some (d.params, d.body, d.scope)) (hk : kwWritten? d.params.kwonlyargs d.params.kw_defaults = some kwq) (hwr : (!r.writes || r.records.isEmpty) = true)
    (k1 : r.wellSaid = true)
      (ok : (chainsOk q && opensWell r.prog && (frees r.toRowW && r.within.isEmpty)) = true) (hb : r.prog.bare) (hw : r.toRowW.promised)
    (call : WalkO q lse (XL q []) H.says r.toRowW d kwq fun f vs => PySem.call f vs) : r.Holds := by
  have lft : LeftO r.prog q lse (fun s => xlAt q [] s && recOk r.toRowW.records s) H.obs H.val M true :=
    left_imp fun w => by
      have z := run w
      have eob : ob = fun s => H.obs s.abs := funext ho
      unfold RunI at z
      rw [eob] at z
      have e2 : endI treeTable (stepT (denote treeTable) r.prog w) M r.prog w = endI tabQ (stepQ (denQ tabQ) r.prog w) M r.prog w := by
        rw [tabQ_eq, stepQ_eq, denQ_eq]
      rw [e2]
      simp only [seenQ_eq]
      exact z
  exact holds_open (r := r) (q := q) (loose := lse) (XP := XL q []) (YP := H.says) (d := d) (kwd := kwq) lft H.of H.keeps (fun s z => xl_of s (Bool.and_eq_true_iff.mp z).1) XL.keeps hdef hp hk (fun s z => recFacts_of (Bool.and_eq_true_iff.mp z).2) hwr k1 ok hb hw call
end FoI

set_option maxHeartbeats 4100000
/-! Calls by keywords alone; calls whose exceptions are wished for at the caller's slots. -/
namespace FoC
open PySem PySem.Spec PyProof.Rows L2
section
variable {X : Cx} {CX : CXT} {k n : Nat} {f C : Addr} {fd : FuncData} {ps ks : List Str} {sp : Sp} {E : XK} {x m : Str} {p pos apos : Pos} {e o : Expr} {es : List Expr} {kws : List Keyword} {t tk : TA} {ta te : TE} {g : List Value → List Value → List Value} {gV : List V → List V → List V}
/-- f(k = v, ..) -/
theorem pe_callN0 (F : FnOk X.prog X.w X.K X.mg X.base CX k f fd ps sp) (hr : Room k X.A) (hg : Gl X x) (hg2 : X.mg x = some (.ref f)) (hk : PySem.W.keepIn X.K (.ref f) = true) (hb : KBn X.K fd ps 0 ks g gV) (hx : Passes CX X E)
    (hkw : PK X kws tk) (hall : (backToKw pos (keywordEach kws X.env)).all (·.1.isSome) = true := by rfl) (hks : (backToKw pos (keywordEach kws X.env)).filterMap (·.1) = ks := by rfl)
    (hdq : (x == ("__debug__" : Str)) = false := by decide) (hpq : ((backTo pos (starEach [] X.env)).any (·.1) || (backToKw pos (keywordEach kws X.env)).any (·.1.isNone)) = false := by rfl) :
    PE X (.Call (.Name x p) [] kws pos) (tCallN 0 ks.length sp gV E tNil tk) := by
  refine ⟨fun pz s τ H Q I h => ?_⟩
  refine wpAny_Call_Name_kw (ld_glob I hg hg2 ?_ hdq)
  refine PySem.W.callWith_KW0 (h₀ := X.base) I.ok.mod.kin hk hall ?_ hpq
  refine thn (hkw.run pos pz s τ H _ I h) fun ws s2 ⟨zz, H2, J2, rk, l1, l2, q2⟩ => ⟨J2.kIn, ?_⟩
  rw [hks]
  exact run_fnN (us := []) (vs := []) F hr hb hx J2 .nil rk l1 l2 q2
/-- o.m(k = v, ..) -/
def tMethN (C : Addr) (m : Str) (nk : Nat) (sp : Sp) (gV : List V → List V → List V) (E : XK) (ta : TE) (tk : TA) : TE := fun τ H Q => ta τ H fun x H1 => ∃ a dx fs, x = .ref a ∧ H1 a = some (.ins C dx fs) ∧ fs.lookup m = none ∧
  tk τ H1 fun zz H2 => zz.length = nk ∧ sp (gV [x] zz) H2 Q E
theorem pe_methN0 {pl : Sem Bool} (he : PE X o ta) (c : Cls X.K C) (hg2 : Meth X.K C m f) (F : FnOk X.prog X.w X.K X.mg X.base CX k f fd ps sp) (hr : Room k X.A) (hb : KBn X.K fd ps 1 ks g gV) (hx : Passes CX X E) (hkw : PK X kws tk)
    (hall : (backToKw pos (keywordEach kws X.env)).all (·.1.isSome) = true := by rfl) (hks : (backToKw pos (keywordEach kws X.env)).filterMap (·.1) = ks := by rfl)
    (hpq : ((backTo pos (starEach [] X.env)).any (·.1) || (backToKw pos (keywordEach kws X.env)).any (·.1.isNone)) = false := by rfl)
    (ht : eval (.Call (.Attribute o m apos) [] kws pos) X.env = (do
      let ov ← eval o X.env
      standAt apos.atName
      let (f, first) ← holding [ov] (getMethod ov m pl)
      callWith pos f first (backTo pos (starEach [] X.env)) (backToKw pos (keywordEach kws X.env))) := by rfl) :
    PE X (.Call (.Attribute o m apos) [] kws pos) (tMethN C m ks.length sp gV E ta tk) := by
  refine ⟨fun pz s τ H Q I h => ?_⟩
  refine PySem.W.methodCall_KW (pl := pl) (thn (he.run pz s τ H _ I h) fun u s1 ⟨x, H1, J1, rx, a, dx, fs, ex, ea, l, q⟩ => ?_) ht
  subst ex
  obtain rfl : u = Value.ref a := rx
  refine getmeth_ok J1 ea c hg2 l ?_
  refine PySem.W.callWith_KW0 (first := [.ref a]) (h₀ := X.base) I.ok.mod.kin hg2.kp hall ?_ hpq
  refine thn (hkw.run pos pz s1 τ H1 _ J1 q) fun ws s2 ⟨zz, H2, J2, rk, l2, q2⟩ => ⟨J2.kIn, ?_⟩
  rw [hks]
  exact run_fnN (us := [.ref a]) (vs := [.ref a]) F hr hb hx J2 (.cons rfl .nil) rk rfl l2 q2
/-- how a def without defaults binds: n values and the keywords ks -/
theorem kbn {K : PySem.W.Frag} {x qual : Str} {st : Stmt} {f : Addr} {fd : FuncData} {ps ks : List Str} {n : Nat} (g : {α : Type} → List α → List α → List α) (F : Fun K x qual st f fd)
    (hrel : ∀ {vs zz : List V} {us ws : List Value}, Vals vs us → Vals zz ws → Vals (g vs zz) (g us ws))
    (h : ∀ (kV doc pm : Value) (an : Option Addr) (cv ct : Value) (us ws : List Value), us.length = n → ws.length = ks.length →
      bindArgs (PySem.W.fnOf x qual (defArgs st) (defBody st) (defScope st) .none kV doc pm an cv ct) ⟨us, ks.zip ws⟩ = pure (ps.zip (g us ws))) : KBn K fd ps n ks (fun us ws => g us ws) (fun vs zz => g vs zz) := by
  obtain ⟨oc, od, kV, doc, pm, an, cv, ct, ol, rfl, lk, hcd⟩ := F.ex
  exact ⟨fun s us ws _ l1 l2 => .of_eq (h kV doc pm an cv ct us ws l1 l2), fun r1 rr => hrel r1 rr⟩
end
section
variable {X : Cx} {CX : CXT} {k : Nat} {f C : Addr} {fd : FuncData} {ps : List Str} {sp : Sp} {dvs : List V} {ds : List Value} {E : L2.St → XK} {x m : Str} {p pos apos : Pos} {e o : Expr} {es : List Expr} {t : TA} {ta : TE}
/-- o.m(e, ..), what is raised wished for at the slots -/
def tMethS (C : Addr) (m : Str) (sp : Sp) (dvs : List V) (E : L2.St → XK) (ta : TE) (t : TA) : TE := fun τ H Q => ta τ H fun x H1 => ∃ a dx fs, x = .ref a ∧ H1 a = some (.ins C dx fs) ∧ fs.lookup m = none ∧
  t τ H1 fun vs H2 => sp (x :: (vs ++ dvs)) H2 Q (E τ)
theorem pe_methS {pl : Sem Bool} (he : PE X o ta) (c : Cls X.K C) (hg2 : Meth X.K C m f) (F : FnOk X.prog X.w X.K X.mg X.base CX k f fd ps sp) (hr : Room k X.A) (hb : Binds X.K fd ps ds) (hd : Vals dvs ds) (hx : ∀ τ, PassesAt CX X τ (E τ)) (ha : PA X (e :: es) t)
    (hst : starEach (e :: es) X.env = (false, eval e X.env) :: starEach es X.env := by rfl) (hpq : (backTo pos (starEach es X.env)).any (·.1) = false := by rfl)
    (ht : eval (.Call (.Attribute o m apos) (e :: es) [] pos) X.env = (do
      let ov ← eval o X.env
      standAt apos.atName
      let (f, first) ← holding [ov] (getMethod ov m pl)
      callWith pos f first (backTo pos (starEach (e :: es) X.env)) (backToKw pos (keywordEach [] X.env))) := by rfl) :
    PE X (.Call (.Attribute o m apos) (e :: es) [] pos) (tMethS C m sp dvs E ta t) := by
  refine ⟨fun pz s τ H Q I h => ?_⟩
  refine PySem.W.methodCall_KW (pl := pl) (thn (he.run pz s τ H _ I h) fun u s1 ⟨x, H1, J1, rx, a, dx, fs, ex, ea, l, q⟩ => ?_) ht
  subst ex
  obtain rfl : u = Value.ref a := rx
  refine getmeth_ok J1 ea c hg2 l ?_
  refine PySem.W.callWith_K (first := [.ref a]) (h₀ := X.base) I.ok.mod.kin hg2.kp (thn (ha.run pos pz s1 τ H1 _ J1 q) fun us s2 ⟨vs, H2, J2, r, q2⟩ => ⟨J2.kIn, ?_⟩) hst hpq
  exact run_fnSD (us := .ref a :: us) (vs := .ref a :: vs) F hr hb hd (hx τ) J2 (.cons rfl r) q2
/-- C(e, ..), what is raised wished for at the slots -/
def tMakeS (C : Addr) (sp : Sp) (dvs : List V) (E : L2.St → XK) (t : TA) : TE := fun τ H Q => t τ H fun vs H1 => ∀ x dx, H1 x = none → H1 dx = none → dx ≠ x →
  sp (.ref x :: (vs ++ dvs)) (upd (upd H1 dx (.own x)) x (.ins C dx [])) (fun v H2 => v = .non ∧ Q (.ref x) H2) (E τ)
theorem run_makeS {pz : List (Addr × Obj)} {τ : L2.St} {H : Hp} {s : Shared} {Q : VK} {us : List Value} {vs : List V} (M : Mk X.K C f) (F : FnOk X.prog X.w X.K X.mg X.base CX k f fd ps sp) (hr : Room (k + 1) X.A) (hb : Binds X.K fd ps ds) (hd : Vals dvs ds)
    (hx : PassesAt CX X τ (E τ)) (I : Inv X pz τ H s) (r : Vals vs us)
    (h : ∀ x dx, H x = none → H dx = none → dx ≠ x → sp (.ref x :: (vs ++ dvs)) (upd (upd H dx (.own x)) x (.ins C dx [])) (fun v H2 => v = .non ∧ Q (.ref x) H2) (E τ)) :
    wpAny (model X.prog X.w) X.A (call (.ref C) us) (EP X pz τ Q) X.xe s := by
  have hj := h (s.heap.objs.size + 1) s.heap.objs.size (I.hok.fresh (Nat.le_succ _)) (I.hok.fresh (Nat.le_refl _)) (Nat.ne_of_lt (Nat.lt_succ_self _)); have J2 := Inv.made (C := C) I
  have rr : Vals (V.ref (s.heap.objs.size + 1) :: (vs ++ dvs)) (Value.ref (s.heap.objs.size + 1) :: (us ++ ds)) := .cons rfl (r.append hd)
  have hn : (Value.ref (s.heap.objs.size + 1) :: us ++ ds).length = ps.length := by
    have e := rr.length
    rw [F.len _ _ _ _ hj] at e
    exact e.symm
  refine wpAny_call (make_map (f := f) I.kIn M.makes M.init (beq_iff_eq.mp M.fn) (codeAny_mono (F.run _ X.stack _ _ ⟨Value.ref (s.heap.objs.size + 1) :: us, []⟩ (Value.ref (s.heap.objs.size + 1) :: (us ++ ds)) _ _ (E τ) (hr.make C us [])
    (J2.env0.make C us []) (hb _ (Value.ref (s.heap.objs.size + 1) :: us) J2.kIn hn) rr hj) fun r s' hq' => ?_))
  cases r with
  | error e => exact hx pz _ _ e s' J2 hq'
  | ok fl =>
    cases fl with
    | ret u =>
      obtain ⟨v, H', I3, rv, ev, q9⟩ := J2.after hq'
      subst ev
      exact ⟨rv, ⟨V.ref (s.heap.objs.size + 1), H', I3, rfl, q9⟩⟩
    | next | brk | cont => exact False.elim hq'
theorem pe_makeS (M : Mk X.K C f) (F : FnOk X.prog X.w X.K X.mg X.base CX k f fd ps sp) (hr : Room (k + 1) X.A) (hg : Gl X x) (hg2 : X.mg x = some (.ref C)) (hb : Binds X.K fd ps ds) (hd : Vals dvs ds) (hx : ∀ τ, PassesAt CX X τ (E τ))
    (ha : PA X (e :: es) t) (hdq : (x == ("__debug__" : Str)) = false := by decide) (he : starEach (e :: es) X.env = (false, eval e X.env) :: starEach es X.env := by rfl) (hpq : (backTo pos (starEach es X.env)).any (·.1) = false := by rfl) :
    PE X (.Call (.Name x p) (e :: es) [] pos) (tMakeS C sp dvs E t) := by
  refine ⟨fun pz s τ H Q I h => ?_⟩
  refine wpAny_Call_Name_kw (ld_glob I hg hg2 ?_ hdq)
  refine PySem.W.callWith_K (h₀ := X.base) I.ok.mod.kin M.kp (thn (ha.run pos pz s τ H _ I h) fun us s1 ⟨vs, H1, J1, r, q⟩ => ⟨J1.kIn, ?_⟩) he hpq
  exact run_makeS M F hr hb hd (hx τ) J1 r q
end
/-! ### an own error's field, read where it is held -/
section
variable {X : Cx} {C fI : Addr} {f : Str}
/-- e.f, e the exception that the suite holds (at a; its class cls, its dict d) -/
def tExF (f : Str) (C : Addr) (a : Addr) (cls : Value) (d : Option Addr) (te : TE) : TE := fun τ H Q => te τ H fun x H1 => x = .ref a ∧ cls = .ref C ∧ ∃ (dd : Addr) (v : V) (fs : List (Str × V)), d = some dd ∧ H1 dd = some (.xd fs) ∧ fs.lookup f = some v ∧ Q v H1
theorem pe_exF {a : Addr} {oe : Obj} {cls : Value} {d : Option Addr} {e : Expr} {te : TE} {pos : Pos} (T : FoB.OErr X.K C fI f) (hz : Zc cls d oe) (hf : ∃ vs, oe.data = .fields vs) (hg2 : (a, oe) ∈ X.pn) (he : PE X e te)
    (hb : attributeBase e f X.env (eval e X.env) = eval e X.env := by rfl) :
    PE X (.Attribute e f pos) (tExF f C a cls d te) := by
  refine ⟨fun pz s τ H Q I h => ?_⟩
  refine attr_of hb (thn (he.run pz s τ H _ I h) fun u s1 hh => ?_)
  obtain ⟨x, H1, J1, rx, ex, ec, dd, v, fs, ed, ea, hl1, q⟩ := hh
  subst ex
  obtain rfl : u = Value.ref a := rx
  subst ec
  subst ed
  obtain ⟨ha, _⟩ := J1.pin (a, oe) (List.mem_append_left _ hg2)
  obtain ⟨vs, hd⟩ := hf
  have hx : ObjOk X.prog X.w H1 s1.heap dd (.xd fs) := J1.hok dd _ ea
  obtain ⟨mA, hns, hr⟩ := hx
  obtain ⟨od, ho, hn⟩ := lookIn_ns hns
  obtain ⟨u, hu, ru⟩ := RelO.some_of (v := v) (o := mA f) (by rw [← hl1]; exact hr f)
  have J : PySem.W.InstAt s1.heap a oe C (some od) := ⟨ha, hz.1, by unfold PySem.W.notCls; rw [hd] <;> rfl, by rw [hz.2]; exact ho⟩
  exact HandSPX.exc_get J1.kIn J T.ga T.gg T.ox.exC (PySem.W.findObj_own T.hd T.no rfl (by rw [hn, hu])) (handed_of ru) ⟨v, H1, J1.tok _, ru, q⟩
end
end FoC

set_option maxHeartbeats 4100000
/-! repr of scalars, and of lists and tuples of scalars, whatever is under way below. -/
namespace FoR
open PySem PySem.Spec PyProof.Rows L2
/-- what stands below may be taken as known -/
theorem wpAny_guards {α : Type} {M : Model} {A : Around} {t : Sem α} {Q : α → Shared → Prop} {E : Value → Shared → Prop} {s : Shared} (h : ∀ g, wpAny M { A with guards := some g } t Q E s) : wpAny M A t Q E s :=
  fun Γ p hΓ => h (Γ.code.guards ++ guardsOf Γ.below) Γ p ⟨hΓ.1, hΓ.2.1, hΓ.2.2.1, fun g hgd => Option.some.inj hgd, hΓ.2.2.2.2⟩
abbrev gd (X : Cx) (g : List Code) : Cx := { X with A := { X.A with guards := some g } }
section
variable {X : Cx} {pz : List (Addr × Obj)} {τ : L2.St} {H : Hp} {s : Shared} {g : List Code}
theorem ok_gd (okx : X.Ok) : (gd X g).Ok :=
  ⟨okx.mod, okx.kind, okx.glob, okx.blt, okx.above, okx.inj, okx.has, okx.cab, okx.hd, okx.frames, okx.stk, okx.exf, okx.bs, okx.bsz, okx.noex, okx.exfs, okx.funs, okx.frf⟩
theorem inv_gd (I : Inv X pz τ H s) : Inv (gd X g) pz τ H s :=
  ⟨ok_gd I.ok, I.os, I.bare, I.base, I.loc, I.cell, I.free, I.freeC, I.pin, I.hok, I.len⟩
theorem inv_of {okx : X.Ok} (I : Inv (gd X g) pz τ H s) : Inv X pz τ H s :=
  ⟨okx, I.os, I.bare, I.base, I.loc, I.cell, I.free, I.freeC, I.pin, I.hok, I.len⟩
theorem pe_gd {e : Expr} {t : List Code → TE} (h : ∀ g, PE (gd X g) e (t g)) : PE X e (fun τ H Q => ∀ g, t g τ H Q) := by
  refine ⟨fun pz s τ H Q I q => wpAny_guards fun g => ?_⟩
  refine wpAny_mono ((h g).run pz s τ H Q (inv_gd I) (q g)) (fun u s' z => ?_) fun _ _ z => z
  obtain ⟨v, H', I', r, q'⟩ := z
  exact ⟨v, H', inv_of (okx := I.ok) I', r, q'⟩
end
/-! ### texts -/
def scText : V → Str
  | .non => "None"
  | .bl b => if b then "True" else "False"
  | .int i => toString i
  | .str x => reprText x
  | _ => "?"
inductive Sc : V → Prop where
  | non : Sc .non
  | bl (b : Bool) : Sc (.bl b)
  | int (i : Int) (h : i.natAbs.log2 < 1920) : Sc (.int i)
  | str (x : Str) (h : (reprText x).length ≤ sizeLine) : Sc (.str x)
def lstF (self : Value) : Code × Pos → Bool := fun
  | (.builtin "list.__repr__.loop" ⟨v :: _, _⟩, _) => Builtin.List.listSameRef v self
  | _ => false
theorem lstF_cons (self : Value) (id : String) (v : Value) (rest : List Value) (kw : List (Str × Value)) (p : Pos) : lstF self (.builtin id ⟨v :: rest, kw⟩, p) = (decide (id = "list.__repr__.loop") && Builtin.List.listSameRef v self) := by
  by_cases h : id = "list.__repr__.loop"
  · subst h
    simp [lstF]
  · simp only [h, decide_false, Bool.false_and]
    unfold lstF
    split <;> simp_all
theorem lstF_nil (self : Value) (id : String) (kw : List (Str × Value)) (p : Pos) : lstF self (.builtin id ⟨[], kw⟩, p) = false := by
  unfold lstF
  split <;> simp_all
theorem lstF_pos (self : Value) (c : Code) (p : Pos) : lstF self (c, p) = lstF self (c, default) := by
  cases c with
  | builtin id args =>
    obtain ⟨pos, kw⟩ := args
    cases pos with
    | nil => rw [lstF_nil, lstF_nil]
    | cons v rest => rw [lstF_cons, lstF_cons]
  | _ => rfl
theorem lstF_off (self : Value) (c : Code) (p : Pos) (hcc : c.isGuard = false) : lstF self (c, p) = false := by
  cases c with
  | builtin id args =>
    obtain ⟨pos, kw⟩ := args
    cases pos with
    | nil => exact lstF_nil _ _ _ _
    | cons v rest =>
      simp [Code.isGuard, guardIds] at hcc
      rw [lstF_cons]
      simp [hcc]
  | _ => rfl
def way (f : Code × Pos → Bool) (g : List Code) : Bool := g.any fun c => f (c, default)
/-- what repr tells, g what is under way below -/
def seqText (g : List Code) (a : Addr) : HO → Str
  | .lst xs => if xs = [] then "[]" else if way (lstF (.ref a)) g then "[...]" else listText (xs.map scText)
  | .tup xs => if way (tupGuardF (.ref a)) g then "(...)" else tupleText (xs.map scText)
  | .dK _ => if way (dictGuardF (.ref a)) g then "{...}" else "{}"
  | _ => "?"
def repText (g : List Code) (H : Hp) : V → Str
  | .ref a => match H a with
    | some o => seqText g a o
    | none => "?"
  | v => scText v
inductive Sho (H : Hp) : V → Prop where
  | sc {v : V} (h : Sc v) : Sho H v
  | lst {a : Addr} {xs : List V} (e : H a = some (.lst xs)) (h : ∀ y ∈ xs, Sc y) (z : (listText (xs.map scText)).length ≤ sizeLine) : Sho H (.ref a)
  | tup {a : Addr} {xs : List V} (e : H a = some (.tup xs)) (h : ∀ y ∈ xs, Sc y) (z : (tupleText (xs.map scText)).length ≤ sizeLine) : Sho H (.ref a)
  | dic {a : Addr} (e : H a = some (.dK [])) : Sho H (.ref a)
theorem sc_is {prog : Program} {w : World} {v : V} {u : Value} (h : Sc v) (r : RelV v u) : ReprIs prog w u (scText v) := by
  cases h with
  | non => cases r; exact ReprIs.none
  | bl b => cases r; exact ReprIs.bool b
  | int i z => obtain ⟨t, rfl⟩ := r; exact ReprIs.int t z
  | str x z => obtain ⟨t, rfl⟩ := r; exact ReprIs.str x t z
theorem sc_all {prog : Program} {w : World} : ∀ {l : List V} {its : List Value}, Vals l its → (∀ y ∈ l, Sc y) → ReprAll prog w its (l.map scText)
  | [], _, r, _ => by
    cases r
    exact .nil
  | y :: l, _, r, h => by
    cases r with
    | cons r1 r2 => exact .cons (sc_is (h y List.mem_cons_self) r1) (sc_all r2 fun z hz => h z (List.mem_cons_of_mem _ hz))
theorem all_item {prog : Program} {w : World} : ∀ {l : List V} {its : List Value}, Vals l its → (∀ y ∈ l, Sc y) → ∀ (i : Nat) (y : Value), its.toArray[i]? = some y → ∃ t, (l.map scText)[i]? = some t ∧ ReprIs prog w y t
  | _, _, .nil, _, i, y, e => by simp at e
  | x :: l, _, .cons r1 r2, h, 0, y, e => by
    simp at e
    subst e
    exact ⟨_, rfl, sc_is (h x List.mem_cons_self) r1⟩
  | x :: l, _, .cons r1 r2, h, i + 1, y, e => by
    obtain ⟨t, e1, e2⟩ := all_item r2 (fun z hz => h z (List.mem_cons_of_mem _ hz)) i y (by simpa using e)
    exact ⟨t, by simpa using e1, e2⟩
section
variable {prog : Program} {w : World} {A : Around} {E : Value → Shared → Prop} {s : Shared} {a : Addr} {o : Obj} {g : List Code}
theorem list_in {x : Value} {l : List Value} {n : Nat} {Q : Value → Shared → Prop} (hTy : s.TypeIs (.ref a) "list") (hgd : A.guards = some g) (hrun : way (lstF (.ref a)) g = true) (hat : s.heap.get? a = some o) (hd : o.data = .seq (x :: l).toArray n)
    (hQ : ∀ u tk, Q (.str "[...]" u) { s with toks := tk }) : wpAny (model prog w) A (call (.builtin "list.__repr__") [.ref a]) Q E s := by
  refine wpAny_call (codeAny_call_builtin_own (Code.quiet_builtin _ (by decide +kernel)) F.entry_list_repr (F.slot_list_repr.check _ _ _ _ _ _ _ _ hTy (F.args_list_repr_1 _) ?_))
  intro Γ p hcc hΓ
  show Sem.wp (model prog w) Γ (Builtin.listReprAt 0 ⟨[.ref a], []⟩) _ _ p s
  unfold Builtin.listReprAt
  have e : Γ.below.any (lstF (.ref a)) = true := by
    rw [PySem.any_eq_guards (lstF_off _) (lstF_pos _), hΓ.2.2.2.1 g hgd]
    exact hrun
  simp [slotArgs, Builtin.List.listItems, seqItems?, Sem.wp_load_of (h := hat), hd, stack]
  show Sem.wp (model prog w) Γ (if (Γ.below.any (lstF (.ref a))) = true then _ else _) _ _ p s
  rw [if_pos e]
  simp [rule, retStr, ret]
  exact (PySem.wpAny_mkStr (A := A.under Γ.code) (hQ _ _) (by decide +kernel)) Γ p hΓ.in
theorem dict_in {n : Nat} {Q : Value → Shared → Prop} (hs : (a == sysModules) = false) (hgd : A.guards = some g) (hat : s.heap.get? a = some o) (hcc : o.cls = .type "dict") (hd : o.data = .dict #[] n)
    (hQ : ∀ u tk, Q (.str (if way (dictGuardF (.ref a)) g then "{...}" else "{}") u) { s with toks := tk }) : wpAny (model prog w) A (call (.builtin "dict.__repr__") [.ref a]) Q E s := by
  have hTy : s.TypeIs (.ref a) "dict" := ⟨o, hat, hcc⟩
  refine wpAny_call (codeAny_call_builtin_own (Code.quiet_builtin _ (by decide +kernel)) F.entry_dict_repr (F.slot_dict_repr.check _ _ _ _ _ _ _ _ hTy (F.args_dict_repr_1 _) ?_))
  show wpOwn (model prog w) A _ (Builtin.dictReprAt 0 ⟨[.ref a], []⟩) _ _ s
  unfold Builtin.dictReprAt
  refine wpOwn_bind (wpOwn_of_wpAny ?_); unfold Builtin.Dict.dictSlotNone
  refine wpAny_bind (wpAny_notOrdered_dict hTy ?_); show wpAny _ _ (pure (Value.ref a)) _ _ s
  refine wpAny_pure ?_
  rw [dictReprRunning_eq]
  refine wpOwn_bind (wpOwn_stackTailAny hgd (dictGuardF_off _) (dictGuardF_pos _) ?_)
  show wpOwn _ _ _ (if way (dictGuardF (.ref a)) g = true then _ else _) _ _ s
  cases hw : way (dictGuardF (.ref a)) g with
  | true =>
    rw [hw] at hQ
    rw [if_pos rfl]
    refine wpOwn_of_wpAny (wpAny_bind (wpAny_rule (wpAny_bind (wpAny_mkStr (wpAny_pure ?_) (by decide +kernel)))))
    exact hQ _ _
  | false =>
    rw [hw] at hQ
    rw [if_neg Bool.false_ne_true]; refine wpOwn_of_wpAny ?_
    show wpAny _ _ (Builtin.Dict.addrOf (.ref a) >>= _) _ _ s; refine wpAny_bind (wpAny_pure ?_)
    show wpAny _ _ (Builtin.Dict.showsAll a >>= _) _ _ s; unfold Builtin.Dict.showsAll
    rw [if_neg (by rw [hs]; exact Bool.false_ne_true)]
    refine wpAny_bind (wpAny_pure ?_); refine wpAny_bind (wpAny_dictEpoch hat hd ?_)
    refine wpAny_bind (wpAny_dictEntries hat hd ?_)
    refine wpAny_bind ?_
    show wpAny _ _ (forIn [0:0] _ _) _ _ s
    rw [Std.Legacy.Range.forIn_eq_forIn_range']; simp only [Std.Legacy.Range.size, Nat.sub_zero, Nat.add_sub_cancel, Nat.div_one, List.range'_zero]
    refine wpAny_pure ?_
    refine wpAny_bind (wpAny_mkStr (wpAny_pure ?_) (by decide +kernel)); exact hQ _ _
theorem tup_in {items : Array Value} {n : Nat} {ts : List Str} {Q : Value → Shared → Prop} (hTy : s.TypeIs (.ref a) "tuple") (hgd : A.guards = some g) (hat : s.heap.get? a = some o) (hd : o.data = .seq items n) (hTp : ReprAll prog w items.toList ts)
    (hsz : (tupleText ts).length ≤ sizeLine) (hQ : ∀ u tk, Q (.str (if way (tupGuardF (.ref a)) g then "(...)" else tupleText ts) u) { s with toks := tk }) : wpAny (model prog w) A (call (.builtin "tuple.__repr__") [.ref a]) Q E s := by
  refine wpAny_call (codeAny_call_builtin_own (Code.quiet_builtin _ (by decide +kernel)) F.entry_tuple_repr (F.slot_tuple_repr.check _ _ _ _ _ _ _ _ hTy (F.args_tuple_repr_1 _) ?_))
  show wpOwn (model prog w) A _ (Builtin.tupleReprAt 0 ⟨[.ref a], []⟩) _ _ s
  rw [tuple_repr_tree, tupleReprUnderWay_eq]; refine wpOwn_bind (wpOwn_stackTailAny hgd (tupGuardF_off _) (tupGuardF_pos _) ?_)
  show wpOwn _ _ _ (if way (tupGuardF (.ref a)) g = true then _ else _) _ _ s
  cases hw : way (tupGuardF (.ref a)) g with
  | true =>
    rw [hw] at hQ
    rw [if_pos rfl]
    refine wpOwn_of_wpAny (wpAny_bind (wpAny_rule (wpAny_bind (wpAny_mkStr (wpAny_pure ?_) (by decide +kernel)))))
    exact hQ _ _
  | false =>
    rw [hw] at hQ
    rw [if_neg Bool.false_ne_true]; exact wpOwn_of_wpAny (wpAny_tupleReprRest hat hd hTp (fun u tk => hQ u tk) (by omega))
end
theorem seq_lst {g : List Code} {a : Addr} {y : V} {ys : List V} : seqText g a (.lst (y :: ys)) = if way (lstF (.ref a)) g then ("[...]" : Str) else listText ((y :: ys).map scText) := by
  show (if (y :: ys) = [] then ("[]" : Str) else if way (lstF (.ref a)) g then ("[...]" : Str) else listText ((y :: ys).map scText)) = _
  rw [if_neg (by simp)]
section
variable {X : Cx} {g : List Code}
theorem call_rep (hgd : X.A.guards = some g) (hu : X.A.units + 1 < cLine) : CallR X (.builtin "repr") (fun xs H Q => ∃ v, xs = [v] ∧ Sho H v ∧ Q (.str (repText g H v)) H) := by
  intro pz s τ H xs us Q I r h
  obtain ⟨v, rfl, hs, q⟩ := h
  obtain ⟨u, rfl, rv0⟩ := vals1 r
  cases hs with
  | sc hv =>
    cases hv with
    | non =>
      cases rv0
      exact PySem.P.repr_of_none ⟨.str _, H, I.tok _, ⟨_, rfl⟩, q⟩
    | bl b =>
      cases rv0
      exact PySem.P.repr_of_bool ⟨.str _, H, I.tok _, ⟨_, rfl⟩, q⟩
    | int i z =>
      obtain ⟨t, rfl⟩ := rv0
      exact PySem.P.repr_of_int z ⟨.str _, H, I.tok _, ⟨_, rfl⟩, q⟩
    | str x z =>
      obtain ⟨t, rfl⟩ := rv0
      exact PySem.P.repr_of_str ⟨.str _, H, I.tok _, ⟨_, rfl⟩, q⟩ z
  | @lst a ys e hy z =>
    cases rv0
    obtain ⟨_, its, n, rv, ho⟩ := (show ObjOk X.prog X.w H s.heap a (.lst ys) from I.hok a _ e)
    have hTp : s.TypeIs (.ref a) "list" := ⟨_, ho, rfl⟩
    have qt : repText g H (.ref a) = seqText g a (.lst ys) := by
      show (match H a with | some o => seqText g a o | none => "?") = _
      rw [e]
    rw [qt] at q
    refine call_repr_slot hu hTp F.slot_list_repr.toG ?_
    cases rv with
    | nil => exact call_list_repr_empty hTp ho rfl ⟨_, _, rfl, .str _, H, I.tok _, ⟨_, rfl⟩, q⟩
    | @cons y u0 ys us r1 r2 =>
      rw [seq_lst] at q
      cases hw : way (lstF (.ref a)) g with
      | true =>
        rw [hw, if_pos rfl] at q
        exact list_in (A := X.A.in1) hTp hgd hw ho rfl fun u tk => ⟨_, _, rfl, .str _, H, I.tok _, ⟨_, rfl⟩, q⟩
      | false =>
        rw [hw, if_neg Bool.false_ne_true] at q
        refine call_list_repr (A := X.A.in1) (ts := (y :: ys).map scText) hTp hgd (fun v rest kw hm => ?_) ho rfl (by simpa using (Vals.length r2)) (fun i x hx => all_item (.cons r1 r2) hy i x hx)
          (fun h' u tk hk => ⟨_, _, rfl, .str _, H, I.kept hk, ⟨_, rfl⟩, q⟩) z
        have z1 := List.any_eq_false.mp (show (g.any fun c => lstF (.ref a) (c, default)) = false from hw) _ hm
        rw [lstF_cons] at z1
        simpa using z1
  | @tup a ys e hy z =>
    cases rv0
    obtain ⟨_, its, rv, o, ho, hcc, n, hd⟩ := (show ObjOk X.prog X.w H s.heap a (.tup ys) from I.hok a _ e)
    have hTp : s.TypeIs (.ref a) "tuple" := ⟨_, ho, hcc⟩
    have qt : repText g H (.ref a) = seqText g a (.tup ys) := by
      show (match H a with | some o => seqText g a o | none => "?") = _
      rw [e]
    rw [qt] at q
    refine call_repr_slot hu hTp F.slot_tuple_repr ?_
    exact tup_in (A := X.A.in1) hTp hgd ho hd (sc_all rv hy) z fun u tk => ⟨_, _, rfl, .str _, H, I.tok _, ⟨_, rfl⟩, q⟩
  | @dic a e =>
    cases rv0
    obtain ⟨_, hs, vs, kv, o, es, ep, ho, hx, hd, hk, hp, hn⟩ := (show ObjOk X.prog X.w H s.heap a (.dK []) from I.hok a _ e)
    cases kv
    have e0 : es = #[] := by
      cases es with
      | mk l =>
        cases hp
        rfl
    subst e0
    have hTp : s.TypeIs (.ref a) "dict" := ⟨_, ho, hx.1⟩
    have qt : repText g H (.ref a) = seqText g a (.dK []) := by
      show (match H a with | some o => seqText g a o | none => "?") = _
      rw [e]
    rw [qt] at q
    refine call_repr_slot hu hTp F.slot_dict_repr ?_
    exact dict_in (A := X.A.in1) hs hgd ho hx.1 hd fun u tk => ⟨_, _, rfl, .str _, H, I.tok _, ⟨_, rfl⟩, q⟩
end
end FoR

set_option maxHeartbeats 4100000
/-! a != b where the class has an own __eq__ alone. -/
namespace FoN
open PySem PySem.Spec PyProof.Rows L2
section
variable {prog : Program} {w : World} {A : Around} {E : Value → Shared → Prop} {s : Shared} {K : PySem.W.Frag} {x C f : Addr} {ox : Obj} {od : Option Obj} {b : Value}
/-- object.__ne__ asks __eq__ -/
theorem ne_entry {Q : Fin → Shared → Prop} (hcl : A.units < cLine) (kin : K.In s.heap) (I : PySem.W.InstAt s.heap x ox C od) (he : PySem.W.findIn K (.ref C) "__eq__" = some (some (.ref f))) (hf : PySem.W.isFn K (.ref f) = true)
    (h : wpAny (model prog w) A (call (.ref f) [.ref x, b]) (fun v s' => ∃ c, v = .bool c ∧ Q (.done (.ret (.bool (!c)))) s') E s) : wpAny (model prog w) A (Builtin.«object.__ne__» ⟨[.ref x, b], []⟩) Q E s := by
  have ask : wpAny (model prog w) A (callSpecialIfBound? (.ref x) (Str.ofString "__eq__") [b]) (fun r s' => ∃ c, r = some (.bool c) ∧ Q (.done (.ret (.bool (!c)))) s') E s := by
    refine PySem.W.ifBound_K kin I he hf (wpAny_mono h (fun v s' z => ?_) fun _ _ z => z)
    obtain ⟨c, rfl, q⟩ := z
    exact ⟨c, rfl, q⟩
  unfold Builtin.«object.__ne__»; repeat (first
    | with_reducible refine wpAny_cRoomFor hcl ?_
    | (refine wpAny_bind (m := callSpecialIfBound? (.ref x) (Str.ofString "__eq__") [b]) (wpAny_mono ask (fun r s' z => ?_) fun _ _ z => z); obtain ⟨c, rfl, q⟩ := z)
    | exact q
    | exact wpAny_pure q
    | (refine wpAny_bind (m := truthy (.bool _)) (wpAny_truthy_bool ?_))
    | wp_step)
theorem try_ne {Q : Value → Shared → Prop} (hcl : A.units + 1 < cLine) (kin : K.In s.heap) (I : PySem.W.InstAt s.heap x ox C od) (hm : PySem.W.mroIn K C (.type "object") = some true) (hn : PySem.W.findIn K (.ref C) "__ne__" = some (some (.builtin "object.__ne__")))
    (he : PySem.W.findIn K (.ref C) "__eq__" = some (some (.ref f))) (hf : PySem.W.isFn K (.ref f) = true)
    (h : wpAny (model prog w) A.in1 (call (.ref f) [.ref x, b]) (fun v s' => ∃ c, v = .bool c ∧ Q (.bool (!c)) s') E s) : wpAny (model prog w) A (tryCompare (.ref x) "__ne__" b) (fun r s' => ∃ v, r = some v ∧ Q v s') E s := by
  have go : wpAny (model prog w) A (call (.builtin "object.__ne__") [.ref x, b]) (fun v s' => ∃ c, v = .bool c ∧ Q v s') E s := by
    refine wpAny_call (codeAny_call_builtin F.cmp_object.ne.plain F.cmpEntry_ne (PySem.W.check_slot F.cmpKind_ne F.cmpSplit_ne (I.type.andThen (PySem.W.looks_mroIn kin hm)) (F.cmpArgs_ne _ _) ?_))
    refine ne_entry (A := A.in1) hcl kin I he hf (wpAny_mono h (fun v s' z => ?_) fun _ _ z => z)
    obtain ⟨c, rfl, q⟩ := z
    exact ⟨c, rfl, _, rfl, q⟩
  have back : wpAny (model prog w) A (call (.builtin "object.__ne__") ([.ref x] ++ [b]) >>= fun v => pure (some v)) (fun r s' => ∃ c, r = some (.bool c) ∧ Q (.bool c) s') E s := by
    refine wpAny_bind (wpAny_mono go (fun v s' z => ?_) fun _ _ z => z)
    obtain ⟨c, rfl, q⟩ := z
    exact wpAny_pure ⟨c, rfl, q⟩
  unfold tryCompare
  have ask : wpAny (model prog w) A (callSpecialIfBound? (.ref x) "__ne__" [b]) (fun r s' => ∃ c, r = some (.bool c) ∧ Q (.bool c) s') E s := by
    unfold callSpecialIfBound? bindSpecialIfBound?
    refine wpAny_holding (wpAny_bind (wpAny_bind (wpAny_bind (I.type.here ((PySem.W.looks_findIn kin hn).here ?_)))))
    refine wpAny_bind (wpAny_askSetting (wpAny_ite ?_)); split
    · exact wpAny_bind (wpAny_of_eq (F.cmp_object.ne.bind _) (wpAny_pure (by exact back)))
    · exact wpAny_tryCatch (wpAny_bind (wpAny_of_eq (F.cmp_object.ne.bind _) (wpAny_pure (by exact back))))
  refine wpAny_bind (wpAny_mono ask (fun r s' z => ?_) fun _ _ z => z)
  obtain ⟨c, rfl, q⟩ := z
  exact wpAny_pure ⟨_, rfl, q⟩
end
section
variable {X : Cx} {CX : CXT} {k : Nat} {f C : Addr} {fd : FuncData} {ps : List Str} {sp : Sp} {E : XK}
structure NeC (K : PySem.W.Frag) (C : Addr) : Prop where
  ne : PySem.W.findIn K (.ref C) "__ne__" = some (some (.builtin "object.__ne__"))
  ob : PySem.W.mroIn K C (.type "object") = some true
def neB (x : Str) (K : PySem.W.Frag) : Bool := He.eqO (PySem.W.findIn K (.ref (He.ga K x)) "__ne__") (some (some (.builtin "object.__ne__"))) && decide (PySem.W.mroIn K (He.ga K x) (.type "object") = some true)
theorem ne_ok {K : PySem.W.Frag} {x : Str} (h : neB x K = true) : NeC K (He.ga K x) := by
  obtain ⟨h1, h2⟩ := He.ba h
  exact ⟨He.eqO_ok h1, of_decide_eq_true h2⟩
/-- the callee runs a unit deeper -/
theorem run_in1 {pz : List (Addr × Obj)} {τ : L2.St} {H : Hp} {s : Shared} {Q : VK} {us : List Value} {vs : List V} (F : FnOk X.prog X.w X.K X.mg X.base CX k f fd ps sp) (hr : Room (k + 1) X.A) (hb : Binds X.K fd ps []) (hx : Passes CX X E)
    (I : Inv X pz τ H s) (r : Vals vs us) (h : sp vs H Q E) : wpAny (model X.prog X.w) X.A.in1 (call (.ref f) us) (EP X pz τ Q) X.xe s := by
  have hn : us.length = ps.length := by rw [← r.length]; exact F.len _ _ _ _ h
  have b := hb s us I.kIn (by rw [List.append_nil]; exact hn)
  rw [List.append_nil] at b
  have hr1 : Room k X.A.in1 := ⟨hr.hd, by have := hr.dp; show X.A.depth + 3 * k + 5 < _; omega, by have := hr.un; show X.A.units + 1 + 16 * k + 200 < _; omega⟩
  refine wpAny_call (codeAny_mono (F.run X.A.in1 X.stack s H ⟨us, []⟩ us vs Q E hr1 I.env0.in1 b r h) fun r s' hj => ?_)
  cases r with
  | error e => exact hx pz τ H s e s' I hj
  | ok fl =>
    cases fl with
    | ret u => exact I.after hj
    | next => exact False.elim hj
    | brk => exact False.elim hj
    | cont => exact False.elim hj
def rNe (C : Addr) (sp : Sp) (E : XK) : R2 := fun x y H Q => ∃ a dx fs i, x = .ref a ∧ H a = some (.ins C dx fs) ∧ y = .int i ∧ sp [x, y] H (fun v H' => ∃ b, v = .bl b ∧ Q (.bl (!b)) H') E
theorem op_neC (F : FnOk X.prog X.w X.K X.mg X.base CX k f fd ps sp) (hr : Room (k + 1) X.A) (hb : Binds X.K fd ps []) (hx : Passes CX X E) (B : FoA.CmpC X.K C f .Eq) (N : NeC X.K C) : OpR X (compareOp .NotEq) (rNe C sp E) := by
  intro pz s τ H x y v u Q I ra ry h
  obtain ⟨a, dx, fs, i, rfl, ea, rfl, q⟩ := h
  cases ra
  obtain ⟨t, rfl⟩ := ry
  obtain ⟨mA, Jx, _⟩ := ins_get I.hok ea
  obtain ⟨od, Jx, _⟩ := Jx.look
  have hcl : X.A.units + 1 < cLine := hu_of hr
  have kin := I.kIn
  have one : wpAny (model X.prog X.w) X.A (tryCompare (.ref a) "__ne__" (.int i t)) (fun r s' => ∃ z, r = some z ∧ EP X pz τ Q z s') X.xe s := by
    refine FoN.try_ne hcl kin Jx N.ob N.ne B.at_ B.fn ?_
    refine wpAny_mono (run_in1 (us := [.ref a, .int i t]) (vs := [.ref a, .int i]) F hr hb hx I (.cons rfl (.cons ⟨t, rfl⟩ .nil)) q) (fun r s' z => ?_) fun _ _ z => z
    obtain ⟨v, H', I', rv, b, rfl, q'⟩ := z
    cases rv
    exact ⟨b, rfl, .bl (!b), H', I', rfl, q'⟩
  show wpAny _ _ (richCompare .NotEq (.ref a) (.int i t)) _ _ _
  have sub := B.nt "int" (by simp)
  unfold richCompare
  simp only [oneThing_ref]
  refine wpAny_holding ?_
  refine wpAny_bind (wpAny_cRoomFor (Nat.lt_of_succ_lt hcl) ?_)
  refine wpAny_bind (Jx.type.here ?_)
  refine wpAny_bind ((PySem.W.Looks.of_pure (rfl : typeOf (.int i t) = pure (.type "int"))).here ?_)
  rw [if_pos (by simp)]
  refine wpAny_bind ((PySem.W.looks_subIn kin sub).here ?_)
  rw [if_neg Bool.false_ne_true]; refine wpAny_bind (wpAny_mono one (fun r s' z => ?_) fun _ _ z => z)
  obtain ⟨v, rfl, q'⟩ := z
  exact wpAny_pure q'
end
section
variable {K : PySem.W.Frag}
theorem int_add : PySem.W.findIn K (.type "int") (PySem.dunder (Operator.info .Add).2) = some (some (.builtin "int.__add__")) := by kernel_rfl
theorem int_addR : PySem.W.findIn K (.type "int") (dunderR (Operator.info .Add).2) = some (some (.builtin "int.__radd__")) := by kernel_rfl
theorem int_sub : PySem.W.findIn K (.type "int") (PySem.dunder (Operator.info .Sub).2) = some (some (.builtin "int.__sub__")) := by kernel_rfl
theorem int_subR : PySem.W.findIn K (.type "int") (dunderR (Operator.info .Sub).2) = some (some (.builtin "int.__rsub__")) := by kernel_rfl
theorem int_mul : PySem.W.findIn K (.type "int") (PySem.dunder (Operator.info .Mult).2) = some (some (.builtin "int.__mul__")) := by kernel_rfl
theorem int_mulR : PySem.W.findIn K (.type "int") (dunderR (Operator.info .Mult).2) = some (some (.builtin "int.__rmul__")) := by kernel_rfl
end
end FoN

set_option maxHeartbeats 4100000
/-! Classmethods that raise into a try, classmethods called by keywords alone, a class called by a local name. -/
namespace FoD
open PySem PySem.Spec PyProof.Rows L2 ClX
section
variable {X : Cx} {pz : List (Addr × Obj)} {τ : L2.St} {H : Hp} {s : Shared}
theorem run_cmS {CX : CXT} {k : Nat} {q g C : Addr} {sp : Sp} {fd : FuncData} {ps : List Str} {E : L2.St → XK} {Q : VK} {us : List Value} {vs : List V} (F : FnOk X.prog X.w X.K X.mg X.base CX k g fd ps sp) (hr : Room k X.A) (hb : Binds X.K fd ps []) (hx : PassesAt CX X τ (E τ))
    (I : Inv X ((q, PySem.W.methodObj (.ref g) (.ref C)) :: pz) τ H s) (r : Vals vs us) (h : sp (.ref C :: vs) H Q (E τ)) : wpAny (model X.prog X.w) X.A (call (.ref q) us) (EP X pz τ Q) X.xe s := by
  have rr : Vals (V.ref C :: vs) (Value.ref C :: us) := .cons rfl r
  have hn : (Value.ref C :: us).length = ps.length := by rw [← rr.length]; exact F.len _ _ _ _ h
  have b := hb s (Value.ref C :: us) I.kIn (by rw [List.append_nil]; exact hn)
  rw [List.append_nil] at b
  have z : wpAny (model X.prog X.w) X.A (call (.ref q) us) (EP X ((q, PySem.W.methodObj (.ref g) (.ref C)) :: pz) τ Q) X.xe s := by
    refine wpAny_call (PySem.W.method_call (pin_at I) (codeAny_mono (F.run X.A X.stack s H ⟨Value.ref C :: us, []⟩ (Value.ref C :: us) (V.ref C :: vs) Q (E τ) hr I.env0 b rr h) fun r s' hj => ?_))
    cases r with
    | error e => exact hx _ H s e s' I hj
    | ok fl =>
      cases fl with
      | ret u => exact I.after hj
      | next | brk | cont => exact False.elim hj
  exact thn z fun _ _ yy => unpinE yy
theorem run_cmN {CX : CXT} {k : Nat} {q g C : Addr} {sp : Sp} {fd : FuncData} {ps ks : List Str} {gf : List Value → List Value → List Value} {gV : List V → List V → List V} {E : XK} {Q : VK} {ws : List Value} {zs : List V} (F : FnOk X.prog X.w X.K X.mg X.base CX k g fd ps sp) (hr : Room k X.A) (hb : KBn X.K fd ps 1 ks gf gV) (hx : Passes CX X E)
    (I : Inv X ((q, PySem.W.methodObj (.ref g) (.ref C)) :: pz) τ H s) (rz : Vals zs ws) (l2 : zs.length = ks.length) (h : sp (gV [.ref C] zs) H Q E) : wpAny (model X.prog X.w) X.A (call (.ref q) [] (ks.zip ws)) (EP X pz τ Q) X.xe s := by
  have r1 : Vals [V.ref C] [Value.ref C] := .cons rfl .nil
  have rr := hb.rel r1 rz
  have z : wpAny (model X.prog X.w) X.A (call (.ref q) [] (ks.zip ws)) (EP X ((q, PySem.W.methodObj (.ref g) (.ref C)) :: pz) τ Q) X.xe s := by
    refine wpAny_call (PySem.W.method_call (pin_at I) (codeAny_mono (F.run X.A X.stack s H ⟨[Value.ref C], ks.zip ws⟩ (gf [Value.ref C] ws) _ Q E hr I.env0 (hb.to s [Value.ref C] ws I.kIn rfl (rz.length.symm.trans l2)) rr h) fun r s' hj => ?_))
    cases r with
    | error e => exact hx _ _ _ _ e s' I hj
    | ok fl =>
      cases fl with
      | ret u => exact I.after hj
      | next | brk | cont => exact False.elim hj
  exact thn z fun _ _ yy => unpinE yy
end
section
variable {X : Cx} {CX : CXT} {k : Nat} {C p g : Addr} {mc : Value} {sp : Sp} {fd : FuncData} {ps ks : List Str} {o e : Expr} {es : List Expr} {kws : List Keyword} {m : Str} {pos apos : Pos} {ta : TE} {t tk : TA} {pl : Sem Bool}
def tCMethS (C : Addr) (sp : Sp) (E : L2.St → XK) (ta : TE) (t : TA) : TE := fun τ H Q => ta τ H fun x H1 => x = .ref C ∧ t τ H1 fun vs H2 => sp (.ref C :: vs) H2 Q (E τ)
theorem pe_cmethS {E : L2.St → XK} (he : PE X o ta) (r : CRead X.K C mc) (c : CMet X.K C mc m p g) (F : FnOk X.prog X.w X.K X.mg X.base CX k g fd ps sp) (hr : Room k X.A) (hb : Binds X.K fd ps []) (hx : ∀ τ, PassesAt CX X τ (E τ)) (ha : PA X (e :: es) t)
    (hs2 : starEach (e :: es) X.env = (false, eval e X.env) :: starEach es X.env := by rfl) (hpq : (backTo pos (starEach es X.env)).any (·.1) = false := by rfl)
    (hev : eval (.Call (.Attribute o m apos) (e :: es) [] pos) X.env = (do
      let ov ← eval o X.env
      standAt apos.atName
      let (fn, fst) ← holding [ov] (getMethod ov m pl)
      callWith pos fn fst (backTo pos (starEach (e :: es) X.env)) (backToKw pos (keywordEach [] X.env))) := by rfl) :
    PE X (.Call (.Attribute o m apos) (e :: es) [] pos) (tCMethS C sp E ta t) := by
  refine ⟨fun pz s τ H Q I h => ?_⟩
  refine PySem.W.methodCall_KW (pl := pl) (thn (he.run pz s τ H _ I h) fun u s1 ⟨x, H1, I1, rx, ex, q⟩ => ?_) hev
  subst ex
  obtain rfl : u = Value.ref C := rx; refine getmethcm_ok I1 r c fun s2 I2 => ?_
  refine callwith_cm I2 (base_none I1 (Nat.le_refl _)) c.fi (thn (ha.run pos _ s2 τ H1 _ I2 q) fun us s3 ⟨vs, H2, I3, rv, q2⟩ => ⟨⟨pin_at I3, I3.kIn⟩, ?_⟩) hs2 hpq
  exact run_cmS F hr hb (hx τ) I3 rv q2
def tCMethN (C : Addr) (nk : Nat) (sp : Sp) (gV : List V → List V → List V) (E : XK) (ta : TE) (tk : TA) : TE := fun τ H Q => ta τ H fun x H1 => x = .ref C ∧ tk τ H1 fun zs H2 => zs.length = nk ∧ sp (gV [.ref C] zs) H2 Q E
theorem pe_cmethN0 {E : XK} {gf : List Value → List Value → List Value} {gV : List V → List V → List V} (he : PE X o ta) (r : CRead X.K C mc) (c : CMet X.K C mc m p g) (F : FnOk X.prog X.w X.K X.mg X.base CX k g fd ps sp) (hr : Room k X.A) (hb : KBn X.K fd ps 1 ks gf gV) (hx : Passes CX X E) (hkw : PK X kws tk)
    (hall : (backToKw pos (keywordEach kws X.env)).all (·.1.isSome) = true := by rfl) (hks : (backToKw pos (keywordEach kws X.env)).filterMap (·.1) = ks := by rfl)
    (hpq : ((backTo pos (starEach [] X.env)).any (·.1) || (backToKw pos (keywordEach kws X.env)).any (·.1.isNone)) = false := by rfl)
    (hev : eval (.Call (.Attribute o m apos) [] kws pos) X.env = (do
      let ov ← eval o X.env
      standAt apos.atName
      let (fn, fst) ← holding [ov] (getMethod ov m pl)
      callWith pos fn fst (backTo pos (starEach [] X.env)) (backToKw pos (keywordEach kws X.env))) := by rfl) :
    PE X (.Call (.Attribute o m apos) [] kws pos) (tCMethN C ks.length sp gV E ta tk) := by
  refine ⟨fun pz s τ H Q I h => ?_⟩
  refine PySem.W.methodCall_KW (pl := pl) (thn (he.run pz s τ H _ I h) fun u s1 ⟨x, H1, I1, rx, ex, q⟩ => ?_) hev
  subst ex
  obtain rfl : u = Value.ref C := rx; refine getmethcm_ok I1 r c fun s2 I2 => ?_
  refine PySem.W.callWith_of (P := PySem.W.MethP X.K s1.heap.objs.size g (.ref C)) hpq (PySem.W.keeps_M c.fi) (evalArgs_kw2_nil hall ?_)
  refine thn (hkw.run pos _ s2 τ H1 _ I2 q) fun ws s3 ⟨zs, H2, I3, rz, l2, q2⟩ => ⟨⟨pin_at I3, I3.kIn⟩, ?_⟩
  rw [hks]
  exact run_cmN F hr hb hx I3 rz l2 q2
end
/-! ### x(e, ..), x a local name that holds a class -/
section
variable {X : Cx} {CX : CXT} {k i : Nat} {f C : Addr} {fd : FuncData} {ps : List Str} {sp : Sp} {dvs : List V} {ds : List Value} {E : XK} {x : Str} {p pos : Pos} {e : Expr} {es : List Expr} {t : TA}
def tMakeL (i : Nat) (C : Addr) (sp : Sp) (dvs : List V) (E : XK) (t : TA) : TE := fun τ H Q => τ[i]? = some (some (.ref C)) ∧ tMake C sp dvs E t τ H Q
theorem pe_makeL (M : Mk X.K C f) (F : FnOk X.prog X.w X.K X.mg X.base CX k f fd ps sp) (hr : Room (k + 1) X.A) (hN : X.N[i]? = some x) (hv : Vis X.env.scope x) (hb : Binds X.K fd ps ds) (hd : Vals dvs ds) (hx : Passes CX X E) (ha : PA X (e :: es) t)
    (hdq : (x == ("__debug__" : Str)) = false := by decide) (hcq : (x == ("__classdict__" : Str)) = false := by decide)
    (hs2 : starEach (e :: es) X.env = (false, eval e X.env) :: starEach es X.env := by rfl) (hpq : (backTo pos (starEach es X.env)).any (·.1) = false := by rfl) : PE X (.Call (.Name x p) (e :: es) [] pos) (tMakeL i C sp dvs E t) := by
  refine ⟨fun pz s τ H Q I h => ?_⟩
  obtain ⟨hs, ht⟩ := h
  have look := (pe_var (pos := p) hN hv hdq hcq).run pz s τ H (fun v H1 => v = .ref C ∧ H1 = H) I ⟨.ref C, hs, rfl, rfl⟩
  refine wpAny_Call_Name_kw (thn look fun u s1 ⟨v, H1, I1, r1, q1⟩ => ?_)
  obtain ⟨rfl, rfl⟩ := q1
  cases r1
  refine PySem.W.callWith_K (h₀ := X.base) I.ok.mod.kin M.kp (thn (ha.run pos pz s1 τ _ _ I1 ht) fun us s2 ⟨vs, H2, I2, r, q⟩ => ⟨I2.kIn, ?_⟩) hs2 hpq
  exact run_make M F hr hb hd hx I2 r q
end
def creadB (x : Str) (K : PySem.W.Frag) : Bool := PySem.W.readsIn K (He.ga K x) (.type "type") && He.eqO (PySem.W.specialIn K (.ref (He.ga K x)) "__getattribute__") (some (some (.builtin "type.__getattribute__")))
theorem cread_ok {K : PySem.W.Frag} {x : Str} (h : creadB x K = true) : CRead K (He.ga K x) (.type "type") := by
  obtain ⟨h1, h2⟩ := He.ba h
  exact ⟨h1, He.eqO_ok h2⟩
def cmetB (x m : Str) (K : PySem.W.Frag) : Bool := He5.wrapB K (He.ga K x) "classmethod" "classmethod.__get__" m && PySem.W.fnIn K (He5.wf K (He.ga K x) "classmethod" m)
theorem cmet_ok {K : PySem.W.Frag} {x m : Str} (h : cmetB x m K = true) : CMet K (He.ga K x) (.type "type") m (He.ma K (He.ga K x) m) (He5.wf K (He.ga K x) "classmethod" m) := by
  obtain ⟨h1, h2⟩ := He.ba h
  exact He5.cmet_of h1 h2
end FoD

set_option maxHeartbeats 4100000
/-! Own errors as values: made by position or by name, read, asked for their kinds. -/
namespace FoX
open PySem PySem.Spec PySem.Calls PyProof.Rows L2
section
open PySem.HandSPX
variable {prog : Program} {w : World} {A : Around} {R : Result → Shared → Prop} {hp : Heap} {ge : Array GenState} {dr : Drawn} {tk : Nat} {os : OsState}
variable {nm qn : Str} {D Nd : Addr} {bs low : List Value} {hdct : Bool} {sn : List Str} {sub : List Value} {ab : Bool} {col : Option Bool} {dd : Option Addr} {k0 k1 k2 k3 k5 : Option Value} {us : List Value} {kw : List (Str × Value)}
abbrev clO (nm qn : Str) (D Nd : Addr) (bs low : List Value) (hdct : Bool) (sn : List Str) (sub : List Value) (ab : Bool) (col : Option Bool) (dd : Option Addr) (k0 k1 k2 k3 k5 : Option Value) : Obj :=
  excClassObj nm qn D Nd bs low hdct sn sub ab col dd k0 k1 k2 k3 k5 "ValueError.__new__"
theorem has_low {Y : String} (hv : refsVE low = true) {b : Bool} (h : veTail.contains (.type Y) = b) : (Value.ref D :: low).contains (.type Y) = b := by
  rw [List.contains_cons, refsVE_contains Y low hv, h]
  cases b <;> rfl
theorem veTail_VE : veTail.contains (.type "ValueError") = true := by decide +kernel
theorem veTail_AE : veTail.contains (.type "AttributeError") = false := by decide +kernel
theorem veTail_NE : veTail.contains (.type "NameError") = false := by decide +kernel
/-- the new one's check, whatever the keywords -/
theorem chk_new {A : Around} {E : Value → Shared → Prop} {M : Model} {Q : Unit → Shared → Prop} (hv : refsVE low = true) (hC : hp.get? D = some (clO nm qn D Nd bs low hdct sn sub ab col dd k0 k1 k2 k3 k5)) (q : Q () ⟨hp, ge, dr, tk, os⟩) :
    wpAny M A (checkBuiltinCall "ValueError.__new__" ⟨.ref D :: us, kw⟩) Q E ⟨hp, ge, dr, tk, os⟩ := by
  have F := PySem.F.excBase_ValueError
  have hB := has_low (D := D) hv veTail_VE
  have hs := F.noStar
  simp only [checkBuiltinCall, F.newKind, F.newSplit, F.newRow]
  repeat (first
    | refine wpAny_loadPart_at hC ?_
    | (refine wpAny_isSubtype_exc hC ?_; rw [hB])
    | refine wpAny_staticBase_exc hC ?_
    | refine wpAny_madeBy_exc hC ?_
    | simp only [bne_self_eq_false, Bool.false_eq_true, if_false]
    | wp_step)
  exact q
theorem run_new (hv : refsVE low = true) (hC : hp.get? D = some (clO nm qn D Nd bs low hdct sn sub ab col dd k0 k1 k2 k3 k5)) (hu : us.length ≤ sizeLine)
    (q : R (.ok (.ret (.ref (hp.objs.size + 1)))) ⟨(hp.push (PySem.W.kdv_tup us)).push (excO D hp.objs.size), ge, dr, tk, os⟩) :
    codeAny (model prog w) A (.builtin "ValueError.__new__" ⟨.ref D :: us, kw⟩) R ⟨hp, ge, dr, tk, os⟩ := by
  have F := PySem.F.excBase_ValueError
  have he := F.ends
  have h1 := has_low (D := D) hv veTail_VE
  have h2 := has_low (D := D) hv veTail_AE
  have h3 := has_low (D := D) hv veTail_NE
  refine codeAny_builtinAt F.entry (by
    unfold Builtin.«BaseException.__new__»
    refine PySem.wpAt_bind ?_
    show PySem.wpAt _ _ _ (stack >>= _) _ _ _
    refine PySem.wpAt_bind (PySem.wpAt_stack fun p below => PySem.wpAt_of_wpAny ?_)
    wp_walk
    refine PySem.wpAt_of_wpAny ?_
    rw [F.owner]
    repeat (first
      | with_reducible refine wpAny_madeHere_exc F.canon hC ?_
      | with_reducible refine wpAny_loadPart_at hC ?_
      | (with_reducible refine wpAny_isSubtype_exc hC ?_; first | rw [h1] | rw [h2] | rw [h3])
      | wp_step)
    show R _ _
    rw [Heap.size_push]
    exact q)
/-- D(.., k = v) of an own error class with an own __init__ -/
theorem run_made {fI : Addr} (hv : refsVE low = true) (hC : hp.get? D = some (clO nm qn D Nd bs low hdct sn sub ab col dd k0 k1 k2 k3 k5)) (hu : us.length ≤ sizeLine)
    (hi : PySem.W.Looks (model prog w) hp (typeLookup (.ref D) "__init__") (some (.ref fI))) (hb : ∀ self, PySem.W.Looks (model prog w) hp (bindSpecial (.ref fI) self) (.ref fI, [self]))
    (hT : PySem.W.Looks (model prog w) hp (isInstance (.ref D) (.type "type")) true)
    (q : codeAny (model prog w) (A.under (.builtin "type.__call__" ⟨.ref D :: us, kw⟩)) (.call (.ref fI) ⟨.ref (hp.objs.size + 1) :: us, kw⟩) (PySem.W.InitBack (hp.objs.size + 1) R)
      ⟨(hp.push (PySem.W.kdv_tup us)).push (excO D hp.objs.size), ge, dr, tk, os⟩) :
    codeAny (model prog w) A (.call (.ref D) ⟨us, kw⟩) R ⟨hp, ge, dr, tk, os⟩ := by
  have F := PySem.F.excBase_ValueError
  have f1 := tc_lookup
  have f2 := tc_bind (.ref D)
  have hTy : (⟨hp, ge, dr, tk, os⟩ : Shared).TypeIs (.ref D) "type" := ⟨_, hC, rfl⟩
  refine codeAny_of_tree ?_
  show wpAny _ _ (callAny (.ref D) _) _ _ _
  repeat (any_goals (first
    | assumption
    | with_reducible refine wpAny_loadPart_at hC ?_
    | wp_step))
  refine ⟨rfl, codeAny_call_builtin_at (Code.quiet_builtin _ (by decide +kernel)) entry_typeCall (PySem.W.check_slot tc_kind tc_split hT (PySem.W.tc_args _ _ _) ?_)⟩
  show wpAny (model prog w) (A.under (.builtin "type.__call__" ⟨.ref D :: us, kw⟩)) (Builtin.«type.__call__» ⟨.ref D :: us, kw⟩) _ _ _
  repeat (first
    | with_reducible refine wpAny_loadPart_at hC ?_
    | with_reducible refine wpAny_madeBy_exc hC ?_
    | wp_step)
  refine codeAny_call_builtin_code (Code.quiet_builtin _ F.quiet) (chk_new hv hC (run_new hv hC hu ?_))
  show wpAny _ _ _ _ _ _
  have kp : ∀ b o, hp.get? b = some o → ((hp.push (PySem.W.kdv_tup us)).push (excO D hp.objs.size)).get? b = some o := fun b o e => Heap.get?_push_of_some _ (Heap.get?_push_of_some _ e)
  have hC1 := kp _ _ hC
  have hx : ((hp.push (PySem.W.kdv_tup us)).push (excO D hp.objs.size)).get? (hp.objs.size + 1) = some (excO D hp.objs.size) := by heap_get
  have hcc : (Value.ref D :: low).contains (.ref D) = true := by simp
  have i1 := hi.keeps kp
  have b1 := (hb (.ref (hp.objs.size + 1))).keeps kp
  unfold isInstance
  repeat (first
    | with_reducible refine wpAny_loadPart_at hx ?_
    | (with_reducible refine wpAny_isSubtype_exc hC1 ?_; rw [hcc])
    | wp_step)
  show wpAny _ _ (typeLookup (.ref D) _) _ _ _
  refine i1.at (wpAny_holding (wpAny_bind (b1.at (wpAny_bind (wpAny_call (codeAny_mono q fun r s' z => ?_))))))
  rcases r with e | (v | _ | _ | _) <;> first | exact z | exact z.elim | skip
  obtain ⟨rfl, z⟩ := z
  first
    | exact wpAny_pure (wpAny_pure z)
    | (wp_walk; exact z)
end
section
variable {X : Cx} {CX : CXT} {k n : Nat} {C fI : Addr} {fd : FuncData} {ps ks : List Str} {sp : Sp} {x f : Str} {p pos : Pos} {e : Expr} {es : List Expr} {kws : List Keyword} {t tk : TA} {te : TE} {g : List Value → List Value → List Value} {gV : List V → List V → List V}
/-- the whole of C(.., k = v), C's own __init__ keeping sp; the error stays tracked -/
theorem run_oex {pz : List (Addr × Obj)} {τ : L2.St} {H : Hp} {s : Shared} {Q : VK} {us ws : List Value} {vs zz : List V} (T : FoB.OErr X.K C fI f) (F1 : FnOk X.prog X.w X.K X.mg X.base CX k fI fd ps sp) (hr : Room (k + 1) X.A) (hb : KBn X.K fd ps (n + 1) ks g gV)
    (hx : Passes CX X (fun _ _ _ => False)) (J : Inv X pz τ H s) (r : Vals vs us) (rz : Vals zz ws) (l1 : vs.length = n) (l2 : zz.length = ks.length) (hn : n ≤ 1000)
    (h : ∀ a, H a = none → sp (gV (.ref a :: vs) zz) (upd H a (exo a C none)) (fun v H2 => v = .non ∧ Q (.ref a) H2) (fun _ _ _ => False)) :
    wpAny (model X.prog X.w) X.A (call (.ref C) us (ks.zip ws)) (EP X pz τ Q) X.xe s := by
  obtain ⟨nm, qn, Nd, bs, low, sn, sub, ab, col, dd, k0, k1, k2, k3, k5, hC, hlow⟩ := T.ox.cls
  have hq := h (s.heap.objs.size + 1) (J.hok.fresh (Nat.le_succ _))
  obtain ⟨hp, ge, dr, tk, os⟩ := s
  have J2 : Inv X pz τ (upd H (hp.objs.size + 1) (exo (hp.objs.size + 1) C none)) ⟨(hp.push (PySem.W.kdv_tup us)).push (PySem.HandSPX.excO C hp.objs.size), ge, dr, tk, os⟩ :=
    J.laid (t' := tk) (a := hp.objs.size + 1) (o := exo (hp.objs.size + 1) C none) (h' := (hp.push (PySem.W.kdv_tup us)).push (PySem.HandSPX.excO C hp.objs.size))
      (fun b o z => Heap.get?_push_of_some _ (Heap.get?_push_of_some _ z)) (Nat.le_succ _) (exo_ok (t1 := hp.objs.size) (by heap_get))
  have r1 : Vals (V.ref (hp.objs.size + 1) :: vs) (Value.ref (hp.objs.size + 1) :: us) := .cons rfl r
  have e1 : (Value.ref (hp.objs.size + 1) :: us).length = n + 1 := r1.length.symm.trans (congrArg Nat.succ l1)
  have e2 : ws.length = ks.length := rz.length.symm.trans l2
  have hu : us.length ≤ sizeLine := by
    rw [← Paired.length r, l1, sizeLine_eq]
    omega
  have hty : PySem.W.Looks (model X.prog X.w) hp (isInstance (.ref C) (.type "type")) true := by
    unfold isInstance
    exact (PySem.W.looks_typeIn J.kIn T.ox.tyC).andThen (PySem.W.Looks.of_pure tc_sub)
  refine wpAny_call (run_made hlow (J.kIn _ _ hC) hu (PySem.W.looks_findIn J.kIn T.iC) (fun self => PySem.W.bind_fn J.kIn self T.tI) hty
    (codeAny_mono (F1.run _ X.stack _ _ ⟨Value.ref (hp.objs.size + 1) :: us, ks.zip ws⟩ (g (Value.ref (hp.objs.size + 1) :: us) ws) _ _ (fun _ _ _ => False) (hr.make C us (ks.zip ws))
      (J2.env0.make C us (ks.zip ws)) (hb.to _ (Value.ref (hp.objs.size + 1) :: us) ws J2.kIn e1 e2) (hb.rel r1 rz) hq) fun r s' hq' => ?_))
  cases r with
  | error er => exact hx pz τ _ _ er s' J2 hq'
  | ok fl =>
    cases fl with
    | ret u =>
      obtain ⟨v, H', J3, rv, ev, q3⟩ := J2.after hq'
      subst ev
      exact ⟨rv, ⟨V.ref (hp.objs.size + 1), H', J3, rfl, q3⟩⟩
    | next => exact False.elim hq'
    | brk => exact False.elim hq'
    | cont => exact False.elim hq'
/-- C(e, ..), the error as a value -/
def tOex (C : Addr) (n : Nat) (sp : Sp) (gV : List V → List V → List V) (t : TA) : TE := fun τ H Q => t τ H fun vs H1 => vs.length = n ∧ ∀ a, H1 a = none → sp (gV (.ref a :: vs) []) (upd H1 a (exo a C none)) (fun v H2 => v = .non ∧ Q (.ref a) H2) (fun _ _ _ => False)
theorem pe_oex (T : FoB.OErr X.K C fI f) (F1 : FnOk X.prog X.w X.K X.mg X.base CX k fI fd ps sp) (hr : Room (k + 1) X.A) (hb : KBn X.K fd ps (n + 1) [] g gV) (hx : Passes CX X (fun _ _ _ => False)) (hg : Gl X x) (hm : X.mg x = some (.ref C)) (ha : PA X (e :: es) t)
    (hn : n ≤ 1000 := by decide) (hdb : (x == ("__debug__" : Str)) = false := by decide) (he : starEach (e :: es) X.env = (false, eval e X.env) :: starEach es X.env := by rfl) (hpl : (backTo pos (starEach es X.env)).any (·.1) = false := by rfl) :
    PE X (.Call (.Name x p) (e :: es) [] pos) (tOex C n sp gV t) := by
  refine ⟨fun pz s τ H Q I h => ?_⟩
  refine wpAny_Call_Name_kw (ld_glob I hg hm ?_ hdb)
  refine PySem.W.callWith_K (h₀ := X.base) I.ok.mod.kin T.ox.kC (thn (ha.run pos pz s τ H _ I h) fun us s1 ⟨vs, H1, J1, r, l1, q⟩ => ⟨J1.kIn, ?_⟩) he hpl
  exact run_oex (ks := []) (ws := []) T F1 hr hb hx J1 r .nil l1 rfl hn q
/-- C(k = v, ..), the error as a value -/
def tOexN (C : Addr) (m : Nat) (sp : Sp) (gV : List V → List V → List V) (tk : TA) : TE := fun τ H Q => tk τ H fun zz H1 => zz.length = m ∧ ∀ a, H1 a = none → sp (gV [.ref a] zz) (upd H1 a (exo a C none)) (fun v H2 => v = .non ∧ Q (.ref a) H2) (fun _ _ _ => False)
theorem pe_oexN (T : FoB.OErr X.K C fI f) (F1 : FnOk X.prog X.w X.K X.mg X.base CX k fI fd ps sp) (hr : Room (k + 1) X.A) (hb : KBn X.K fd ps 1 ks g gV) (hx : Passes CX X (fun _ _ _ => False)) (hg : Gl X x) (hm : X.mg x = some (.ref C)) (hkw : PK X kws tk)
    (hall : (backToKw pos (keywordEach kws X.env)).all (·.1.isSome) = true := by rfl) (hks : (backToKw pos (keywordEach kws X.env)).filterMap (·.1) = ks := by rfl)
    (hdb : (x == ("__debug__" : Str)) = false := by decide) (hpq : ((backTo pos (starEach [] X.env)).any (·.1) || (backToKw pos (keywordEach kws X.env)).any (·.1.isNone)) = false := by rfl) :
    PE X (.Call (.Name x p) [] kws pos) (tOexN C ks.length sp gV tk) := by
  refine ⟨fun pz s τ H Q I h => ?_⟩
  refine wpAny_Call_Name_kw (ld_glob I hg hm ?_ hdb)
  refine PySem.W.callWith_KW0 (h₀ := X.base) I.ok.mod.kin T.ox.kC hall ?_ hpq
  refine thn (hkw.run pos pz s τ H _ I h) fun ws s2 ⟨zz, H2, J2, rk, l2, q2⟩ => ⟨J2.kIn, ?_⟩
  rw [hks]
  exact run_oex (us := []) (vs := []) T F1 hr hb hx J2 .nil rk rfl l2 (Nat.zero_le _) q2
/-- X(), the error as a value -/
theorem pe_own0 {D : Addr} (e : FoB.ErrC X.K D) (gC : X.mg x = some (.ref D)) (hg : Gl X x) (hdq : (x == ("__debug__" : Str)) = false := by decide) :
    PE X (.Call (.Name x p) [] [] pos) (fun _ H Q => ∀ a, H a = none → Q (.ref a) (upd H a (ExO (.ref D) a))) := by
  refine ⟨fun pz s τ H Q I h => ?_⟩
  refine wpAny_Call_Name_kw (ld_glob I hg gC ?_ hdq)
  refine PySem.W.callWith_K0 I.kIn e.kp ?_
  show wpAny _ _ (call (.ref D) []) _ _ _
  obtain ⟨low, Nd, nm, qn, bs, hdct, sn, sub, ab, col, dd, k0, k1, k2, k3, k5, mN, hC, hN, hni, T⟩ := exc_obj I.kIn e.ex
  refine wpAny_call_exc_subT PySem.F.excBase_ValueError T hC hN hni (fun h' a hm => ?_) (Nat.zero_le _)
  have hn : H a = none := I.hok.gone hm.new
  obtain ⟨t0, ht, _, _⟩ := hm.there
  exact ⟨.ref a, upd H a (ExO (.ref D) a), I.laidN hm.keeps hm.new hn (exO_ok ht ⟨rfl, rfl⟩ rfl rfl rfl (show 4 < 6 by decide)), rfl, h a hn⟩
/-- an error that was made stands at a: one of the class D -/
def ErrAt (H : Hp) (a D : Addr) : Prop := H a = some (ExO (.ref D) a) ∨ ∃ dx fs, H a = some (exo a D (some dx)) ∧ H dx = some (exd dx fs)
/-- e.f -/
def tFldE (K : PySem.W.Frag) (f : Str) (te : TE) : TE := fun τ H Q => te τ H fun v H1 => ∃ (a dx C fI : Addr) (fs : List (Str × V)) (y : V), v = .ref a ∧ FoB.OErr K C fI f ∧ H1 a = some (exo a C (some dx)) ∧ H1 dx = some (exd dx fs) ∧ fs.lookup f = some y ∧ Q y H1
theorem pe_fldE (he : PE X e te) (hb : attributeBase e f X.env (eval e X.env) = eval e X.env := by rfl) : PE X (.Attribute e f pos) (tFldE X.K f te) := by
  refine ⟨fun pz s τ H Q I h => ?_⟩
  refine attr_of hb (thn (he.run pz s τ H _ I h) fun u s1 ⟨v, H1, J1, rv, a, dx, C, fI, fs, y, ev, T, ea, ed, hl, q⟩ => ?_)
  subst ev
  obtain rfl : u = Value.ref a := rv
  obtain ⟨t1, ho⟩ := exo_at J1.hok ea
  obtain ⟨mA, hns, rel⟩ := exd_at J1.hok ed
  obtain ⟨od, hod, hlk⟩ := lookIn_ns hns
  obtain ⟨z, hz, rz⟩ := RelO.some_of (v := y) (o := mA f) (by rw [← hl]; exact rel f)
  exact HandSPX.exc_get J1.kIn (od := some od) ⟨ho, rfl, rfl, hod⟩ T.ga T.gg T.ox.exC (PySem.W.findObj_own T.hd T.no rfl (by rw [hlk, hz])) (handed_of rz) ⟨y, H1, J1.tok _, rz, q⟩
end
section
open PySem.W
variable {K : Frag} {a D : Addr} {ox : Obj} {od : Option Obj}
theorem cls_there (h : hasDictIn K D = true) : ∃ c d cd sl, K.lookup D = some ⟨c, d, .cls cd, sl⟩ := by
  obtain ⟨cd, e, _⟩ := any_some h
  unfold clsIn at e
  split at e
  · rename_i c d cd' sl z
    exact ⟨c, d, cd', sl, z⟩
  · cases e
theorem found_class (E : ExcC K D) : findObj K D od "__class__" = some (.bind (.builtin "getset_descriptor.__get__") (.builtin "object.__class__")) := by
  obtain ⟨cd, e, _⟩ := any_some E.hd
  unfold findObj
  rw [e, Option.bind_some, E.ha, Option.bind_some]
  simp [E.hn, E.ht]
theorem not_obj_ga : (Value.builtin "BaseException.__getattribute__" == Value.builtin "object.__getattribute__") = false := by decide +kernel
/-- e.__class__, whether e has a dict or none -/
theorem cls_of_exc {prog : Program} {w : World} {A : Around} {E : Value → Shared → Prop} {s : Shared} {Q : Option Value → Shared → Prop} (c : ExcC K D) (J : K.In s.heap) (I : InstAt s.heap a ox D od) (q : Q (some (.ref D)) { s with toks := s.toks + 1 }) :
    wpAny (model prog w) A (getAttr? (.ref a) "__class__") Q E s := by
  obtain ⟨hp, ge, dr, tk, os⟩ := s
  have l0 := I.type (M := model prog w)
  have l1 := looks_findIn (M := model prog w) J c.hg
  have l2 := looks_findIn (M := model prog w) J c.hk
  have l3 := looks_find (M := model prog w) J I (found_class c)
  have ls : Looks (model prog w) hp (isInstance (.ref a) (.type "BaseException")) true := l0.andThen (looks_subIn J c.hs)
  unfold getAttr? getAttrBy? getAttrBy
  refine wpAny_bind (wpAny_mkText (wpAny_bind (wpAny_attempt (wpAny_holding (wpAny_bind (l0.at (wpAny_bind (l1.at ?_))))))))
  show wpAny _ _ (if (onTheHeap (Value.ref D) && Value.builtin "BaseException.__getattribute__" == Value.builtin "object.__getattribute__") = true then _ else _) _ _ _
  rw [not_obj_ga, Bool.and_false, if_neg Bool.false_ne_true]
  unfold getAttrByItsOwn hookBefore
  refine wpAny_bind (by
    rw [if_pos (show onTheHeap (Value.ref D) = true from rfl)]
    refine l2.at (wpAny_bind (wpAny_attempt (wpAny_holding ?_)))
    unfold callGetattribute
    rw [show (false && onTheHeap (Value.builtin "BaseException.__getattribute__")) = false from rfl, if_neg Bool.false_ne_true]
    unfold boundAndCalled
    rw [PySem.F.excAttr_ValueError.ga.bind (.ref a)]
    refine wpAny_bind (wpAny_pure ?_)
    show wpAny _ _ (call (.builtin "BaseException.__getattribute__") [.ref a, .str "__class__" tk]) _ _ _
    refine wpAny_call (codeAny_call_builtin PySem.F.excAttr_ValueError.ga.plain PySem.F.entry_bexc_ga (@check_slot (model prog w) _ _ ⟨hp, ge, dr, tk + 1, os⟩ "BaseException.__getattribute__" "BaseException" "__getattribute__" (.ref a) [.str "__class__" tk] [] _ (by decide +kernel) (by decide +kernel) ls
      (PySem.F.args_bexc_ga (.ref a) (.str "__class__" tk)) ?_))
    unfold Builtin.«object.__getattribute__»
    refine wpAny_bind (wpAny_of_eq (a := ((Value.ref a : Value), [Value.str "__class__" tk])) (by first | rfl | (simp only [slotArgs]; rfl)) ?_)
    refine wpAny_bind (wpAny_pure (wpAny_bind (l0.at (wpAny_bind (l3.at ?_)))))
    show wpAny _ _ (holding [Value.builtin "object.__class__"] (call (.builtin "getset_descriptor.__get__") [.builtin "object.__class__", .ref a, .ref D]) >>= ret) _ _ _
    refine wpAny_bind (wpAny_holding (wpAny_call (class_get (s := ⟨hp, ge, dr, tk + 1, os⟩) (ox := ox) (od := od) J I c.hm ?_)))
    refine wpAny_pure ?_
    show wpAny _ _ (handedOut (.ref D)) _ _ _
    rw [handedOut_of (v := .ref D) rfl]
    first
      | exact wpAny_pure (wpAny_pure q)
      | exact wpAny_pure q
      | exact wpAny_pure (wpAny_bind (wpAny_pure (wpAny_pure q))))
theorem kit_exc (c : ExcC K D) : KitX K (.ref a) (.ref D) (fun h => ∃ ox od, InstAt h a ox D od) where
  ty := fun _ _ _ ⟨_, _, I⟩ => I.type
  it := fun _ _ J _ => by
    obtain ⟨c0, d0, cd, sl, z⟩ := cls_there c.hd
    intro A' Q' E' s' k q
    unfold isType loadHead
    exact wpAny_bind (wpAny_loadPart (k _ _ (J _ _ z)) (wpAny_pure q))
  ne := fun h tp dd its n sl J ht => by
    obtain ⟨c0, d0, cd, sl0, z⟩ := cls_there c.hd
    refine Bool.eq_false_iff.mpr fun q => ?_
    have e : D = tp := Value.ref.inj (beq_iff_eq.mp q)
    subst e
    exact nomatch (J _ _ z).symm.trans ht
  ca := fun J ⟨_, _, I⟩ q => cls_of_exc c J I q
end
section
variable {X : Cx} {D a : Addr}
/-- isinstance(e, c), e an error that was made -/
def rIsX (K : PySem.W.Frag) : List V → Hp → VK → Prop := fun xs H Q => ∃ (a D : Addr) (c : V) (u : Value) (b : Bool), xs = [.ref a, c] ∧ ClsV c u ∧ ErrAt H a D ∧ ExcC K D ∧ PySem.W.kitOne K (.ref D) u = some b ∧ Q (.bl b) H
theorem call_isX : CallR X (.builtin "isinstance") (rIsX X.K) := by
  intro pz s τ H xs us Q I r h
  obtain ⟨a, D, c, u, b, rfl, kc, ea, ec, e, q⟩ := h
  obtain ⟨u1, u2, rfl, r1, r2⟩ := vals2 r
  have e2 := kc.eq r2
  subst e2
  cases (show u1 = Value.ref a from r1)
  have hI : ∃ ox od, PySem.W.InstAt s.heap a ox D od := by
    rcases ea with ea | ⟨dx, fs, ea, ed⟩
    · obtain ⟨⟨oe, vs, ho, hz, hd, _⟩, _, _⟩ := I.hok a _ ea
      obtain ⟨oc, ood, oda, osl⟩ := oe
      obtain ⟨h1, h2⟩ := hz
      dsimp only at h1 h2 hd
      subst h1 h2 hd
      exact ⟨_, none, ho, rfl, rfl, trivial⟩
    · obtain ⟨t1, ho⟩ := exo_at I.hok ea
      obtain ⟨mA, hns, _⟩ := exd_at I.hok ed
      obtain ⟨od, hod, _⟩ := lookIn_ns hns
      exact ⟨_, some od, ho, rfl, rfl, hod⟩
  exact PySem.W.kia_one (kit_exc ec) I.kIn hI e (fun z => nomatch z) fun tk => ⟨.bl b, H, I.tok tk, rfl, q⟩
end
/-! ### what the written part says of the kinds of errors -/
/-- what isinstance asks of an error class -/
def excCB (K : PySem.W.Frag) (D : Addr) : Bool := He.eqO (PySem.W.findIn K (.ref D) "__getattribute__") (some (some (.builtin "BaseException.__getattribute__"))) && (He.eqO (PySem.W.findIn K (.ref D) "__getattr__") (some none) &&
  (decide (PySem.W.subIn K (.ref D) (.type "BaseException") = some true) && (PySem.W.hasDictIn K D && (He.eqO (PySem.W.findIn K (.ref D) "__class__") (some (some (.builtin "object.__class__"))) &&
  (He.eqO (PySem.W.specialIn K (.builtin "object.__class__") "__get__") (some (some (.builtin "getset_descriptor.__get__"))) && (decide (PySem.W.takesIn K (.builtin "object.__class__") = some true) && decide (PySem.W.mroIn K D (.type "object") = some true)))))))
theorem excC_ok {K : PySem.W.Frag} {D : Addr} (h : excCB K D = true) : ExcC K D := by
  obtain ⟨h1, h⟩ := He.ba h
  obtain ⟨h2, h⟩ := He.ba h
  obtain ⟨h3, h⟩ := He.ba h
  obtain ⟨h4, h⟩ := He.ba h
  obtain ⟨h5, h⟩ := He.ba h
  obtain ⟨h6, h⟩ := He.ba h
  obtain ⟨h7, h8⟩ := He.ba h
  exact ⟨He.eqO_ok h1, He.eqO_ok h2, of_decide_eq_true h3, h4, He.eqO_ok h5, He.eqO_ok h6, of_decide_eq_true h7, of_decide_eq_true h8⟩
/-- the class x is above itself, the names up and the types tys, and above no other of the names all -/
def kindB (x : Str) (all up : List Str) (tys : List String) (K : PySem.W.Frag) : Bool := excCB K (He.ga K x) && ((all.all fun y => decide (PySem.W.kitOne K (.ref (He.ga K x)) (.ref (He.ga K y)) = some (decide (x = y)))) &&
  ((up.all fun y => decide (PySem.W.kitOne K (.ref (He.ga K x)) (.ref (He.ga K y)) = some true)) && (tys.all fun t => decide (PySem.W.kitOne K (.ref (He.ga K x)) (.type t) = some true))))
structure Kind (x : Str) (all up : List Str) (tys : List String) (K : PySem.W.Frag) : Prop where
  ec : ExcC K (He.ga K x)
  al : ∀ y ∈ all, PySem.W.kitOne K (.ref (He.ga K x)) (.ref (He.ga K y)) = some (decide (x = y))
  up : ∀ y ∈ up, PySem.W.kitOne K (.ref (He.ga K x)) (.ref (He.ga K y)) = some true
  ty : ∀ t ∈ tys, PySem.W.kitOne K (.ref (He.ga K x)) (.type t) = some true
theorem kind_ok {x : Str} {all up : List Str} {tys : List String} {K : PySem.W.Frag} (h : kindB x all up tys K = true) : Kind x all up tys K := by
  obtain ⟨h1, h⟩ := He.ba h
  obtain ⟨h2, h⟩ := He.ba h
  obtain ⟨h3, h4⟩ := He.ba h
  exact ⟨excC_ok h1, fun y hy => of_decide_eq_true (List.all_eq_true.mp h2 y hy), fun y hy => of_decide_eq_true (List.all_eq_true.mp h3 y hy), fun t ht => of_decide_eq_true (List.all_eq_true.mp h4 t ht)⟩
end FoX

set_option maxHeartbeats 4100000
/-! repr of a dict with one entry, too. -/
namespace FoX
open PySem PySem.Spec PySem.Calls PyProof.Rows L2 FoR
section
variable {prog : Program} {w : World} {A : Around} {E : Value → Shared → Prop} {s : Shared} {a : Addr} {o : Obj} {g : List Code}
theorem dict_one {e : DictEntry} {n : Nat} {kt vt : Str} {Q : Value → Shared → Prop} (hs : (a == sysModules) = false) (hgd : A.guards = some g) (hat : s.heap.get? a = some o) (hcc : o.cls = .type "dict") (hd : o.data = .dict #[e] n)
    (hk : ReprIs prog w e.key kt) (hv : ReprIs prog w e.val vt) (hz : (dictText [kt ++ ": " ++ vt]).length ≤ sizeLine)
    (hQ : ∀ u tk, Q (.str (if way (dictGuardF (.ref a)) g then "{...}" else dictText [kt ++ ": " ++ vt]) u) { s with toks := tk }) : wpAny (model prog w) A (call (.builtin "dict.__repr__") [.ref a]) Q E s := by
  have hTy : s.TypeIs (.ref a) "dict" := ⟨o, hat, hcc⟩
  have hl : (dictText [kt ++ ": " ++ vt]).length = kt.length + vt.length + 4 := by
    unfold dictText
    rw [strLen_append, strLen_append]
    show 1 + (Str.join ", " [kt ++ ": " ++ vt]).length + 1 = _
    have ej : Str.join ", " [kt ++ ": " ++ vt] = kt ++ ": " ++ vt := by simp [Str.join]
    rw [ej, strLen_append, strLen_append]
    show 1 + (kt.length + 2 + vt.length) + 1 = _
    omega
  rw [hl] at hz
  refine wpAny_call (codeAny_call_builtin_own (Code.quiet_builtin _ (by decide +kernel)) F.entry_dict_repr (F.slot_dict_repr.check _ _ _ _ _ _ _ _ hTy (F.args_dict_repr_1 _) ?_))
  show wpOwn (model prog w) A _ (Builtin.dictReprAt 0 ⟨[.ref a], []⟩) _ _ s
  unfold Builtin.dictReprAt
  refine wpOwn_bind (wpOwn_of_wpAny ?_); unfold Builtin.Dict.dictSlotNone
  refine wpAny_bind (wpAny_notOrdered_dict hTy ?_); show wpAny _ _ (pure (Value.ref a)) _ _ s
  refine wpAny_pure ?_
  rw [dictReprRunning_eq]
  refine wpOwn_bind (wpOwn_stackTailAny hgd (dictGuardF_off _) (dictGuardF_pos _) ?_)
  show wpOwn _ _ _ (if way (dictGuardF (.ref a)) g = true then _ else _) _ _ s
  cases hw : way (dictGuardF (.ref a)) g with
  | true =>
    rw [hw] at hQ
    rw [if_pos rfl]
    refine wpOwn_of_wpAny (wpAny_bind (wpAny_rule (wpAny_bind (wpAny_mkStr (wpAny_pure ?_) (by decide +kernel)))))
    exact hQ _ _
  | false =>
    rw [hw] at hQ
    rw [if_neg Bool.false_ne_true]; refine wpOwn_of_wpAny ?_
    show wpAny _ _ (Builtin.Dict.addrOf (.ref a) >>= _) _ _ s; refine wpAny_bind (wpAny_pure ?_)
    show wpAny _ _ (Builtin.Dict.showsAll a >>= _) _ _ s; unfold Builtin.Dict.showsAll
    rw [if_neg (by rw [hs]; exact Bool.false_ne_true)]
    refine wpAny_bind (wpAny_pure ?_); refine wpAny_bind (wpAny_dictEpoch hat hd ?_)
    refine wpAny_bind (wpAny_dictEntries hat hd ?_)
    refine wpAny_bind ?_
    show wpAny _ _ (forIn [0:1] _ _) _ _ s
    rw [Std.Legacy.Range.forIn_eq_forIn_range']
    show wpAny _ _ (forIn [0] _ _) _ _ s
    rw [List.forIn_cons]
    refine wpAny_bind (wpAny_bind (wpAny_dictEntries hat hd ?_))
    show wpAny _ _ (holding [e.key, e.val] _ >>= _) _ _ _
    refine wpAny_bind (wpAny_holding (wpAny_bind (hk _ (by omega) _ _ _ _ fun t1 => wpAny_bind (hv _ (by omega) _ _ _ _ fun t2 => wpAny_pure ?_))))
    refine wpAny_bind (wpAny_dictEpoch hat hd ?_)
    rw [if_neg (by simp)]
    refine wpAny_pure ?_
    show wpAny _ _ (forIn ([] : List Nat) (_ : Array Str × Nat) _) _ _ _
    rw [List.forIn_nil]
    refine wpAny_pure (wpAny_bind (wpAny_mkStr (wpAny_pure ?_) ?_))
    · have h1 := hQ t2 (t2 + 1)
      simpa [dictText] using h1
    · rw [← hl] at hz
      simpa [dictText] using hz
end
/-- what repr shows here -/
inductive Sho2 (H : Hp) : V → Prop where
  | old {v : V} (h : Sho H v) : Sho2 H v
  | one {a : Addr} {k : Str} {v : V} (e : H a = some (.dK [(.inr k, v)])) (h : Sc v) (zk : (reprText k).length ≤ sizeLine) (z : (dictText [reprText k ++ ": " ++ scText v]).length ≤ sizeLine) : Sho2 H (.ref a)
def oneText (g : List Code) (a : Addr) (k : Str) (v : V) : Str := if way (dictGuardF (.ref a)) g then "{...}" else dictText [reprText k ++ ": " ++ scText v]
def repText2 (g : List Code) (H : Hp) (v : V) : Str := match v with
  | .ref a => match H a with
    | some (.dK [(.inr k, y)]) => oneText g a k y
    | _ => repText g H (.ref a)
  | v => repText g H v
theorem rep_old {g : List Code} {H : Hp} {v : V} (h : Sho H v) : repText2 g H v = repText g H v := by
  cases h with
  | sc h => cases h <;> rfl
  | lst e _ _ => simp only [repText2, e]
  | tup e _ _ => simp only [repText2, e]
  | dic e => simp only [repText2, e]
section
variable {X : Cx} {g : List Code}
theorem call_rep2 (hgd : X.A.guards = some g) (hu : X.A.units + 1 < cLine) : CallR X (.builtin "repr") (fun xs H Q => ∃ v, xs = [v] ∧ Sho2 H v ∧ Q (.str (repText2 g H v)) H) := by
  intro pz s τ H xs us Q I r h
  obtain ⟨v, rfl, hs, q⟩ := h
  cases hs with
  | old h0 =>
    rw [rep_old h0] at q
    exact call_rep hgd hu pz s τ H [v] us Q I r ⟨v, rfl, h0, q⟩
  | @one a k y e hy zk z =>
    obtain ⟨u, rfl, rv0⟩ := vals1 r
    cases rv0
    obtain ⟨_, hs, vs, kv, o, es, ep, ho, hx, hd, hk, hp, hn⟩ := (show ObjOk X.prog X.w H s.heap a (.dK [(.inr k, y)]) from I.hok a _ e)
    cases kv with
    | @cons p1 p2 l1 l2 hkv rest =>
      cases rest
      obtain ⟨p2k, p2v⟩ := p2
      obtain ⟨ek, rv⟩ := hkv
      have ek' : Sum.inr k = p2k := ek
      subst ek'
      obtain ⟨esl⟩ := es
      cases hp with
      | @cons en kv2 es' kvs' hki hval hrest =>
        cases hrest
        have hki' : keyIs (.inr k) en.key = true := hki
        obtain ⟨i, t, e1, _⟩ | ⟨x, t, e1, e2⟩ := keyIs_shape hki'
        · cases e1
        · cases e1
          have hTp : s.TypeIs (.ref a) "dict" := ⟨_, ho, hx.1⟩
          have qt : repText2 g H (.ref a) = oneText g a k y := by simp only [repText2, e]
          rw [qt] at q
          refine call_repr_slot hu hTp F.slot_dict_repr ?_
          have hv' : ReprIs X.prog X.w en.val (scText y) := by
            rw [hval]
            exact sc_is hy rv
          have hk' : ReprIs X.prog X.w en.key (reprText k) := by
            rw [e2]
            exact ReprIs.str k t zk
          exact dict_one (A := X.A.in1) hs hgd ho hx.1 hd hk' hv' z fun u tk => ⟨_, _, rfl, .str _, H, I.tok _, ⟨_, rfl⟩, q⟩
end
theorem ErrAt.same {H H' : Hp} {a D : Addr} (h : ErrAt H a D) (e : Same H H') : ErrAt H' a D := by
  rcases h with h | ⟨dx, fs, h1, h2⟩
  · exact .inl (e _ _ h)
  · exact .inr ⟨dx, fs, e _ _ h1, e _ _ h2⟩
theorem Sho2.same {H H' : Hp} {y : V} (h : Sho2 H y) (e : Same H H') : Sho2 H' y := by
  cases h with
  | one a h zk z => exact .one (e _ _ a) h zk z
  | old h =>
    cases h with
    | sc h => exact .old (.sc h)
    | lst a h z => exact .old (.lst (e _ _ a) h z)
    | tup a h z => exact .old (.tup (e _ _ a) h z)
    | dic a => exact .old (.dic (e _ _ a))
theorem call_isXK {X : Cx} {K' : PySem.W.Frag} (hK : X.K = K') : CallR X (.builtin "isinstance") (rIsX K') := hK ▸ call_isX
end FoX

/-! Rules with the frame named: for the inside of a comprehension. -/
namespace FoK
open PySem PySem.Spec PyProof.Rows L2
section
variable {X : Cx} {K' : PySem.W.Frag} {e : Expr} {f : Str} {pos : Pos} {ta : TE}
theorem pe_fldK (he : PE X e ta) (hb : attributeBase e f X.env (eval e X.env) = eval e X.env) (hK : X.K = K') : PE X (.Attribute e f pos) (tFld K' ta f) := hK ▸ pe_fld he hb
theorem pg_tupK {es : List Expr} {k n : Nat} {t : TGs} (hK : X.K = K') (hc : X.calm = true) (h : PGs X es t) (hn : (assignEach es X.env).length = n := by rfl) (hst : (assignEach es X.env).findIdx? (·.1) = none := by rfl) : PG X (.Tuple es k pos) (gTup K' n t) := hK ▸ pg_tup hc h hn hst
theorem ix_listK (hK : X.K = K') : IxR X (rIxL K') := hK ▸ ix_list
theorem ix_tupK (hK : X.K = K') : IxR X (rIxT K') := hK ▸ ix_tup
end
end FoK

set_option maxHeartbeats 4100000
namespace Fo
open PySem PySem.Spec PyProof.Rows L2
def names : List Str := ["BadAnswer", "BadBeam", "BadCounts", "BadLine", "BadNumber", "BadRoot", "BadRow", "BadShare", "BadStretch", "BadTable", "BadText", "ByZero", "Clash", "Never", "NoLine", "NotFilter", "NothingToRedo", "NothingToUndo", "NotMirror", "UnlikeTables", "ZeroPolynomial"]
def top (i : Nat) : Stmt := PySem.Challenge.pw_filterorders_k01_errors.main.body.getD i (.Pass ⟨0, 0, 0, 0⟩)
abbrev s_BadNumber_init : Stmt := inClass (top 3) 0
theorem sc_BadNumber_init : FnScope ["self", "given"] ["self", "given"] (defScope s_BadNumber_init) := ⟨rfl, rfl, rfl, by decide +kernel, rfl, by decide +kernel, by decide +kernel⟩
abbrev s_BadRow_init : Stmt := inClass (top 8) 0
theorem sc_BadRow_init : FnScope ["self", "row"] ["self", "row"] (defScope s_BadRow_init) := ⟨rfl, rfl, rfl, by decide +kernel, rfl, by decide +kernel, by decide +kernel⟩
abbrev s_NoLine_init : Stmt := inClass (top 10) 0
theorem sc_NoLine_init : FnScope ["self", "name"] ["self", "name"] (defScope s_NoLine_init) := ⟨rfl, rfl, rfl, by decide +kernel, rfl, by decide +kernel, by decide +kernel⟩
abbrev s_BadAnswer_init : Stmt := inClass (top 16) 0
theorem sc_BadAnswer_init : FnScope ["self", "answer"] ["self", "answer"] (defScope s_BadAnswer_init) := ⟨rfl, rfl, rfl, by decide +kernel, rfl, by decide +kernel, by decide +kernel⟩
abbrev s_BadShare_init : Stmt := inClass (top 17) 0
theorem sc_BadShare_init : FnScope ["self", "given"] ["self", "given"] (defScope s_BadShare_init) := ⟨rfl, rfl, rfl, by decide +kernel, rfl, by decide +kernel, by decide +kernel⟩
abbrev s_Never_init : Stmt := inClass (top 18) 0
theorem sc_Never_init : FnScope ["self", "answer"] ["self", "answer"] (defScope s_Never_init) := ⟨rfl, rfl, rfl, by decide +kernel, rfl, by decide +kernel, by decide +kernel⟩
abbrev s_BadLine_init : Stmt := inClass (top 19) 0
theorem sc_BadLine_init : FnScope ["self", "line"] ["self", "line"] (defScope s_BadLine_init) := ⟨rfl, rfl, rfl, by decide +kernel, rfl, by decide +kernel, by decide +kernel⟩
abbrev s_cell : Stmt := top 24
theorem sc_cell : FnScope ["_law_script", "_law_k"] ["_law_script", "_law_k"] (defScope s_cell) := ⟨rfl, rfl, rfl, by decide +kernel, rfl, by decide +kernel, by decide +kernel⟩
abbrev s_box : Stmt := top 25
theorem sc_box : FnScope ["_law_script", "_law_k"] ["_law_script", "_law_k"] (defScope s_box) := ⟨rfl, rfl, rfl, by decide +kernel, rfl, by decide +kernel, by decide +kernel⟩
abbrev s_take : Stmt := top 26
theorem sc_take : FnScope ["_law_box_here", "_law_many", "_law_digit", "_law_mixed"] ["_law_box_here", "_law_many"] (defScope s_take) := ⟨rfl, rfl, rfl, by decide +kernel, rfl, by decide +kernel, by decide +kernel⟩
abbrev s_same : Stmt := top 27
theorem sc_same : FnScope ["_law_one", "_law_other"] ["_law_one", "_law_other"] (defScope s_same) := ⟨rfl, rfl, rfl, by decide +kernel, rfl, by decide +kernel, by decide +kernel⟩
abbrev s_kinds : Stmt := top 28
theorem sc_kinds : FnScope ["_law_e", "_law_found", "_law_bit"] ["_law_e"] (defScope s_kinds) := ⟨rfl, rfl, rfl, by decide +kernel, rfl, by decide +kernel, by decide +kernel⟩
abbrev s_bases : Stmt := top 29
theorem sc_bases : FnScope ["_law_made", "_law_e", "_law_bad"] [] (defScope s_bases) := ⟨rfl, rfl, rfl, by decide +kernel, rfl, by decide +kernel, by decide +kernel⟩
abbrev s_law : Stmt := top 30
theorem sc_law : FnScope ["_law_script", "_law_box_here", "_law_a", "_law_b", "_law_kept", "_law_more", "_law_k", "_law_passed"] ["_law_script"] (defScope s_law) := ⟨rfl, rfl, rfl, by decide +kernel, rfl, by decide +kernel, by decide +kernel⟩
structure Tx (K : PySem.W.Frag) (mg : Str → Option Value) : Type where
  fd_BadNumber_init : FuncData
  F_BadNumber_init : Fun K "__init__" "BadNumber.__init__" s_BadNumber_init (He.ma K (He.ga K "BadNumber") "__init__") fd_BadNumber_init
  b_BadNumber_init : Binds K fd_BadNumber_init ["self", "given"] []
  fd_BadRow_init : FuncData
  F_BadRow_init : Fun K "__init__" "BadRow.__init__" s_BadRow_init (He.ma K (He.ga K "BadRow") "__init__") fd_BadRow_init
  b_BadRow_init : Binds K fd_BadRow_init ["self", "row"] []
  fd_NoLine_init : FuncData
  F_NoLine_init : Fun K "__init__" "NoLine.__init__" s_NoLine_init (He.ma K (He.ga K "NoLine") "__init__") fd_NoLine_init
  b_NoLine_init : Binds K fd_NoLine_init ["self", "name"] []
  fd_BadAnswer_init : FuncData
  F_BadAnswer_init : Fun K "__init__" "BadAnswer.__init__" s_BadAnswer_init (He.ma K (He.ga K "BadAnswer") "__init__") fd_BadAnswer_init
  b_BadAnswer_init : Binds K fd_BadAnswer_init ["self", "answer"] []
  fd_BadShare_init : FuncData
  F_BadShare_init : Fun K "__init__" "BadShare.__init__" s_BadShare_init (He.ma K (He.ga K "BadShare") "__init__") fd_BadShare_init
  b_BadShare_init : Binds K fd_BadShare_init ["self", "given"] []
  fd_Never_init : FuncData
  F_Never_init : Fun K "__init__" "Never.__init__" s_Never_init (He.ma K (He.ga K "Never") "__init__") fd_Never_init
  b_Never_init : Binds K fd_Never_init ["self", "answer"] []
  fd_BadLine_init : FuncData
  F_BadLine_init : Fun K "__init__" "BadLine.__init__" s_BadLine_init (He.ma K (He.ga K "BadLine") "__init__") fd_BadLine_init
  b_BadLine_init : Binds K fd_BadLine_init ["self", "line"] []
  fd_cell : FuncData
  F_cell : Fun K "_law_cell" "_law_cell" s_cell (He.ga K "_law_cell") fd_cell
  b_cell : Binds K fd_cell ["_law_script", "_law_k"] []
  g_cell : mg "_law_cell" = some (.ref (He.ga K "_law_cell"))
  fd_box : FuncData
  F_box : Fun K "_law_box" "_law_box" s_box (He.ga K "_law_box") fd_box
  b_box : Binds K fd_box ["_law_script", "_law_k"] []
  g_box : mg "_law_box" = some (.ref (He.ga K "_law_box"))
  fd_take : FuncData
  F_take : Fun K "_law_take" "_law_take" s_take (He.ga K "_law_take") fd_take
  b_take : Binds K fd_take ["_law_box_here", "_law_many"] []
  g_take : mg "_law_take" = some (.ref (He.ga K "_law_take"))
  fd_same : FuncData
  F_same : Fun K "_law_same" "_law_same" s_same (He.ga K "_law_same") fd_same
  b_same : Binds K fd_same ["_law_one", "_law_other"] []
  g_same : mg "_law_same" = some (.ref (He.ga K "_law_same"))
  fd_kinds : FuncData
  F_kinds : Fun K "_law_kinds" "_law_kinds" s_kinds (He.ga K "_law_kinds") fd_kinds
  b_kinds : Binds K fd_kinds ["_law_e"] []
  g_kinds : mg "_law_kinds" = some (.ref (He.ga K "_law_kinds"))
  fd_bases : FuncData
  F_bases : Fun K "_law_bases" "_law_bases" s_bases (He.ga K "_law_bases") fd_bases
  b_bases : Binds K fd_bases [] []
  g_bases : mg "_law_bases" = some (.ref (He.ga K "_law_bases"))
  fd_law : FuncData
  F_law : Fun K "law" "law" s_law (He.ga K "law") fd_law
  b_law : Binds K fd_law ["_law_script"] []
  g_law : mg "law" = some (.ref (He.ga K "law"))
  z_ValueError : mg "ValueError" = none
  z_abs : mg "abs" = none
  z_bool : mg "bool" = none
  z_int : mg "int" = none
  z_isinstance : mg "isinstance" = none
  z_len : mg "len" = none
  z_range : mg "range" = none
  z_repr : mg "repr" = none
  c_BadAnswer : mg "BadAnswer" = some (.ref (He.ga K "BadAnswer"))
  c_BadBeam : mg "BadBeam" = some (.ref (He.ga K "BadBeam"))
  c_BadCounts : mg "BadCounts" = some (.ref (He.ga K "BadCounts"))
  c_BadLine : mg "BadLine" = some (.ref (He.ga K "BadLine"))
  c_BadNumber : mg "BadNumber" = some (.ref (He.ga K "BadNumber"))
  c_BadRoot : mg "BadRoot" = some (.ref (He.ga K "BadRoot"))
  c_BadRow : mg "BadRow" = some (.ref (He.ga K "BadRow"))
  c_BadShare : mg "BadShare" = some (.ref (He.ga K "BadShare"))
  c_BadStretch : mg "BadStretch" = some (.ref (He.ga K "BadStretch"))
  c_BadTable : mg "BadTable" = some (.ref (He.ga K "BadTable"))
  c_BadText : mg "BadText" = some (.ref (He.ga K "BadText"))
  c_ByZero : mg "ByZero" = some (.ref (He.ga K "ByZero"))
  c_Clash : mg "Clash" = some (.ref (He.ga K "Clash"))
  c_Never : mg "Never" = some (.ref (He.ga K "Never"))
  c_NoLine : mg "NoLine" = some (.ref (He.ga K "NoLine"))
  c_NotFilter : mg "NotFilter" = some (.ref (He.ga K "NotFilter"))
  c_NothingToRedo : mg "NothingToRedo" = some (.ref (He.ga K "NothingToRedo"))
  c_NothingToUndo : mg "NothingToUndo" = some (.ref (He.ga K "NothingToUndo"))
  c_NotMirror : mg "NotMirror" = some (.ref (He.ga K "NotMirror"))
  c_UnlikeTables : mg "UnlikeTables" = some (.ref (He.ga K "UnlikeTables"))
  c_ZeroPolynomial : mg "ZeroPolynomial" = some (.ref (He.ga K "ZeroPolynomial"))
  c_FilterError : mg "FilterError" = some (.ref (He.ga K "FilterError"))
  e_BadAnswer : FoB.OErr K (He.ga K "BadAnswer") (He.ma K (He.ga K "BadAnswer") "__init__") "answer"
  k_BadAnswer : FoX.Kind "BadAnswer" names ["FilterError"] ["ValueError"] K
  e_BadBeam : FoB.ErrC K (He.ga K "BadBeam")
  k_BadBeam : FoX.Kind "BadBeam" names ["FilterError"] ["ValueError"] K
  e_BadCounts : FoB.ErrC K (He.ga K "BadCounts")
  k_BadCounts : FoX.Kind "BadCounts" names ["FilterError"] ["ValueError"] K
  e_BadLine : FoB.OErr K (He.ga K "BadLine") (He.ma K (He.ga K "BadLine") "__init__") "line"
  k_BadLine : FoX.Kind "BadLine" names ["FilterError"] ["ValueError"] K
  e_BadNumber : FoB.OErr K (He.ga K "BadNumber") (He.ma K (He.ga K "BadNumber") "__init__") "given"
  k_BadNumber : FoX.Kind "BadNumber" names ["FilterError"] ["ValueError"] K
  e_BadRoot : FoB.ErrC K (He.ga K "BadRoot")
  k_BadRoot : FoX.Kind "BadRoot" names ["FilterError"] ["ValueError"] K
  e_BadRow : FoB.OErr K (He.ga K "BadRow") (He.ma K (He.ga K "BadRow") "__init__") "row"
  k_BadRow : FoX.Kind "BadRow" names ["FilterError"] ["ValueError"] K
  e_BadShare : FoB.OErr K (He.ga K "BadShare") (He.ma K (He.ga K "BadShare") "__init__") "given"
  k_BadShare : FoX.Kind "BadShare" names ["FilterError"] ["ValueError"] K
  e_BadStretch : FoB.ErrC K (He.ga K "BadStretch")
  k_BadStretch : FoX.Kind "BadStretch" names ["FilterError"] ["ValueError"] K
  e_BadTable : FoB.ErrC K (He.ga K "BadTable")
  k_BadTable : FoX.Kind "BadTable" names ["FilterError"] ["ValueError"] K
  e_BadText : FoB.ErrC K (He.ga K "BadText")
  k_BadText : FoX.Kind "BadText" names ["FilterError"] ["ValueError"] K
  e_ByZero : FoB.ErrC K (He.ga K "ByZero")
  k_ByZero : FoX.Kind "ByZero" names ["FilterError"] ["ValueError"] K
  e_Clash : FoB.ErrC K (He.ga K "Clash")
  k_Clash : FoX.Kind "Clash" names ["FilterError"] ["ValueError"] K
  e_Never : FoB.OErr K (He.ga K "Never") (He.ma K (He.ga K "Never") "__init__") "answer"
  k_Never : FoX.Kind "Never" names ["FilterError"] ["ValueError"] K
  e_NoLine : FoB.OErr K (He.ga K "NoLine") (He.ma K (He.ga K "NoLine") "__init__") "name"
  k_NoLine : FoX.Kind "NoLine" names ["FilterError"] ["ValueError"] K
  e_NotFilter : FoB.ErrC K (He.ga K "NotFilter")
  k_NotFilter : FoX.Kind "NotFilter" names ["FilterError"] ["ValueError"] K
  e_NothingToRedo : FoB.ErrC K (He.ga K "NothingToRedo")
  k_NothingToRedo : FoX.Kind "NothingToRedo" names ["FilterError"] ["ValueError"] K
  e_NothingToUndo : FoB.ErrC K (He.ga K "NothingToUndo")
  k_NothingToUndo : FoX.Kind "NothingToUndo" names ["FilterError"] ["ValueError"] K
  e_NotMirror : FoB.ErrC K (He.ga K "NotMirror")
  k_NotMirror : FoX.Kind "NotMirror" names ["FilterError"] ["ValueError"] K
  e_UnlikeTables : FoB.ErrC K (He.ga K "UnlikeTables")
  k_UnlikeTables : FoX.Kind "UnlikeTables" names ["FilterError"] ["ValueError"] K
  e_ZeroPolynomial : FoB.ErrC K (He.ga K "ZeroPolynomial")
  k_ZeroPolynomial : FoX.Kind "ZeroPolynomial" names ["FilterError"] ["ValueError"] K
end Fo

set_option maxHeartbeats 4100000
namespace Fo
open PySem PySem.Spec PyProof.Rows L2
def hb : List (PySem.W.Frag → Bool) := [(He.Fa.glo "_law_cell").ok,
  (He.Fa.glo "_law_box").ok,
  (He.Fa.glo "_law_take").ok,
  (He.Fa.glo "_law_same").ok,
  (He.Fa.glo "_law_kinds").ok,
  (He.Fa.glo "_law_bases").ok,
  (He.Fa.glo "law").ok,
  (He.Fa.free "ValueError").ok,
  (He.Fa.free "abs").ok,
  (He.Fa.free "bool").ok,
  (He.Fa.free "int").ok,
  (He.Fa.free "isinstance").ok,
  (He.Fa.free "len").ok,
  (He.Fa.free "range").ok,
  (He.Fa.free "repr").ok,
  (He.Fa.glo "BadAnswer").ok,
  (He.Fa.glo "BadBeam").ok,
  (He.Fa.glo "BadCounts").ok,
  (He.Fa.glo "BadLine").ok,
  (He.Fa.glo "BadNumber").ok,
  (He.Fa.glo "BadRoot").ok,
  (He.Fa.glo "BadRow").ok,
  (He.Fa.glo "BadShare").ok,
  (He.Fa.glo "BadStretch").ok,
  (He.Fa.glo "BadTable").ok,
  (He.Fa.glo "BadText").ok,
  (He.Fa.glo "ByZero").ok,
  (He.Fa.glo "Clash").ok,
  (He.Fa.glo "Never").ok,
  (He.Fa.glo "NoLine").ok,
  (He.Fa.glo "NotFilter").ok,
  (He.Fa.glo "NothingToRedo").ok,
  (He.Fa.glo "NothingToUndo").ok,
  (He.Fa.glo "NotMirror").ok,
  (He.Fa.glo "UnlikeTables").ok,
  (He.Fa.glo "ZeroPolynomial").ok,
  (He.Fa.glo "FilterError").ok,
  FoB.oexB "BadAnswer" "answer",
  FoX.kindB "BadAnswer" names ["FilterError"] ["ValueError"],
  FoB.errB "BadBeam",
  FoX.kindB "BadBeam" names ["FilterError"] ["ValueError"],
  FoB.errB "BadCounts",
  FoX.kindB "BadCounts" names ["FilterError"] ["ValueError"],
  FoB.oexB "BadLine" "line",
  FoX.kindB "BadLine" names ["FilterError"] ["ValueError"],
  FoB.oexB "BadNumber" "given",
  FoX.kindB "BadNumber" names ["FilterError"] ["ValueError"],
  FoB.errB "BadRoot",
  FoX.kindB "BadRoot" names ["FilterError"] ["ValueError"],
  FoB.oexB "BadRow" "row",
  FoX.kindB "BadRow" names ["FilterError"] ["ValueError"],
  FoB.oexB "BadShare" "given",
  FoX.kindB "BadShare" names ["FilterError"] ["ValueError"],
  FoB.errB "BadStretch",
  FoX.kindB "BadStretch" names ["FilterError"] ["ValueError"],
  FoB.errB "BadTable",
  FoX.kindB "BadTable" names ["FilterError"] ["ValueError"],
  FoB.errB "BadText",
  FoX.kindB "BadText" names ["FilterError"] ["ValueError"],
  FoB.errB "ByZero",
  FoX.kindB "ByZero" names ["FilterError"] ["ValueError"],
  FoB.errB "Clash",
  FoX.kindB "Clash" names ["FilterError"] ["ValueError"],
  FoB.oexB "Never" "answer",
  FoX.kindB "Never" names ["FilterError"] ["ValueError"],
  FoB.oexB "NoLine" "name",
  FoX.kindB "NoLine" names ["FilterError"] ["ValueError"],
  FoB.errB "NotFilter",
  FoX.kindB "NotFilter" names ["FilterError"] ["ValueError"],
  FoB.errB "NothingToRedo",
  FoX.kindB "NothingToRedo" names ["FilterError"] ["ValueError"],
  FoB.errB "NothingToUndo",
  FoX.kindB "NothingToUndo" names ["FilterError"] ["ValueError"],
  FoB.errB "NotMirror",
  FoX.kindB "NotMirror" names ["FilterError"] ["ValueError"],
  FoB.errB "UnlikeTables",
  FoX.kindB "UnlikeTables" names ["FilterError"] ["ValueError"],
  FoB.errB "ZeroPolynomial",
  FoX.kindB "ZeroPolynomial" names ["FilterError"] ["ValueError"]]
def hd : List He5.DefA := [⟨fun K => (He.ma K (He.ga K "BadNumber") "__init__"), "__init__", "BadNumber.__init__", defArgs s_BadNumber_init, defBody s_BadNumber_init, defScope s_BadNumber_init, [], []⟩,
  ⟨fun K => (He.ma K (He.ga K "BadRow") "__init__"), "__init__", "BadRow.__init__", defArgs s_BadRow_init, defBody s_BadRow_init, defScope s_BadRow_init, [], []⟩,
  ⟨fun K => (He.ma K (He.ga K "NoLine") "__init__"), "__init__", "NoLine.__init__", defArgs s_NoLine_init, defBody s_NoLine_init, defScope s_NoLine_init, [], []⟩,
  ⟨fun K => (He.ma K (He.ga K "BadAnswer") "__init__"), "__init__", "BadAnswer.__init__", defArgs s_BadAnswer_init, defBody s_BadAnswer_init, defScope s_BadAnswer_init, [], []⟩,
  ⟨fun K => (He.ma K (He.ga K "BadShare") "__init__"), "__init__", "BadShare.__init__", defArgs s_BadShare_init, defBody s_BadShare_init, defScope s_BadShare_init, [], []⟩,
  ⟨fun K => (He.ma K (He.ga K "Never") "__init__"), "__init__", "Never.__init__", defArgs s_Never_init, defBody s_Never_init, defScope s_Never_init, [], []⟩,
  ⟨fun K => (He.ma K (He.ga K "BadLine") "__init__"), "__init__", "BadLine.__init__", defArgs s_BadLine_init, defBody s_BadLine_init, defScope s_BadLine_init, [], []⟩,
  ⟨fun K => (He.ga K "_law_cell"), "_law_cell", "_law_cell", defArgs s_cell, defBody s_cell, defScope s_cell, [], []⟩,
  ⟨fun K => (He.ga K "_law_box"), "_law_box", "_law_box", defArgs s_box, defBody s_box, defScope s_box, [], []⟩,
  ⟨fun K => (He.ga K "_law_take"), "_law_take", "_law_take", defArgs s_take, defBody s_take, defScope s_take, [], []⟩,
  ⟨fun K => (He.ga K "_law_same"), "_law_same", "_law_same", defArgs s_same, defBody s_same, defScope s_same, [], []⟩,
  ⟨fun K => (He.ga K "_law_kinds"), "_law_kinds", "_law_kinds", defArgs s_kinds, defBody s_kinds, defScope s_kinds, [], []⟩,
  ⟨fun K => (He.ga K "_law_bases"), "_law_bases", "_law_bases", defArgs s_bases, defBody s_bases, defScope s_bases, [], []⟩,
  ⟨fun K => (He.ga K "law"), "law", "law", defArgs s_law, defBody s_law, defScope s_law, [], []⟩]
abbrev R : PySem.W.OpenRow := PySem.W.OpenLaw.row PySem.Challenge.rw_filterorders_k01_errors
abbrev hk : PySem.W.Hook := FoZ.hook 6 hb hd
def ob (s : PySem.W.SharedT) : Bool × List He.FnW := FoZ.lookG 6 hb hd (HandSHeadRun.getT s)
theorem ob_eq (s : PySem.W.SharedT) : ob s = hk.obs s.abs := FoZ.lookG_eq (HandSHeadRun.getT_eq s)
def loose : List PySem.Str := (["FilterError", "ByZero", "BadNumber", "BadText", "ZeroPolynomial", "BadRoot", "BadStretch", "BadRow", "BadTable", "NoLine", "UnlikeTables", "BadBeam", "NotFilter", "NotMirror", "BadCounts", "BadAnswer", "BadShare", "Never", "BadLine", "Clash", "NothingToUndo", "NothingToRedo", "_law_cell", "_law_box", "_law_take", "_law_same", "_law_kinds", "_law_bases"] : List PySem.Str)
theorem run (w : World) : FoI.RunI R (PySem.W.view R.prog [30]) hk ob 6000 loose w := by
  unfold FoI.RunI
  kernel_rfl
theorem facts {K : PySem.W.Frag} {h : Heap} {mg : Str → Option Value} (X : K.In h) (G : h.Ns mainGlobals mg) (c : FoZ.Told hb hd K) : Nonempty (Tx K mg) := by
  obtain ⟨fd0, F0⟩ := c.defn 0
  obtain ⟨fd1, F1⟩ := c.defn 1
  obtain ⟨fd2, F2⟩ := c.defn 2
  obtain ⟨fd3, F3⟩ := c.defn 3
  obtain ⟨fd4, F4⟩ := c.defn 4
  obtain ⟨fd5, F5⟩ := c.defn 5
  obtain ⟨fd6, F6⟩ := c.defn 6
  obtain ⟨fd7, F7⟩ := c.defn 7
  obtain ⟨fd8, F8⟩ := c.defn 8
  obtain ⟨fd9, F9⟩ := c.defn 9
  obtain ⟨fd10, F10⟩ := c.defn 10
  obtain ⟨fd11, F11⟩ := c.defn 11
  obtain ⟨fd12, F12⟩ := c.defn 12
  obtain ⟨fd13, F13⟩ := c.defn 13
  exact ⟨⟨fd0,
    He5.fun_of (st := s_BadNumber_init) F0,
    ((He5.fun_of (st := s_BadNumber_init) F0).binds (ps := ["self", "given"]) fun _ _ _ _ _ _ us hl => match us, hl with | [_, _], _ => rfl),
    fd1,
    He5.fun_of (st := s_BadRow_init) F1,
    ((He5.fun_of (st := s_BadRow_init) F1).binds (ps := ["self", "row"]) fun _ _ _ _ _ _ us hl => match us, hl with | [_, _], _ => rfl),
    fd2,
    He5.fun_of (st := s_NoLine_init) F2,
    ((He5.fun_of (st := s_NoLine_init) F2).binds (ps := ["self", "name"]) fun _ _ _ _ _ _ us hl => match us, hl with | [_, _], _ => rfl),
    fd3,
    He5.fun_of (st := s_BadAnswer_init) F3,
    ((He5.fun_of (st := s_BadAnswer_init) F3).binds (ps := ["self", "answer"]) fun _ _ _ _ _ _ us hl => match us, hl with | [_, _], _ => rfl),
    fd4,
    He5.fun_of (st := s_BadShare_init) F4,
    ((He5.fun_of (st := s_BadShare_init) F4).binds (ps := ["self", "given"]) fun _ _ _ _ _ _ us hl => match us, hl with | [_, _], _ => rfl),
    fd5,
    He5.fun_of (st := s_Never_init) F5,
    ((He5.fun_of (st := s_Never_init) F5).binds (ps := ["self", "answer"]) fun _ _ _ _ _ _ us hl => match us, hl with | [_, _], _ => rfl),
    fd6,
    He5.fun_of (st := s_BadLine_init) F6,
    ((He5.fun_of (st := s_BadLine_init) F6).binds (ps := ["self", "line"]) fun _ _ _ _ _ _ us hl => match us, hl with | [_, _], _ => rfl),
    fd7,
    He5.fun_of (st := s_cell) F7,
    ((He5.fun_of (st := s_cell) F7).binds (ps := ["_law_script", "_law_k"]) fun _ _ _ _ _ _ us hl => match us, hl with | [_, _], _ => rfl),
    He.glo_ok X G (c.bool 0),
    fd8,
    He5.fun_of (st := s_box) F8,
    ((He5.fun_of (st := s_box) F8).binds (ps := ["_law_script", "_law_k"]) fun _ _ _ _ _ _ us hl => match us, hl with | [_, _], _ => rfl),
    He.glo_ok X G (c.bool 1),
    fd9,
    He5.fun_of (st := s_take) F9,
    ((He5.fun_of (st := s_take) F9).binds (ps := ["_law_box_here", "_law_many"]) fun _ _ _ _ _ _ us hl => match us, hl with | [_, _], _ => rfl),
    He.glo_ok X G (c.bool 2),
    fd10,
    He5.fun_of (st := s_same) F10,
    ((He5.fun_of (st := s_same) F10).binds (ps := ["_law_one", "_law_other"]) fun _ _ _ _ _ _ us hl => match us, hl with | [_, _], _ => rfl),
    He.glo_ok X G (c.bool 3),
    fd11,
    He5.fun_of (st := s_kinds) F11,
    ((He5.fun_of (st := s_kinds) F11).binds (ps := ["_law_e"]) fun _ _ _ _ _ _ us hl => match us, hl with | [_], _ => rfl),
    He.glo_ok X G (c.bool 4),
    fd12,
    He5.fun_of (st := s_bases) F12,
    ((He5.fun_of (st := s_bases) F12).binds (ps := []) fun _ _ _ _ _ _ us hl => match us, hl with | [], _ => rfl),
    He.glo_ok X G (c.bool 5),
    fd13,
    He5.fun_of (st := s_law) F13,
    ((He5.fun_of (st := s_law) F13).binds (ps := ["_law_script"]) fun _ _ _ _ _ _ us hl => match us, hl with | [_], _ => rfl),
    He.glo_ok X G (c.bool 6),
    He.free_ok X G (c.bool 7),
    He.free_ok X G (c.bool 8),
    He.free_ok X G (c.bool 9),
    He.free_ok X G (c.bool 10),
    He.free_ok X G (c.bool 11),
    He.free_ok X G (c.bool 12),
    He.free_ok X G (c.bool 13),
    He.free_ok X G (c.bool 14),
    He.glo_ok X G (c.bool 15),
    He.glo_ok X G (c.bool 16),
    He.glo_ok X G (c.bool 17),
    He.glo_ok X G (c.bool 18),
    He.glo_ok X G (c.bool 19),
    He.glo_ok X G (c.bool 20),
    He.glo_ok X G (c.bool 21),
    He.glo_ok X G (c.bool 22),
    He.glo_ok X G (c.bool 23),
    He.glo_ok X G (c.bool 24),
    He.glo_ok X G (c.bool 25),
    He.glo_ok X G (c.bool 26),
    He.glo_ok X G (c.bool 27),
    He.glo_ok X G (c.bool 28),
    He.glo_ok X G (c.bool 29),
    He.glo_ok X G (c.bool 30),
    He.glo_ok X G (c.bool 31),
    He.glo_ok X G (c.bool 32),
    He.glo_ok X G (c.bool 33),
    He.glo_ok X G (c.bool 34),
    He.glo_ok X G (c.bool 35),
    He.glo_ok X G (c.bool 36),
    FoB.oerr_ok (c.bool 37),
    FoX.kind_ok (c.bool 38),
    FoB.err_ok (c.bool 39),
    FoX.kind_ok (c.bool 40),
    FoB.err_ok (c.bool 41),
    FoX.kind_ok (c.bool 42),
    FoB.oerr_ok (c.bool 43),
    FoX.kind_ok (c.bool 44),
    FoB.oerr_ok (c.bool 45),
    FoX.kind_ok (c.bool 46),
    FoB.err_ok (c.bool 47),
    FoX.kind_ok (c.bool 48),
    FoB.oerr_ok (c.bool 49),
    FoX.kind_ok (c.bool 50),
    FoB.oerr_ok (c.bool 51),
    FoX.kind_ok (c.bool 52),
    FoB.err_ok (c.bool 53),
    FoX.kind_ok (c.bool 54),
    FoB.err_ok (c.bool 55),
    FoX.kind_ok (c.bool 56),
    FoB.err_ok (c.bool 57),
    FoX.kind_ok (c.bool 58),
    FoB.err_ok (c.bool 59),
    FoX.kind_ok (c.bool 60),
    FoB.err_ok (c.bool 61),
    FoX.kind_ok (c.bool 62),
    FoB.oerr_ok (c.bool 63),
    FoX.kind_ok (c.bool 64),
    FoB.oerr_ok (c.bool 65),
    FoX.kind_ok (c.bool 66),
    FoB.err_ok (c.bool 67),
    FoX.kind_ok (c.bool 68),
    FoB.err_ok (c.bool 69),
    FoX.kind_ok (c.bool 70),
    FoB.err_ok (c.bool 71),
    FoX.kind_ok (c.bool 72),
    FoB.err_ok (c.bool 73),
    FoX.kind_ok (c.bool 74),
    FoB.err_ok (c.bool 75),
    FoX.kind_ok (c.bool 76),
    FoB.err_ok (c.bool 77),
    FoX.kind_ok (c.bool 78)⟩⟩
end Fo

set_option maxHeartbeats 4100000
namespace Fo
open PySem PySem.Spec PyProof.Rows L2
/-! ### what the law's own helpers promise -/
/-- the drawing box at p, drawn from at most n times -/
def BoxAt (H : Hp) (p : Addr) (n : Nat) : Prop := ∃ x c sd : Int, H p = some (.lst [.int x, .int c, .int sd]) ∧ 0 ≤ x ∧ 0 ≤ c ∧ c ≤ n ∧ 0 ≤ sd ∧ sd ≤ 2 ^ 40
/-- all but the object at p stands as it stood -/
def But (p : Addr) (H H' : Hp) : Prop := ∀ b o, H b = some o → b ≠ p → H' b = some o
theorem But.refl (p : Addr) (H : Hp) : But p H H := fun _ _ h _ => h
theorem But.trans {p : Addr} {H H1 H2 : Hp} (a : But p H H1) (b : But p H1 H2) : But p H H2 := fun c o h n => b c o (a c o h n) n
theorem But.of_same {p : Addr} {H H' : Hp} (a : Same H H') : But p H H' := fun c o h _ => a c o h
theorem Same.upd {H : Hp} {p : Addr} {o : HO} (h : H p = none) : Same H (upd H p o) := fun b u e => by
  rw [upd_ne (ne_of_none e h)]
  exact e
theorem But.upd {H : Hp} {p : Addr} {o : HO} : But p H (upd H p o) := fun b u e n => by
  rw [upd_ne n]
  exact e
theorem SqT.same {K : PySem.W.Frag} {H H' : Hp} {a : Addr} {xs : List V} (e : Same H H') (h : H a = some (.tup xs)) : SqT K H' a xs := SqT.of (e _ _ h)
def spCell (K : PySem.W.Frag) : Sp := fun vs H Q _ => ∃ (a : Addr) (ns : List Int) (i : Nat), vs = [.ref a, .int i] ∧ SqL K H a (ns.map V.int) ∧ Q (.int (ns.getD i 0)) H
def spBox (K : PySem.W.Frag) : Sp := fun vs H Q _ => ∃ (a : Addr) (ns : List Int) (i : Nat), vs = [.ref a, .int i] ∧ SqL K H a (ns.map V.int) ∧ i ≤ 1000 ∧ ∀ p H', H p = none → Same H H' → BoxAt H' p 0 → Q (.ref p) H'
def spTake : Sp := fun vs H Q _ => ∃ (p : Addr) (m : Int) (n : Nat), vs = [.ref p, .int m] ∧ BoxAt H p n ∧ n ≤ 100000 ∧ 0 < m ∧ FoM.Sz 4000 m ∧
  ∀ d H', 0 ≤ d → d < m → BoxAt H' p (n + 1) → But p H H' → Q (.int d) H'
/-- a fraction's tuple -/
def FrAt (K : PySem.W.Frag) (H : Hp) (a : Addr) (u d : Int) : Prop := SqT K H a [.int u, .int d]
def spFrac : Sp := fun vs H Q _ => ∃ u d : Int, vs = [.int u, .int d] ∧ d ≠ 0 ∧ FoM.Sz 4000 d ∧ ∀ p, H p = none → Q (.ref p) (upd H p (.tup [.int (FoM.frN u d), .int (FoM.frD u d)]))
/-- two fractions, and what is reckoned of them -/
def sp2 (K : PySem.W.Frag) (N D : Int → Int → Int → Int → Int) : Sp := fun vs H Q _ => ∃ (a b : Addr) (u d v e : Int), vs = [.ref a, .ref b] ∧ FrAt K H a u d ∧ FrAt K H b v e ∧ d ≠ 0 ∧ e ≠ 0 ∧
  FoM.Sz 1900 u ∧ FoM.Sz 1900 d ∧ FoM.Sz 1900 v ∧ FoM.Sz 1900 e ∧ ∀ p, H p = none → Q (.ref p) (upd H p (.tup [.int (FoM.frN (N u d v e) (D u d v e)), .int (FoM.frD (N u d v e) (D u d v e))]))
abbrev spPlus (K : PySem.W.Frag) : Sp := sp2 K (fun u d v e => u * e + v * d) (fun _ d _ e => d * e)
abbrev spMinus (K : PySem.W.Frag) : Sp := sp2 K (fun u d v e => u * e - v * d) (fun _ d _ e => d * e)
abbrev spTimes (K : PySem.W.Frag) : Sp := sp2 K (fun u _ v _ => u * v) (fun _ d _ e => d * e)
def spLess (K : PySem.W.Frag) : Sp := fun vs H Q _ => ∃ (a b : Addr) (u d v e : Int), vs = [.ref a, .ref b] ∧ FrAt K H a u d ∧ FrAt K H b v e ∧
  FoM.Sz 1900 u ∧ FoM.Sz 1900 d ∧ FoM.Sz 1900 v ∧ FoM.Sz 1900 e ∧ Q (.bl (decide (u * e < v * d))) H
theorem pow18 : ((10 : Int) ^ (18 : Int).toNat) = 1000000000000000000 := by decide
theorem sz_of {n : Nat} {i : Int} (m : Int) (h : -m < i) (g : i < m) (e : m.natAbs ≤ 2 ^ n) : FoM.Sz n i := Nat.lt_of_lt_of_le (by omega) e
theorem pow3 (i : Int) : i ^ (3 : Int).toNat = i * i * i := by
  show i ^ 3 = _
  rw [Int.pow_succ, Int.pow_succ, Int.pow_succ, Int.pow_zero, Int.one_mul]
section
variable {P : Program} {w : World} {K : PySem.W.Frag} {mg : Str → Option Value} {base : Heap}
theorem ok_cell (T : Tx K mg) : FnOk P w K mg base CX0 1 (He.ga K "_law_cell") T.fd_cell ["_law_script", "_law_k"] (spCell K) := by
  refine T.F_cell.ok sc_cell (fun vs H Q E h => ?_) (fun cdv A outer s H vs Q E hr h => ?_)
  · obtain ⟨a, ns, i, rfl, _⟩ := h
    rfl
  · obtain ⟨a, ns, i, rfl, hS, q⟩ := h
    refine ⟨_, (pss_one (ps_ret (pe_ifExp (pt_cmpR op_lt (pv 1) (pe_callB call_len_seq (by rfl) T.z_len PySem.boot_len (pa_cons (pv 0) pa_nil)) (nomark _)) (pe_ix ix_list (pv 0) (pv 1) (fun _ _ => rfl)) pe_int))), ?_⟩
    refine ⟨_, rfl, _, rfl, a, _, rfl, .inl hS, _, _, rfl, rfl, _, rfl, ite2 (fun e => ?_) (fun e => ?_)⟩
    · have e1 : i < ns.length := by
        have e0 := of_decide_eq_true e
        rw [List.length_map] at e0
        omega
      refine ⟨_, rfl, _, rfl, a, _, _, _, rfl, rfl, hS, atI_nat (by rw [List.getElem?_map, List.getElem?_eq_getElem e1]; rfl), ?_⟩
      have e2 : ns.getD i 0 = ns[i] := by simp [List.getD, List.getElem?_eq_getElem e1]
      rw [← e2]
      exact q
    · have e1 : ¬ i < ns.length := fun z => e (decide_eq_true (by rw [List.length_map]; omega))
      have e2 : ns.getD i 0 = 0 := by simp [List.getD, List.getElem?_eq_none (Nat.le_of_not_lt e1)]
      rw [e2] at q
      exact q
theorem ok_box (T : Tx K mg) : FnOk P w K mg base CX0 2 (He.ga K "_law_box") T.fd_box ["_law_script", "_law_k"] (spBox K) := by
  refine T.F_box.ok sc_box (fun vs H Q E h => ?_) (fun cdv A outer s H vs Q E hr h => ?_)
  · obtain ⟨a, ns, i, rfl, _⟩ := h
    rfl
  · obtain ⟨a, ns, i, rfl, hS, hi, q⟩ := h
    refine ⟨_, (pss_one (ps_ret (pe_lst (pa_cons (pe_callB call_abs (by rfl) T.z_abs (by decide +kernel) (pa_cons (pe_callTy FoA.call_intI (by rfl) T.z_int (by decide +kernel) (pa_cons (pe_call (ok_cell T) (hr.mono (by decide)) (by rfl) T.g_cell T.F_cell.kp T.b_cell .nil pass0 (pa_cons (pv 0) (pa_cons (pv 1) pa_nil))) pa_nil)) pa_nil)) (pa_cons pe_int (pa_cons (pe_op op_add (pe_op op_mulW pe_int (pv 1)) pe_int) pa_nil)))))), ?_⟩
    refine ⟨_, rfl, _, rfl, a, ns, i, rfl, hS, _, rfl, _, rfl, _, rfl, _, _, rfl, rfl, FoM.Sz.mulok (n := 20) (m := 20) (sz_of 1000000 (by decide) (by decide) (by decide)) (sz_of 1000000 (by omega) (by omega) (by decide)), _, _, rfl, rfl, ?_⟩
    refine ⟨(by show 3 ≤ sizeLine; rw [sizeLine_eq]; decide), fun p hp => ?_⟩
    refine q p _ hp (Same.upd hp) ⟨_, _, _, upd_same, ?_, ?_, ?_, ?_, ?_⟩
    · split <;> omega
    · omega
    · omega
    · omega
    · omega
theorem ok_take (T : Tx K mg) : FnOk P w K mg base CX0 1 (He.ga K "_law_take") T.fd_take ["_law_box_here", "_law_many"] spTake := by
  refine T.F_take.ok sc_take (fun vs H Q E h => ?_) (fun cdv A outer s H vs Q E hr h => ?_)
  · obtain ⟨p, m, n, rfl, _⟩ := h
    rfl
  · obtain ⟨p, m, n, rfl, ⟨x, c, sd, hB, hx, hc, hcn, hs, hs2⟩, hn, hm, hz, q⟩ := h
    have hL : SqL K H p [.int x, .int c, .int sd] := SqL.of hB
    refine ⟨_, (pss_cons (ps_if (pt_cmpR op_ge (pe_ix ix_list (pv 0) pe_int (fun _ _ => rfl)) (pe_op FoA.op_powW pe_int pe_int) (nomark _)) (pss_cons (ps_set (i := 2) sc_take.nd rfl (.inl rfl) (pe_op op_mod (pe_callTy FoA.call_intI (by rfl) T.z_int (by decide +kernel) (pa_cons (pe_ix ix_list (pv 0) pe_int (fun _ _ => rfl)) pa_nil)) (pv 1)))
      (pss_cons (ps_asg (pe_op op_fdivW (pe_ix ix_list (pv 0) pe_int (fun _ _ => rfl)) (pv 1)) (pg_sub (pv 0) pe_int set_list))
      (pss_one (ps_ret (pv 2))))) pss_nil)
      (pss_cons (ps_asg (pe_op op_add (pe_ix ix_list (pv 0) pe_int (fun _ _ => rfl)) pe_int) (pg_sub (pv 0) pe_int set_list))
      (pss_cons (ps_set (i := 3) sc_take.nd rfl (.inl rfl) (pe_op op_mod (pe_op FoA.op_powW (pe_callTy FoA.call_intI (by rfl) T.z_int (by decide +kernel) (pa_cons (pe_op op_add (pe_op op_add (pe_op op_mulW (pe_op op_add (pe_ix ix_list (pv 0) pe_int (fun _ _ => rfl)) pe_int) pe_int) (pe_op op_mulW (pe_ix ix_list (pv 0) pe_int (fun _ _ => rfl)) pe_int)) (pe_ix ix_list (pv 0) pe_int (fun _ _ => rfl))) pa_nil)) pe_int) pe_int))
      (pss_cons (ps_set (i := 3) sc_take.nd rfl (.inl rfl) (pe_op op_mod (pe_op FoA.op_powW (pe_callTy FoA.call_intI (by rfl) T.z_int (by decide +kernel) (pa_cons (pe_op op_add (pv 3) (pe_op op_mulW (pe_ix ix_list (pv 0) pe_int (fun _ _ => rfl)) pe_int)) pa_nil)) pe_int) pe_int))
      (pss_one (ps_ret (pe_op op_mod (pe_callTy FoA.call_intI (by rfl) T.z_int (by decide +kernel) (pa_cons (pe_op op_fdivW (pv 3) pe_int) pa_nil)) (pv 1)))))))), ?_⟩
    refine ⟨_, rfl, _, _, _, _, rfl, rfl, hL, rfl, _, _, rfl, rfl, ⟨by decide, by decide, by decide⟩, _, _, rfl, rfl, _, rfl, ite2 (fun e => ?_) (fun e => ?_)⟩
    · -- a digit of the number itself
      have hdv : CDivW x m := wide_div hm hz (by decide) (by decide)
      refine ⟨_, rfl, _, _, _, _, rfl, rfl, hL, rfl, _, rfl, _, rfl, _, _, rfl, rfl, hm, ?_⟩
      refine ⟨_, rfl, _, _, _, _, rfl, rfl, hL, rfl, _, rfl, _, _, rfl, rfl, hdv, _, rfl, p, _, 0, 0, rfl, rfl, hB, rfl, ?_⟩
      refine ⟨_, rfl, q _ _ (Int.emod_nonneg _ (by omega)) (Int.emod_lt_of_pos _ hm) ⟨x / m, c, sd, upd_same, Int.ediv_nonneg hx (by omega), hc, by omega, hs, hs2⟩ But.upd⟩
    · have hx2 : x < 1000000000000000000 := by
        rw [pow18] at e
        have e2 := of_decide_eq_false (Bool.eq_false_iff.mpr e)
        omega
      -- counted up
      refine ⟨_, rfl, _, _, _, _, rfl, rfl, hL, rfl, _, _, rfl, rfl, _, rfl, p, _, 1, 1, rfl, rfl, hB, rfl, ?_⟩
      have hL1 : SqL K (upd H p (.lst [.int x, .int (c + 1), .int sd])) p [.int x, .int (c + 1), .int sd] := SqL.of upd_same
      refine ⟨_, rfl, _, _, _, _, rfl, rfl, hL1, rfl, _, _, rfl, rfl, _, _, rfl, rfl, FoM.Sz.mulok (n := 64) (m := 20) (sz_of 2000000000000000000 (by omega) (by omega) (by decide)) (sz_of 1000000 (by decide) (by decide) (by decide)),
        _, rfl, _, _, _, _, rfl, rfl, hL1, rfl, _, _, rfl, rfl, FoM.Sz.mulok (n := 20) (m := 20) (sz_of 1000000 (by omega) (by omega) (by decide)) (sz_of 1000000 (by decide) (by decide) (by decide)), _, _, rfl, rfl,
        _, rfl, _, _, _, _, rfl, rfl, hL1, rfl, _, _, rfl, rfl, _, rfl, _, _, rfl, rfl, ⟨by decide, by decide, ?_⟩, _, _, rfl, rfl, (by show (0 : Int) < 2147483647; decide), ?_⟩
      · exact sz_of (n := 1000) 1000000000000000000000000000000 (by omega) (by omega) (by decide)
      generalize hg : ((x + 7) * 69069 + (c + 1) * 40692 + sd) ^ (3 : Int).toNat % 2147483647 = g
      have g0 : 0 ≤ g := by
        rw [← hg]
        exact Int.emod_nonneg _ (by decide)
      have g1 : g < 2147483647 := by
        rw [← hg]
        exact Int.emod_lt_of_pos _ (by decide)
      refine ⟨_, rfl, _, rfl, _, _, _, _, rfl, rfl, hL1, rfl, _, _, rfl, rfl, FoM.Sz.mulok (n := 20) (m := 20) (sz_of 1000000 (by omega) (by omega) (by decide)) (sz_of 1000000 (by decide) (by decide) (by decide)), _, _, rfl, rfl, _, rfl, _, _, rfl, rfl, ⟨by decide, by decide, ?_⟩, _, _, rfl, rfl, (by show (0 : Int) < 2147483399; decide), ?_⟩
      · exact sz_of (n := 1000) 1000000000000000000000000000000 (by omega) (by omega) (by decide)
      generalize hk : (g + (c + 1) * 17389) ^ (3 : Int).toNat % 2147483399 = k
      have k0 : 0 ≤ k := by
        rw [← hk]
        exact Int.emod_nonneg _ (by decide)
      refine ⟨_, rfl, _, _, rfl, rfl, wide_div (b := 20) (by decide) (by decide) (by decide) (by decide), _, rfl, _, rfl, _, _, rfl, rfl, hm, ?_⟩
      exact q _ _ (Int.emod_nonneg _ (by omega)) (Int.emod_lt_of_pos _ hm) ⟨x, c + 1, sd, upd_same, hx, by omega, by omega, hs, hs2⟩ But.upd
end
/-! ### own errors -/
/-- X's own __init__ -/
def spIn (K : PySem.W.Frag) (x f : Str) : Sp := fun vs H Q _ => ∃ (a : Addr) (y : V), vs = [.ref a, y] ∧ H a = some (exo a (He.ga K x) none) ∧ ∀ dx, H dx = none → dx ≠ a → Q .non (upd (upd H dx (exd dx [(f, y)])) a (exo a (He.ga K x) (some dx)))
/-- an error of the class x stands at a, y kept under f -/
def KeptAt (K : PySem.W.Frag) (H : Hp) (a : Addr) (x f : Str) (y : V) : Prop := ∃ dx, H a = some (exo a (He.ga K x) (some dx)) ∧ H dx = some (exd dx [(f, y)])
theorem in_use {K : PySem.W.Frag} {x f : Str} {y : V} {vs : List V} {a : Addr} {H1 : Hp} {R : VK} {E : XK} (hv : vs = [.ref a, y]) (na : H1 a = none) (h : ∀ H', Same H1 H' → KeptAt K H' a x f y → R .non H') :
    spIn K x f vs (upd H1 a (exo a (He.ga K x) none)) R E := by
  refine ⟨a, y, hv, upd_same, fun dx nd ne => h _ (fun b o e => ?_) ⟨dx, upd_same, ?_⟩⟩
  · rw [upd_ne ne] at nd
    rw [upd_ne (ne_of_none e na), upd_ne (ne_of_none e nd), upd_ne (ne_of_none e na)]
    exact e
  · rw [upd_ne ne, upd_same]
section
variable {P : Program} {w : World} {K : PySem.W.Frag} {mg : Str → Option Value} {base : Heap}
theorem ok_BadNumber_init (T : Tx K mg) : FnOk P w K mg base CX0 1 (He.ma K (He.ga K "BadNumber") "__init__") T.fd_BadNumber_init ["self", "given"] (spIn K "BadNumber" "given") := by
  refine T.F_BadNumber_init.ok sc_BadNumber_init (fun vs H Q E h => ?_) (fun cdv A outer s H vs Q E hr h => ?_)
  · obtain ⟨a, y, rfl, _⟩ := h
    rfl
  · obtain ⟨a, y, rfl, ha, q⟩ := h
    refine ⟨_, (pss_one (ps_ost (pv 0) (pv 1))), ?_⟩
    exact ⟨_, rfl, _, rfl, a, _, rfl, T.e_BadNumber.ox, T.e_BadNumber.no, .inl ⟨ha, q⟩⟩
theorem kp_BadNumber (T : Tx K mg) : KBn K T.fd_BadNumber_init ["self", "given"] 2 [] (fun us ws => us ++ ws) (fun vs zs => vs ++ zs) :=
  FoC.kbn (fun us ws => us ++ ws) T.F_BadNumber_init (fun r1 r2 => r1.append r2) (fun kV doc pm an cdv ct us ws l1 l2 => match us, ws, l1, l2 with | [_, _], [], _, _ => rfl)
theorem kn_BadNumber (T : Tx K mg) : KBn K T.fd_BadNumber_init ["self", "given"] 1 ["given"] (fun us ws => us ++ ws) (fun vs zs => vs ++ zs) :=
  FoC.kbn (fun us ws => us ++ ws) T.F_BadNumber_init (fun r1 r2 => r1.append r2) (fun kV doc pm an cdv ct us ws l1 l2 => match us, ws, l1, l2 with | [_], [_], _, _ => rfl)
theorem ok_BadRow_init (T : Tx K mg) : FnOk P w K mg base CX0 1 (He.ma K (He.ga K "BadRow") "__init__") T.fd_BadRow_init ["self", "row"] (spIn K "BadRow" "row") := by
  refine T.F_BadRow_init.ok sc_BadRow_init (fun vs H Q E h => ?_) (fun cdv A outer s H vs Q E hr h => ?_)
  · obtain ⟨a, y, rfl, _⟩ := h
    rfl
  · obtain ⟨a, y, rfl, ha, q⟩ := h
    refine ⟨_, (pss_one (ps_ost (pv 0) (pv 1))), ?_⟩
    exact ⟨_, rfl, _, rfl, a, _, rfl, T.e_BadRow.ox, T.e_BadRow.no, .inl ⟨ha, q⟩⟩
theorem kp_BadRow (T : Tx K mg) : KBn K T.fd_BadRow_init ["self", "row"] 2 [] (fun us ws => us ++ ws) (fun vs zs => vs ++ zs) :=
  FoC.kbn (fun us ws => us ++ ws) T.F_BadRow_init (fun r1 r2 => r1.append r2) (fun kV doc pm an cdv ct us ws l1 l2 => match us, ws, l1, l2 with | [_, _], [], _, _ => rfl)
theorem kn_BadRow (T : Tx K mg) : KBn K T.fd_BadRow_init ["self", "row"] 1 ["row"] (fun us ws => us ++ ws) (fun vs zs => vs ++ zs) :=
  FoC.kbn (fun us ws => us ++ ws) T.F_BadRow_init (fun r1 r2 => r1.append r2) (fun kV doc pm an cdv ct us ws l1 l2 => match us, ws, l1, l2 with | [_], [_], _, _ => rfl)
theorem ok_NoLine_init (T : Tx K mg) : FnOk P w K mg base CX0 1 (He.ma K (He.ga K "NoLine") "__init__") T.fd_NoLine_init ["self", "name"] (spIn K "NoLine" "name") := by
  refine T.F_NoLine_init.ok sc_NoLine_init (fun vs H Q E h => ?_) (fun cdv A outer s H vs Q E hr h => ?_)
  · obtain ⟨a, y, rfl, _⟩ := h
    rfl
  · obtain ⟨a, y, rfl, ha, q⟩ := h
    refine ⟨_, (pss_one (ps_ost (pv 0) (pv 1))), ?_⟩
    exact ⟨_, rfl, _, rfl, a, _, rfl, T.e_NoLine.ox, T.e_NoLine.no, .inl ⟨ha, q⟩⟩
theorem kp_NoLine (T : Tx K mg) : KBn K T.fd_NoLine_init ["self", "name"] 2 [] (fun us ws => us ++ ws) (fun vs zs => vs ++ zs) :=
  FoC.kbn (fun us ws => us ++ ws) T.F_NoLine_init (fun r1 r2 => r1.append r2) (fun kV doc pm an cdv ct us ws l1 l2 => match us, ws, l1, l2 with | [_, _], [], _, _ => rfl)
theorem kn_NoLine (T : Tx K mg) : KBn K T.fd_NoLine_init ["self", "name"] 1 ["name"] (fun us ws => us ++ ws) (fun vs zs => vs ++ zs) :=
  FoC.kbn (fun us ws => us ++ ws) T.F_NoLine_init (fun r1 r2 => r1.append r2) (fun kV doc pm an cdv ct us ws l1 l2 => match us, ws, l1, l2 with | [_], [_], _, _ => rfl)
theorem ok_BadAnswer_init (T : Tx K mg) : FnOk P w K mg base CX0 1 (He.ma K (He.ga K "BadAnswer") "__init__") T.fd_BadAnswer_init ["self", "answer"] (spIn K "BadAnswer" "answer") := by
  refine T.F_BadAnswer_init.ok sc_BadAnswer_init (fun vs H Q E h => ?_) (fun cdv A outer s H vs Q E hr h => ?_)
  · obtain ⟨a, y, rfl, _⟩ := h
    rfl
  · obtain ⟨a, y, rfl, ha, q⟩ := h
    refine ⟨_, (pss_one (ps_ost (pv 0) (pv 1))), ?_⟩
    exact ⟨_, rfl, _, rfl, a, _, rfl, T.e_BadAnswer.ox, T.e_BadAnswer.no, .inl ⟨ha, q⟩⟩
theorem kp_BadAnswer (T : Tx K mg) : KBn K T.fd_BadAnswer_init ["self", "answer"] 2 [] (fun us ws => us ++ ws) (fun vs zs => vs ++ zs) :=
  FoC.kbn (fun us ws => us ++ ws) T.F_BadAnswer_init (fun r1 r2 => r1.append r2) (fun kV doc pm an cdv ct us ws l1 l2 => match us, ws, l1, l2 with | [_, _], [], _, _ => rfl)
theorem kn_BadAnswer (T : Tx K mg) : KBn K T.fd_BadAnswer_init ["self", "answer"] 1 ["answer"] (fun us ws => us ++ ws) (fun vs zs => vs ++ zs) :=
  FoC.kbn (fun us ws => us ++ ws) T.F_BadAnswer_init (fun r1 r2 => r1.append r2) (fun kV doc pm an cdv ct us ws l1 l2 => match us, ws, l1, l2 with | [_], [_], _, _ => rfl)
theorem ok_BadShare_init (T : Tx K mg) : FnOk P w K mg base CX0 1 (He.ma K (He.ga K "BadShare") "__init__") T.fd_BadShare_init ["self", "given"] (spIn K "BadShare" "given") := by
  refine T.F_BadShare_init.ok sc_BadShare_init (fun vs H Q E h => ?_) (fun cdv A outer s H vs Q E hr h => ?_)
  · obtain ⟨a, y, rfl, _⟩ := h
    rfl
  · obtain ⟨a, y, rfl, ha, q⟩ := h
    refine ⟨_, (pss_one (ps_ost (pv 0) (pv 1))), ?_⟩
    exact ⟨_, rfl, _, rfl, a, _, rfl, T.e_BadShare.ox, T.e_BadShare.no, .inl ⟨ha, q⟩⟩
theorem kp_BadShare (T : Tx K mg) : KBn K T.fd_BadShare_init ["self", "given"] 2 [] (fun us ws => us ++ ws) (fun vs zs => vs ++ zs) :=
  FoC.kbn (fun us ws => us ++ ws) T.F_BadShare_init (fun r1 r2 => r1.append r2) (fun kV doc pm an cdv ct us ws l1 l2 => match us, ws, l1, l2 with | [_, _], [], _, _ => rfl)
theorem kn_BadShare (T : Tx K mg) : KBn K T.fd_BadShare_init ["self", "given"] 1 ["given"] (fun us ws => us ++ ws) (fun vs zs => vs ++ zs) :=
  FoC.kbn (fun us ws => us ++ ws) T.F_BadShare_init (fun r1 r2 => r1.append r2) (fun kV doc pm an cdv ct us ws l1 l2 => match us, ws, l1, l2 with | [_], [_], _, _ => rfl)
theorem ok_Never_init (T : Tx K mg) : FnOk P w K mg base CX0 1 (He.ma K (He.ga K "Never") "__init__") T.fd_Never_init ["self", "answer"] (spIn K "Never" "answer") := by
  refine T.F_Never_init.ok sc_Never_init (fun vs H Q E h => ?_) (fun cdv A outer s H vs Q E hr h => ?_)
  · obtain ⟨a, y, rfl, _⟩ := h
    rfl
  · obtain ⟨a, y, rfl, ha, q⟩ := h
    refine ⟨_, (pss_one (ps_ost (pv 0) (pv 1))), ?_⟩
    exact ⟨_, rfl, _, rfl, a, _, rfl, T.e_Never.ox, T.e_Never.no, .inl ⟨ha, q⟩⟩
theorem kp_Never (T : Tx K mg) : KBn K T.fd_Never_init ["self", "answer"] 2 [] (fun us ws => us ++ ws) (fun vs zs => vs ++ zs) :=
  FoC.kbn (fun us ws => us ++ ws) T.F_Never_init (fun r1 r2 => r1.append r2) (fun kV doc pm an cdv ct us ws l1 l2 => match us, ws, l1, l2 with | [_, _], [], _, _ => rfl)
theorem kn_Never (T : Tx K mg) : KBn K T.fd_Never_init ["self", "answer"] 1 ["answer"] (fun us ws => us ++ ws) (fun vs zs => vs ++ zs) :=
  FoC.kbn (fun us ws => us ++ ws) T.F_Never_init (fun r1 r2 => r1.append r2) (fun kV doc pm an cdv ct us ws l1 l2 => match us, ws, l1, l2 with | [_], [_], _, _ => rfl)
theorem ok_BadLine_init (T : Tx K mg) : FnOk P w K mg base CX0 1 (He.ma K (He.ga K "BadLine") "__init__") T.fd_BadLine_init ["self", "line"] (spIn K "BadLine" "line") := by
  refine T.F_BadLine_init.ok sc_BadLine_init (fun vs H Q E h => ?_) (fun cdv A outer s H vs Q E hr h => ?_)
  · obtain ⟨a, y, rfl, _⟩ := h
    rfl
  · obtain ⟨a, y, rfl, ha, q⟩ := h
    refine ⟨_, (pss_one (ps_ost (pv 0) (pv 1))), ?_⟩
    exact ⟨_, rfl, _, rfl, a, _, rfl, T.e_BadLine.ox, T.e_BadLine.no, .inl ⟨ha, q⟩⟩
theorem kp_BadLine (T : Tx K mg) : KBn K T.fd_BadLine_init ["self", "line"] 2 [] (fun us ws => us ++ ws) (fun vs zs => vs ++ zs) :=
  FoC.kbn (fun us ws => us ++ ws) T.F_BadLine_init (fun r1 r2 => r1.append r2) (fun kV doc pm an cdv ct us ws l1 l2 => match us, ws, l1, l2 with | [_, _], [], _, _ => rfl)
theorem kn_BadLine (T : Tx K mg) : KBn K T.fd_BadLine_init ["self", "line"] 1 ["line"] (fun us ws => us ++ ws) (fun vs zs => vs ++ zs) :=
  FoC.kbn (fun us ws => us ++ ws) T.F_BadLine_init (fun r1 r2 => r1.append r2) (fun kV doc pm an cdv ct us ws l1 l2 => match us, ws, l1, l2 with | [_], [_], _, _ => rfl)
end

end Fo

set_option maxHeartbeats 4100000
namespace Fo
open PySem PySem.Spec PyProof.Rows L2
/-! ### the kinds of an error -/
def spSame (K : PySem.W.Frag) : Sp := fun vs H Q _ => ∃ (v : V) (t : Value) (b : Bool), vs = [v, v] ∧ FoX.Sho2 H v ∧ TyX K H v t ∧ PySem.W.kitOne K t (.type "bool") = some b ∧ Q (.bl true) H
def spKinds (K : PySem.W.Frag) : Sp := fun vs H Q _ => ∃ (a : Addr) (x : Str), vs = [.ref a] ∧ x ∈ names ∧ FoX.ErrAt H a (He.ga K x) ∧ ∀ H', Same H H' → Q (.int 1) H'
def row (x : Str) : List Bool := [decide (x = "BadAnswer"), decide (x = "BadBeam"), decide (x = "BadCounts"), decide (x = "BadLine"), decide (x = "BadNumber"), decide (x = "BadRoot"), decide (x = "BadRow"), decide (x = "BadShare"), decide (x = "BadStretch"), decide (x = "BadTable"), decide (x = "BadText"), decide (x = "ByZero"), decide (x = "Clash"), decide (x = "Never"), decide (x = "NoLine"), decide (x = "NotFilter"), decide (x = "NothingToRedo"), decide (x = "NothingToUndo"), decide (x = "NotMirror"), decide (x = "UnlikeTables"), decide (x = "ZeroPolynomial")]
theorem row_one : ∀ x ∈ names, ((row x).filter id).length = 1 := by decide +kernel
/-- the trues of a list, kept by a comprehension -/
def BT (xs : List Bool) (H : Hp) (D : Addr) (i : Nat) (H2 : Hp) : Prop := Same H H2 ∧ H2 D = some (.lst (((xs.take i).filter id).map V.bl))
theorem BT.step {xs : List Bool} {H : Hp} {D : Addr} {i : Nat} {H2 : Hp} {b : Bool} (nD : H D = none) (h : BT xs H D i H2) (e : xs[i]? = some b) (hl : xs.length ≤ 100) :
    if b = true then ∃ acc, H2 D = some (.lst acc) ∧ acc.length < sizeLine ∧ BT xs H D (i + 1) (upd H2 D (.lst (acc ++ [V.bl b]))) else BT xs H D (i + 1) H2 := by
  have et : xs.take (i + 1) = xs.take i ++ [b] := by
    rw [List.take_add_one, e]
    rfl
  cases b with
  | true =>
    refine iteT ⟨_, h.2, ?_, fun c o z => ?_, ?_⟩
    · have l1 := List.length_filter_le id (xs.take i)
      have l2 := List.length_take_le' i xs
      rw [List.length_map, sizeLine_eq]
      omega
    · rw [upd_ne (ne_of_none z nD)]
      exact h.1 _ _ z
    · rw [upd_same, et, List.filter_append, List.map_append]
      rfl
  | false =>
    refine iteF ⟨h.1, ?_⟩
    rw [et, List.filter_append, List.map_append, h.2]
    simp
section
variable {P : Program} {w : World} {K : PySem.W.Frag} {mg : Str → Option Value} {base : Heap}
theorem kinds_all (T : Tx K mg) : ∀ x ∈ names, FoX.Kind x names ["FilterError"] ["ValueError"] K := by
  intro x hx
  simp only [names, List.mem_cons, List.not_mem_nil, or_false] at hx
  rcases hx with rfl | rfl | rfl | rfl | rfl | rfl | rfl | rfl | rfl | rfl | rfl | rfl | rfl | rfl | rfl | rfl | rfl | rfl | rfl | rfl | rfl
  · exact T.k_BadAnswer
  · exact T.k_BadBeam
  · exact T.k_BadCounts
  · exact T.k_BadLine
  · exact T.k_BadNumber
  · exact T.k_BadRoot
  · exact T.k_BadRow
  · exact T.k_BadShare
  · exact T.k_BadStretch
  · exact T.k_BadTable
  · exact T.k_BadText
  · exact T.k_ByZero
  · exact T.k_Clash
  · exact T.k_Never
  · exact T.k_NoLine
  · exact T.k_NotFilter
  · exact T.k_NothingToRedo
  · exact T.k_NothingToUndo
  · exact T.k_NotMirror
  · exact T.k_UnlikeTables
  · exact T.k_ZeroPolynomial
theorem ok_same (T : Tx K mg) : FnOk P w K mg base CX0 1 (He.ga K "_law_same") T.fd_same ["_law_one", "_law_other"] (spSame K) := by
  refine T.F_same.ok sc_same (fun vs H Q E h => ?_) (fun cdv A outer s H vs Q E hr h => ?_)
  · obtain ⟨v, t, b, rfl, _⟩ := h
    rfl
  · obtain ⟨v, t, b, rfl, hv, ht, hb, q⟩ := h
    refine ⟨_, (pss_one (ps_ret (FoR.pe_gd fun gg => (pe_and (pe_cmpR op_eq (pe_callB (FoX.call_rep2 (g := gg) rfl (by have z := hu_of hr; exact z)) (by rfl) T.z_repr (by decide +kernel) (pa_cons (pv 0) pa_nil)) (pe_callB (FoX.call_rep2 (g := gg) rfl (by have z := hu_of hr; exact z)) (by rfl) T.z_repr (by decide +kernel) (pa_cons (pv 1) pa_nil)) (nomark _)) (pe_one (pe_cmpR op_eq (pe_callB call_isi (by rfl) T.z_isinstance (by decide +kernel) (pa_cons (pv 0) (pa_cons (pe_bltn (v := V.ty "bool") (u := Value.type "bool") (by rfl) T.z_bool (by decide +kernel) rfl) pa_nil))) (pe_callB call_isi (by rfl) T.z_isinstance (by decide +kernel) (pa_cons (pv 1) (pa_cons (pe_bltn (v := V.ty "bool") (u := Value.type "bool") (by rfl) T.z_bool (by decide +kernel) rfl) pa_nil))) (nomark _))))))), ?_⟩
    intro gg
    refine ⟨_, rfl, v, rfl, hv, _, rfl, v, rfl, hv, rfl, true, ?_, iteT ?_⟩
    · rw [decide_eq_true rfl]
    refine ⟨_, rfl, v, _, t, _, b, rfl, .ty _, ht, hb, _, rfl, v, _, t, _, b, rfl, .ty _, ht, hb, rfl, ?_⟩
    rw [decide_eq_true rfl]
    exact q
theorem ok_kinds (T : Tx K mg) : FnOk P w K mg base CX0 1 (He.ga K "_law_kinds") T.fd_kinds ["_law_e"] (spKinds K) := by
  refine T.F_kinds.ok sc_kinds (fun vs H Q E h => ?_) (fun cdv A outer s H vs Q E hr h => ?_)
  · obtain ⟨a, x, rfl, _⟩ := h
    rfl
  · obtain ⟨a, x, rfl, hx, hE, q⟩ := h
    have kd := kinds_all T x hx
    refine ⟨_, (pss_cons (ps_set (i := 1) sc_kinds.nd rfl (.inl rfl) (pe_lst (pa_cons (pe_callB FoX.call_isX (by rfl) T.z_isinstance (by decide +kernel) (pa_cons (pv 0) (pa_cons (pe_glob (v := V.ref (He.ga K "BadAnswer")) (by rfl) T.c_BadAnswer rfl) pa_nil))) (pa_cons (pe_callB FoX.call_isX (by rfl) T.z_isinstance (by decide +kernel) (pa_cons (pv 0) (pa_cons (pe_glob (v := V.ref (He.ga K "BadBeam")) (by rfl) T.c_BadBeam rfl) pa_nil))) (pa_cons (pe_callB FoX.call_isX (by rfl) T.z_isinstance (by decide +kernel) (pa_cons (pv 0) (pa_cons (pe_glob (v := V.ref (He.ga K "BadCounts")) (by rfl) T.c_BadCounts rfl) pa_nil))) pa_nil)))))
      (pss_cons (ps_set (i := 1) sc_kinds.nd rfl (.inl rfl) (pe_op op_cat (pv 1) (pe_lst (pa_cons (pe_callB FoX.call_isX (by rfl) T.z_isinstance (by decide +kernel) (pa_cons (pv 0) (pa_cons (pe_glob (v := V.ref (He.ga K "BadLine")) (by rfl) T.c_BadLine rfl) pa_nil))) (pa_cons (pe_callB FoX.call_isX (by rfl) T.z_isinstance (by decide +kernel) (pa_cons (pv 0) (pa_cons (pe_glob (v := V.ref (He.ga K "BadNumber")) (by rfl) T.c_BadNumber rfl) pa_nil))) (pa_cons (pe_callB FoX.call_isX (by rfl) T.z_isinstance (by decide +kernel) (pa_cons (pv 0) (pa_cons (pe_glob (v := V.ref (He.ga K "BadRoot")) (by rfl) T.c_BadRoot rfl) pa_nil))) pa_nil))))))
      (pss_cons (ps_set (i := 1) sc_kinds.nd rfl (.inl rfl) (pe_op op_cat (pv 1) (pe_lst (pa_cons (pe_callB FoX.call_isX (by rfl) T.z_isinstance (by decide +kernel) (pa_cons (pv 0) (pa_cons (pe_glob (v := V.ref (He.ga K "BadRow")) (by rfl) T.c_BadRow rfl) pa_nil))) (pa_cons (pe_callB FoX.call_isX (by rfl) T.z_isinstance (by decide +kernel) (pa_cons (pv 0) (pa_cons (pe_glob (v := V.ref (He.ga K "BadShare")) (by rfl) T.c_BadShare rfl) pa_nil))) (pa_cons (pe_callB FoX.call_isX (by rfl) T.z_isinstance (by decide +kernel) (pa_cons (pv 0) (pa_cons (pe_glob (v := V.ref (He.ga K "BadStretch")) (by rfl) T.c_BadStretch rfl) pa_nil))) pa_nil))))))
      (pss_cons (ps_set (i := 1) sc_kinds.nd rfl (.inl rfl) (pe_op op_cat (pv 1) (pe_lst (pa_cons (pe_callB FoX.call_isX (by rfl) T.z_isinstance (by decide +kernel) (pa_cons (pv 0) (pa_cons (pe_glob (v := V.ref (He.ga K "BadTable")) (by rfl) T.c_BadTable rfl) pa_nil))) (pa_cons (pe_callB FoX.call_isX (by rfl) T.z_isinstance (by decide +kernel) (pa_cons (pv 0) (pa_cons (pe_glob (v := V.ref (He.ga K "BadText")) (by rfl) T.c_BadText rfl) pa_nil))) (pa_cons (pe_callB FoX.call_isX (by rfl) T.z_isinstance (by decide +kernel) (pa_cons (pv 0) (pa_cons (pe_glob (v := V.ref (He.ga K "ByZero")) (by rfl) T.c_ByZero rfl) pa_nil))) pa_nil))))))
      (pss_cons (ps_set (i := 1) sc_kinds.nd rfl (.inl rfl) (pe_op op_cat (pv 1) (pe_lst (pa_cons (pe_callB FoX.call_isX (by rfl) T.z_isinstance (by decide +kernel) (pa_cons (pv 0) (pa_cons (pe_glob (v := V.ref (He.ga K "Clash")) (by rfl) T.c_Clash rfl) pa_nil))) (pa_cons (pe_callB FoX.call_isX (by rfl) T.z_isinstance (by decide +kernel) (pa_cons (pv 0) (pa_cons (pe_glob (v := V.ref (He.ga K "Never")) (by rfl) T.c_Never rfl) pa_nil))) (pa_cons (pe_callB FoX.call_isX (by rfl) T.z_isinstance (by decide +kernel) (pa_cons (pv 0) (pa_cons (pe_glob (v := V.ref (He.ga K "NoLine")) (by rfl) T.c_NoLine rfl) pa_nil))) pa_nil))))))
      (pss_cons (ps_set (i := 1) sc_kinds.nd rfl (.inl rfl) (pe_op op_cat (pv 1) (pe_lst (pa_cons (pe_callB FoX.call_isX (by rfl) T.z_isinstance (by decide +kernel) (pa_cons (pv 0) (pa_cons (pe_glob (v := V.ref (He.ga K "NotFilter")) (by rfl) T.c_NotFilter rfl) pa_nil))) (pa_cons (pe_callB FoX.call_isX (by rfl) T.z_isinstance (by decide +kernel) (pa_cons (pv 0) (pa_cons (pe_glob (v := V.ref (He.ga K "NothingToRedo")) (by rfl) T.c_NothingToRedo rfl) pa_nil))) (pa_cons (pe_callB FoX.call_isX (by rfl) T.z_isinstance (by decide +kernel) (pa_cons (pv 0) (pa_cons (pe_glob (v := V.ref (He.ga K "NothingToUndo")) (by rfl) T.c_NothingToUndo rfl) pa_nil))) pa_nil))))))
      (pss_cons (ps_set (i := 1) sc_kinds.nd rfl (.inl rfl) (pe_op op_cat (pv 1) (pe_lst (pa_cons (pe_callB FoX.call_isX (by rfl) T.z_isinstance (by decide +kernel) (pa_cons (pv 0) (pa_cons (pe_glob (v := V.ref (He.ga K "NotMirror")) (by rfl) T.c_NotMirror rfl) pa_nil))) (pa_cons (pe_callB FoX.call_isX (by rfl) T.z_isinstance (by decide +kernel) (pa_cons (pv 0) (pa_cons (pe_glob (v := V.ref (He.ga K "UnlikeTables")) (by rfl) T.c_UnlikeTables rfl) pa_nil))) (pa_cons (pe_callB FoX.call_isX (by rfl) T.z_isinstance (by decide +kernel) (pa_cons (pv 0) (pa_cons (pe_glob (v := V.ref (He.ga K "ZeroPolynomial")) (by rfl) T.c_ZeroPolynomial rfl) pa_nil))) pa_nil))))))
      (pss_one (ps_ret (pe_callB call_len_seq (by rfl) T.z_len PySem.boot_len (pa_cons (pe_lc (own := [("_law_bit", 2)]) (g := gName 2) rfl sc_kinds.nd (pi_list (pv 1)) (blkOk_by (own := [("_law_bit", 2)]) (N := ["_law_e", "_law_found", "_law_bit"]) (sc := defScope s_kinds) (by decide +kernel)) (fun _ _ _ _ _ => (pg_name (i := 2) sc_kinds.nd rfl (.inl rfl))) (fun _ _ _ _ _ => (pts_one (pt_val (pv 2)))) (fun _ _ _ _ _ => (pv 2))) pa_nil))))))))))), ?_⟩
    refine ⟨_, rfl, a, _, _, _, _, rfl, .own _, hE, kd.ec, kd.al "BadAnswer" (by decide), _, rfl, a, _, _, _, _, rfl, .own _, hE, kd.ec, kd.al "BadBeam" (by decide), _, rfl, a, _, _, _, _, rfl, .own _, hE, kd.ec, kd.al "BadCounts" (by decide), (by show 3 ≤ sizeLine; rw [sizeLine_eq]; decide), fun p0 n0 => ?_⟩
    have s0 : Same H _ := Same.upd n0 (o := .lst [V.bl (decide (x = "BadAnswer")), V.bl (decide (x = "BadBeam")), V.bl (decide (x = "BadCounts"))])
    refine ⟨_, rfl, _, rfl, a, _, _, _, _, rfl, .own _, (hE.same s0), kd.ec, kd.al "BadLine" (by decide), _, rfl, a, _, _, _, _, rfl, .own _, (hE.same s0), kd.ec, kd.al "BadNumber" (by decide), _, rfl, a, _, _, _, _, rfl, .own _, (hE.same s0), kd.ec, kd.al "BadRoot" (by decide), (by show 3 ≤ sizeLine; rw [sizeLine_eq]; decide), fun q1 m1 => ⟨p0, q1, _, _, rfl, rfl, (Same.upd m1) _ _ upd_same, upd_same, (by show 6 ≤ sizeLine; rw [sizeLine_eq]; decide), fun p1 n1 => ?_⟩⟩
    have s1 := s0.trans ((Same.upd m1 (o := .lst [V.bl (decide (x = "BadLine")), V.bl (decide (x = "BadNumber")), V.bl (decide (x = "BadRoot"))])).trans (Same.upd n1 (o := .lst [V.bl (decide (x = "BadAnswer")), V.bl (decide (x = "BadBeam")), V.bl (decide (x = "BadCounts")), V.bl (decide (x = "BadLine")), V.bl (decide (x = "BadNumber")), V.bl (decide (x = "BadRoot"))])))
    refine ⟨_, rfl, _, rfl, a, _, _, _, _, rfl, .own _, (hE.same s1), kd.ec, kd.al "BadRow" (by decide), _, rfl, a, _, _, _, _, rfl, .own _, (hE.same s1), kd.ec, kd.al "BadShare" (by decide), _, rfl, a, _, _, _, _, rfl, .own _, (hE.same s1), kd.ec, kd.al "BadStretch" (by decide), (by show 3 ≤ sizeLine; rw [sizeLine_eq]; decide), fun q2 m2 => ⟨p1, q2, _, _, rfl, rfl, (Same.upd m2) _ _ upd_same, upd_same, (by show 9 ≤ sizeLine; rw [sizeLine_eq]; decide), fun p2 n2 => ?_⟩⟩
    have s2 := s1.trans ((Same.upd m2 (o := .lst [V.bl (decide (x = "BadRow")), V.bl (decide (x = "BadShare")), V.bl (decide (x = "BadStretch"))])).trans (Same.upd n2 (o := .lst [V.bl (decide (x = "BadAnswer")), V.bl (decide (x = "BadBeam")), V.bl (decide (x = "BadCounts")), V.bl (decide (x = "BadLine")), V.bl (decide (x = "BadNumber")), V.bl (decide (x = "BadRoot")), V.bl (decide (x = "BadRow")), V.bl (decide (x = "BadShare")), V.bl (decide (x = "BadStretch"))])))
    refine ⟨_, rfl, _, rfl, a, _, _, _, _, rfl, .own _, (hE.same s2), kd.ec, kd.al "BadTable" (by decide), _, rfl, a, _, _, _, _, rfl, .own _, (hE.same s2), kd.ec, kd.al "BadText" (by decide), _, rfl, a, _, _, _, _, rfl, .own _, (hE.same s2), kd.ec, kd.al "ByZero" (by decide), (by show 3 ≤ sizeLine; rw [sizeLine_eq]; decide), fun q3 m3 => ⟨p2, q3, _, _, rfl, rfl, (Same.upd m3) _ _ upd_same, upd_same, (by show 12 ≤ sizeLine; rw [sizeLine_eq]; decide), fun p3 n3 => ?_⟩⟩
    have s3 := s2.trans ((Same.upd m3 (o := .lst [V.bl (decide (x = "BadTable")), V.bl (decide (x = "BadText")), V.bl (decide (x = "ByZero"))])).trans (Same.upd n3 (o := .lst [V.bl (decide (x = "BadAnswer")), V.bl (decide (x = "BadBeam")), V.bl (decide (x = "BadCounts")), V.bl (decide (x = "BadLine")), V.bl (decide (x = "BadNumber")), V.bl (decide (x = "BadRoot")), V.bl (decide (x = "BadRow")), V.bl (decide (x = "BadShare")), V.bl (decide (x = "BadStretch")), V.bl (decide (x = "BadTable")), V.bl (decide (x = "BadText")), V.bl (decide (x = "ByZero"))])))
    refine ⟨_, rfl, _, rfl, a, _, _, _, _, rfl, .own _, (hE.same s3), kd.ec, kd.al "Clash" (by decide), _, rfl, a, _, _, _, _, rfl, .own _, (hE.same s3), kd.ec, kd.al "Never" (by decide), _, rfl, a, _, _, _, _, rfl, .own _, (hE.same s3), kd.ec, kd.al "NoLine" (by decide), (by show 3 ≤ sizeLine; rw [sizeLine_eq]; decide), fun q4 m4 => ⟨p3, q4, _, _, rfl, rfl, (Same.upd m4) _ _ upd_same, upd_same, (by show 15 ≤ sizeLine; rw [sizeLine_eq]; decide), fun p4 n4 => ?_⟩⟩
    have s4 := s3.trans ((Same.upd m4 (o := .lst [V.bl (decide (x = "Clash")), V.bl (decide (x = "Never")), V.bl (decide (x = "NoLine"))])).trans (Same.upd n4 (o := .lst [V.bl (decide (x = "BadAnswer")), V.bl (decide (x = "BadBeam")), V.bl (decide (x = "BadCounts")), V.bl (decide (x = "BadLine")), V.bl (decide (x = "BadNumber")), V.bl (decide (x = "BadRoot")), V.bl (decide (x = "BadRow")), V.bl (decide (x = "BadShare")), V.bl (decide (x = "BadStretch")), V.bl (decide (x = "BadTable")), V.bl (decide (x = "BadText")), V.bl (decide (x = "ByZero")), V.bl (decide (x = "Clash")), V.bl (decide (x = "Never")), V.bl (decide (x = "NoLine"))])))
    refine ⟨_, rfl, _, rfl, a, _, _, _, _, rfl, .own _, (hE.same s4), kd.ec, kd.al "NotFilter" (by decide), _, rfl, a, _, _, _, _, rfl, .own _, (hE.same s4), kd.ec, kd.al "NothingToRedo" (by decide), _, rfl, a, _, _, _, _, rfl, .own _, (hE.same s4), kd.ec, kd.al "NothingToUndo" (by decide), (by show 3 ≤ sizeLine; rw [sizeLine_eq]; decide), fun q5 m5 => ⟨p4, q5, _, _, rfl, rfl, (Same.upd m5) _ _ upd_same, upd_same, (by show 18 ≤ sizeLine; rw [sizeLine_eq]; decide), fun p5 n5 => ?_⟩⟩
    have s5 := s4.trans ((Same.upd m5 (o := .lst [V.bl (decide (x = "NotFilter")), V.bl (decide (x = "NothingToRedo")), V.bl (decide (x = "NothingToUndo"))])).trans (Same.upd n5 (o := .lst [V.bl (decide (x = "BadAnswer")), V.bl (decide (x = "BadBeam")), V.bl (decide (x = "BadCounts")), V.bl (decide (x = "BadLine")), V.bl (decide (x = "BadNumber")), V.bl (decide (x = "BadRoot")), V.bl (decide (x = "BadRow")), V.bl (decide (x = "BadShare")), V.bl (decide (x = "BadStretch")), V.bl (decide (x = "BadTable")), V.bl (decide (x = "BadText")), V.bl (decide (x = "ByZero")), V.bl (decide (x = "Clash")), V.bl (decide (x = "Never")), V.bl (decide (x = "NoLine")), V.bl (decide (x = "NotFilter")), V.bl (decide (x = "NothingToRedo")), V.bl (decide (x = "NothingToUndo"))])))
    refine ⟨_, rfl, _, rfl, a, _, _, _, _, rfl, .own _, (hE.same s5), kd.ec, kd.al "NotMirror" (by decide), _, rfl, a, _, _, _, _, rfl, .own _, (hE.same s5), kd.ec, kd.al "UnlikeTables" (by decide), _, rfl, a, _, _, _, _, rfl, .own _, (hE.same s5), kd.ec, kd.al "ZeroPolynomial" (by decide), (by show 3 ≤ sizeLine; rw [sizeLine_eq]; decide), fun q6 m6 => ⟨p5, q6, _, _, rfl, rfl, (Same.upd m6) _ _ upd_same, upd_same, (by show 21 ≤ sizeLine; rw [sizeLine_eq]; decide), fun p6 n6 => ?_⟩⟩
    have s6 := s5.trans ((Same.upd m6 (o := .lst [V.bl (decide (x = "NotMirror")), V.bl (decide (x = "UnlikeTables")), V.bl (decide (x = "ZeroPolynomial"))])).trans (Same.upd n6 (o := .lst [V.bl (decide (x = "BadAnswer")), V.bl (decide (x = "BadBeam")), V.bl (decide (x = "BadCounts")), V.bl (decide (x = "BadLine")), V.bl (decide (x = "BadNumber")), V.bl (decide (x = "BadRoot")), V.bl (decide (x = "BadRow")), V.bl (decide (x = "BadShare")), V.bl (decide (x = "BadStretch")), V.bl (decide (x = "BadTable")), V.bl (decide (x = "BadText")), V.bl (decide (x = "ByZero")), V.bl (decide (x = "Clash")), V.bl (decide (x = "Never")), V.bl (decide (x = "NoLine")), V.bl (decide (x = "NotFilter")), V.bl (decide (x = "NothingToRedo")), V.bl (decide (x = "NothingToUndo")), V.bl (decide (x = "NotMirror")), V.bl (decide (x = "UnlikeTables")), V.bl (decide (x = "ZeroPolynomial"))])))
    refine ⟨_, rfl, p6, rfl, ⟨_, SqL.of upd_same⟩, fun D nD => ?_⟩
    refine lc_list (xs := (row x).map V.bl) (BT (row x) _ D) ⟨Same.upd nD, upd_same⟩ (fun i H3 hi h => SqL.of (h.1 _ _ upd_same)) (fun i v H3 ev h => ?_) (fun H3 h => ?_)
    · rw [List.getElem?_map] at ev
      obtain ⟨b, eb, rfl⟩ := Option.map_eq_some_iff.mp ev
      refine ⟨rfl, _, rfl, b, rfl, ?_⟩
      have z := BT.step nD h eb (by show 21 ≤ 100; decide)
      cases b with
      | true =>
        obtain ⟨acc, h1, h2, h3⟩ := (show ∃ acc, H3 D = some (.lst acc) ∧ acc.length < sizeLine ∧ BT (row x) _ D (i + 1) (upd H3 D (.lst (acc ++ [V.bl true]))) from z)
        exact iteT ⟨_, rfl, acc, h1, h2, h3⟩
      | false => exact iteF (show BT (row x) _ D (i + 1) H3 from z)
    · have el : ((((row x).take ((row x).map V.bl).length).filter id).map V.bl).length = 1 := by
        rw [List.length_map, List.length_map, List.take_length]
        exact row_one x hx
      refine ⟨D, _, rfl, .inl (SqL.of h.2), ?_⟩
      rw [el]
      exact q _ (s6.trans h.1)
end

end Fo

set_option maxHeartbeats 4100000
namespace Fo
open PySem PySem.Spec PyProof.Rows L2
/-! ### all errors -/
theorem KeptAt.err {K : PySem.W.Frag} {H : Hp} {a : Addr} {x f : Str} {y : V} (h : KeptAt K H a x f y) : FoX.ErrAt H a (He.ga K x) := by
  obtain ⟨dx, h1, h2⟩ := h
  exact .inr ⟨dx, _, h1, h2⟩
/-- errors of the named classes, all of them -/
def AllE (K : PySem.W.Frag) (H : Hp) (ws : List V) : Prop := ∀ v ∈ ws, ∃ a x, v = .ref a ∧ x ∈ names ∧ FoX.ErrAt H a (He.ga K x)
theorem AllE.nil {K : PySem.W.Frag} {H : Hp} : AllE K H [] := fun _ h => nomatch h
theorem AllE.nil_of {K : PySem.W.Frag} {H : Hp} {ws : List V} (h : AllE K H ws) : AllE K H [] := .nil
theorem AllE.same {K : PySem.W.Frag} {H H' : Hp} {ws : List V} (h : AllE K H ws) (e : Same H H') : AllE K H' ws := fun v hv => by
  obtain ⟨a, x, q, hx, hE⟩ := h v hv
  exact ⟨a, x, q, hx, hE.same e⟩
theorem AllE.append {K : PySem.W.Frag} {H : Hp} {ws us : List V} (h : AllE K H ws) (g : AllE K H us) : AllE K H (ws ++ us) := fun v hv => (List.mem_append.mp hv).elim (h v) (g v)
theorem AllE.snoc {K : PySem.W.Frag} {H : Hp} {ws : List V} {a : Addr} {x : Str} (h : AllE K H ws) (hx : x ∈ names) (hE : FoX.ErrAt H a (He.ga K x)) : AllE K H (ws ++ [.ref a]) :=
  h.append fun v hv => by
    obtain rfl := List.mem_singleton.mp hv
    exact ⟨a, x, rfl, hx, hE⟩
theorem lst_at {H : Hp} {p : Addr} {xs : List V} (h : H p = none) : upd H p (.lst xs) p = some (.lst xs) := upd_same
def spBases : Sp := fun vs H Q _ => vs = [] ∧ ∀ H', Same H H' → Q (.bl true) H'
/-- nothing was kept -/
def Nil (H : Hp) (D : Addr) (_ : Nat) (H2 : Hp) : Prop := Same H H2 ∧ H2 D = some (.lst [])
section
variable {P : Program} {w : World} {K : PySem.W.Frag} {mg : Str → Option Value} {base : Heap}
theorem ok_bases (T : Tx K mg) : FnOk P w K mg base CX0 3 (He.ga K "_law_bases") T.fd_bases [] spBases := by
  refine T.F_bases.ok sc_bases (fun vs H Q E h => ?_) (fun cdv A outer s H vs Q E hr h => ?_)
  · obtain ⟨rfl, _⟩ := h
    rfl
  · obtain ⟨rfl, q⟩ := h
    refine ⟨_, (pss_cons (ps_set (i := 0) sc_bases.nd rfl (.inl rfl) (pe_lst (pa_cons (FoX.pe_own0 T.e_ByZero T.c_ByZero (by rfl)) (pa_cons (FoX.pe_oex (n := 1) T.e_BadNumber (ok_BadNumber_init T) (hr.mono (by decide)) (kp_BadNumber T) pass0 (by rfl) T.c_BadNumber (pa_cons pe_str pa_nil)) (pa_cons (FoX.pe_own0 T.e_BadText T.c_BadText (by rfl)) (pa_cons (FoX.pe_own0 T.e_ZeroPolynomial T.c_ZeroPolynomial (by rfl)) (pa_cons (FoX.pe_own0 T.e_BadRoot T.c_BadRoot (by rfl)) (pa_cons (FoX.pe_own0 T.e_BadStretch T.c_BadStretch (by rfl)) (pa_cons (FoX.pe_oex (n := 1) T.e_BadRow (ok_BadRow_init T) (hr.mono (by decide)) (kp_BadRow T) pass0 (by rfl) T.c_BadRow (pa_cons pe_str pa_nil)) (pa_cons (FoX.pe_own0 T.e_BadTable T.c_BadTable (by rfl)) pa_nil))))))))))
      (pss_cons (ps_set (i := 0) sc_bases.nd rfl (.inl rfl) (pe_op op_cat (pv 0) (pe_lst (pa_cons (FoX.pe_oex (n := 1) T.e_NoLine (ok_NoLine_init T) (hr.mono (by decide)) (kp_NoLine T) pass0 (by rfl) T.c_NoLine (pa_cons pe_str pa_nil)) (pa_cons (FoX.pe_own0 T.e_UnlikeTables T.c_UnlikeTables (by rfl)) (pa_cons (FoX.pe_own0 T.e_BadBeam T.c_BadBeam (by rfl)) (pa_cons (FoX.pe_own0 T.e_NotFilter T.c_NotFilter (by rfl)) (pa_cons (FoX.pe_own0 T.e_NotMirror T.c_NotMirror (by rfl)) (pa_cons (FoX.pe_own0 T.e_BadCounts T.c_BadCounts (by rfl)) (pa_cons (FoX.pe_oex (n := 1) T.e_BadAnswer (ok_BadAnswer_init T) (hr.mono (by decide)) (kp_BadAnswer T) pass0 (by rfl) T.c_BadAnswer (pa_cons pe_str pa_nil)) pa_nil))))))))))
      (pss_cons (ps_set (i := 0) sc_bases.nd rfl (.inl rfl) (pe_op op_cat (pv 0) (pe_lst (pa_cons (FoX.pe_oex (n := 1) T.e_BadShare (ok_BadShare_init T) (hr.mono (by decide)) (kp_BadShare T) pass0 (by rfl) T.c_BadShare (pa_cons pe_int pa_nil)) (pa_cons (FoX.pe_oex (n := 1) T.e_Never (ok_Never_init T) (hr.mono (by decide)) (kp_Never T) pass0 (by rfl) T.c_Never (pa_cons pe_str pa_nil)) (pa_cons (FoX.pe_oex (n := 1) T.e_BadLine (ok_BadLine_init T) (hr.mono (by decide)) (kp_BadLine T) pass0 (by rfl) T.c_BadLine (pa_cons pe_int pa_nil)) (pa_cons (FoX.pe_own0 T.e_Clash T.c_Clash (by rfl)) (pa_cons (FoX.pe_own0 T.e_NothingToUndo T.c_NothingToUndo (by rfl)) (pa_cons (FoX.pe_own0 T.e_NothingToRedo T.c_NothingToRedo (by rfl)) pa_nil)))))))))
      (pss_cons (ps_setLc (i := 2) (own := [("_law_e", 1)]) (g := gName 1) rfl sc_bases.nd rfl rfl (sw_true rfl rfl rfl (by decide +kernel)) (pi_list (pv 0)) (blkOk_by (own := [("_law_e", 1)]) (N := ["_law_made", "_law_e", "_law_bad"]) (sc := defScope s_bases) (by decide +kernel)) (fun _ _ _ _ _ => (pg_name (i := 1) sc_bases.nd rfl (.inl rfl))) (fun _ _ _ _ _ => (pts_one (PW.pt (pw_or (pt_not (pt_val (pe_callB (FoX.call_isXK (K' := K) (by rfl)) (by rfl) T.z_isinstance (by decide +kernel) (pa_cons (pv 1) (pa_cons (pe_glob (v := V.ref (He.ga K "FilterError")) (by rfl) T.c_FilterError rfl) pa_nil))))) (pw_or1 (pt_not (pt_val (pe_callB (FoX.call_isXK (K' := K) (by rfl)) (by rfl) T.z_isinstance (by decide +kernel) (pa_cons (pv 1) (pa_cons (pe_bltn (v := V.ty "ValueError") (u := Value.type "ValueError") (by rfl) T.z_ValueError (by decide +kernel) rfl) pa_nil)))))))))) (fun _ _ _ _ _ => (pv 1)))
      (pss_one (ps_ret (pe_and (pe_cmpR (op_eqD hr.units) (pv 2) (pe_lst pa_nil) (nomark _)) (pe_one (pe_cmpR (op_eqD hr.units) (pe_lc (own := [("_law_e", 1)]) (g := gName 1) rfl sc_bases.nd (pi_list (pv 0)) (blkOk_by (own := [("_law_e", 1)]) (N := ["_law_made", "_law_e", "_law_bad"]) (sc := defScope s_bases) (by decide +kernel)) (fun _ _ _ _ _ => (pg_name (i := 1) sc_bases.nd rfl (.inl rfl))) (fun _ _ _ _ _ => (pts_one (pt_cmpR op_ne (pe_call (ok_kinds T) (hr.mono (by decide)) (by rfl) T.g_kinds T.F_kinds.kp T.b_kinds .nil pass0 (pa_cons (pv 1) pa_nil)) pe_int (nomark _)))) (fun _ _ _ _ _ => (pv 1))) (pe_lst pa_nil) (nomark _)))))))))), ?_⟩
    have S := Same.refl H
    have Z : AllE K H [] := AllE.nil
    refine fun a0 m0 => ?_
    have S := S.trans (Same.upd m0 (o := ExO (.ref (He.ga K "ByZero")) a0))
    have Z := (Z.same (Same.upd m0 (o := ExO (.ref (He.ga K "ByZero")) a0))).snoc (x := "ByZero") (by decide) (.inl upd_same)
    refine ⟨rfl, fun a1 m1 => in_use rfl m1 fun H1 t1 k1 => ⟨rfl, ?_⟩⟩
    have S := S.trans t1
    have Z := (Z.same t1).snoc (x := "BadNumber") (by decide) k1.err
    refine fun a2 m2 => ?_
    have S := S.trans (Same.upd m2 (o := ExO (.ref (He.ga K "BadText")) a2))
    have Z := (Z.same (Same.upd m2 (o := ExO (.ref (He.ga K "BadText")) a2))).snoc (x := "BadText") (by decide) (.inl upd_same)
    refine fun a3 m3 => ?_
    have S := S.trans (Same.upd m3 (o := ExO (.ref (He.ga K "ZeroPolynomial")) a3))
    have Z := (Z.same (Same.upd m3 (o := ExO (.ref (He.ga K "ZeroPolynomial")) a3))).snoc (x := "ZeroPolynomial") (by decide) (.inl upd_same)
    refine fun a4 m4 => ?_
    have S := S.trans (Same.upd m4 (o := ExO (.ref (He.ga K "BadRoot")) a4))
    have Z := (Z.same (Same.upd m4 (o := ExO (.ref (He.ga K "BadRoot")) a4))).snoc (x := "BadRoot") (by decide) (.inl upd_same)
    refine fun a5 m5 => ?_
    have S := S.trans (Same.upd m5 (o := ExO (.ref (He.ga K "BadStretch")) a5))
    have Z := (Z.same (Same.upd m5 (o := ExO (.ref (He.ga K "BadStretch")) a5))).snoc (x := "BadStretch") (by decide) (.inl upd_same)
    refine ⟨rfl, fun a6 m6 => in_use rfl m6 fun H6 t6 k6 => ⟨rfl, ?_⟩⟩
    have S := S.trans t6
    have Z := (Z.same t6).snoc (x := "BadRow") (by decide) k6.err
    refine fun a7 m7 => ?_
    have S := S.trans (Same.upd m7 (o := ExO (.ref (He.ga K "BadTable")) a7))
    have Z := (Z.same (Same.upd m7 (o := ExO (.ref (He.ga K "BadTable")) a7))).snoc (x := "BadTable") (by decide) (.inl upd_same)
    refine ⟨(by show 8 ≤ sizeLine; rw [sizeLine_eq]; decide), fun p0 n0 => ?_⟩
    have S := S.trans (Same.upd n0 (o := .lst [.ref a0, .ref a1, .ref a2, .ref a3, .ref a4, .ref a5, .ref a6, .ref a7]))
    have W := Z.same (Same.upd n0 (o := .lst [.ref a0, .ref a1, .ref a2, .ref a3, .ref a4, .ref a5, .ref a6, .ref a7]))
    have lp := lst_at n0 (xs := [.ref a0, .ref a1, .ref a2, .ref a3, .ref a4, .ref a5, .ref a6, .ref a7])
    refine ⟨_, rfl, ?_⟩
    have Y := W
    have Z := AllE.nil_of W
    refine ⟨rfl, fun a8 m8 => in_use rfl m8 fun H8 t8 k8 => ⟨rfl, ?_⟩⟩
    have S := S.trans t8
    have Z := (Z.same t8).snoc (x := "NoLine") (by decide) k8.err
    have Y := Y.same t8
    have lp := t8 _ _ lp
    refine fun a9 m9 => ?_
    have S := S.trans (Same.upd m9 (o := ExO (.ref (He.ga K "UnlikeTables")) a9))
    have Z := (Z.same (Same.upd m9 (o := ExO (.ref (He.ga K "UnlikeTables")) a9))).snoc (x := "UnlikeTables") (by decide) (.inl upd_same)
    have Y := Y.same (Same.upd m9 (o := ExO (.ref (He.ga K "UnlikeTables")) a9))
    have lp := (Same.upd m9 (o := ExO (.ref (He.ga K "UnlikeTables")) a9)) _ _ lp
    refine fun a10 m10 => ?_
    have S := S.trans (Same.upd m10 (o := ExO (.ref (He.ga K "BadBeam")) a10))
    have Z := (Z.same (Same.upd m10 (o := ExO (.ref (He.ga K "BadBeam")) a10))).snoc (x := "BadBeam") (by decide) (.inl upd_same)
    have Y := Y.same (Same.upd m10 (o := ExO (.ref (He.ga K "BadBeam")) a10))
    have lp := (Same.upd m10 (o := ExO (.ref (He.ga K "BadBeam")) a10)) _ _ lp
    refine fun a11 m11 => ?_
    have S := S.trans (Same.upd m11 (o := ExO (.ref (He.ga K "NotFilter")) a11))
    have Z := (Z.same (Same.upd m11 (o := ExO (.ref (He.ga K "NotFilter")) a11))).snoc (x := "NotFilter") (by decide) (.inl upd_same)
    have Y := Y.same (Same.upd m11 (o := ExO (.ref (He.ga K "NotFilter")) a11))
    have lp := (Same.upd m11 (o := ExO (.ref (He.ga K "NotFilter")) a11)) _ _ lp
    refine fun a12 m12 => ?_
    have S := S.trans (Same.upd m12 (o := ExO (.ref (He.ga K "NotMirror")) a12))
    have Z := (Z.same (Same.upd m12 (o := ExO (.ref (He.ga K "NotMirror")) a12))).snoc (x := "NotMirror") (by decide) (.inl upd_same)
    have Y := Y.same (Same.upd m12 (o := ExO (.ref (He.ga K "NotMirror")) a12))
    have lp := (Same.upd m12 (o := ExO (.ref (He.ga K "NotMirror")) a12)) _ _ lp
    refine fun a13 m13 => ?_
    have S := S.trans (Same.upd m13 (o := ExO (.ref (He.ga K "BadCounts")) a13))
    have Z := (Z.same (Same.upd m13 (o := ExO (.ref (He.ga K "BadCounts")) a13))).snoc (x := "BadCounts") (by decide) (.inl upd_same)
    have Y := Y.same (Same.upd m13 (o := ExO (.ref (He.ga K "BadCounts")) a13))
    have lp := (Same.upd m13 (o := ExO (.ref (He.ga K "BadCounts")) a13)) _ _ lp
    refine ⟨rfl, fun a14 m14 => in_use rfl m14 fun H14 t14 k14 => ⟨rfl, ?_⟩⟩
    have S := S.trans t14
    have Z := (Z.same t14).snoc (x := "BadAnswer") (by decide) k14.err
    have Y := Y.same t14
    have lp := t14 _ _ lp
    refine ⟨(by show 7 ≤ sizeLine; rw [sizeLine_eq]; decide), fun q1 r1 => ⟨p0, q1, _, _, rfl, rfl, (Same.upd r1) _ _ lp, upd_same, (by show 15 ≤ sizeLine; rw [sizeLine_eq]; decide), fun p1 n1 => ?_⟩⟩
    have S := S.trans ((Same.upd r1 (o := .lst [.ref a8, .ref a9, .ref a10, .ref a11, .ref a12, .ref a13, .ref a14])).trans (Same.upd n1 (o := .lst [.ref a0, .ref a1, .ref a2, .ref a3, .ref a4, .ref a5, .ref a6, .ref a7, .ref a8, .ref a9, .ref a10, .ref a11, .ref a12, .ref a13, .ref a14])))
    have W := (Y.same ((Same.upd r1 (o := .lst [.ref a8, .ref a9, .ref a10, .ref a11, .ref a12, .ref a13, .ref a14])).trans (Same.upd n1 (o := .lst [.ref a0, .ref a1, .ref a2, .ref a3, .ref a4, .ref a5, .ref a6, .ref a7, .ref a8, .ref a9, .ref a10, .ref a11, .ref a12, .ref a13, .ref a14])))).append (Z.same ((Same.upd r1 (o := .lst [.ref a8, .ref a9, .ref a10, .ref a11, .ref a12, .ref a13, .ref a14])).trans (Same.upd n1 (o := .lst [.ref a0, .ref a1, .ref a2, .ref a3, .ref a4, .ref a5, .ref a6, .ref a7, .ref a8, .ref a9, .ref a10, .ref a11, .ref a12, .ref a13, .ref a14]))))
    have lp := lst_at n1 (xs := [.ref a0, .ref a1, .ref a2, .ref a3, .ref a4, .ref a5, .ref a6, .ref a7, .ref a8, .ref a9, .ref a10, .ref a11, .ref a12, .ref a13, .ref a14])
    refine ⟨_, rfl, ?_⟩
    have Y := W
    have Z := AllE.nil_of W
    refine ⟨rfl, fun a15 m15 => in_use rfl m15 fun H15 t15 k15 => ⟨rfl, ?_⟩⟩
    have S := S.trans t15
    have Z := (Z.same t15).snoc (x := "BadShare") (by decide) k15.err
    have Y := Y.same t15
    have lp := t15 _ _ lp
    refine ⟨rfl, fun a16 m16 => in_use rfl m16 fun H16 t16 k16 => ⟨rfl, ?_⟩⟩
    have S := S.trans t16
    have Z := (Z.same t16).snoc (x := "Never") (by decide) k16.err
    have Y := Y.same t16
    have lp := t16 _ _ lp
    refine ⟨rfl, fun a17 m17 => in_use rfl m17 fun H17 t17 k17 => ⟨rfl, ?_⟩⟩
    have S := S.trans t17
    have Z := (Z.same t17).snoc (x := "BadLine") (by decide) k17.err
    have Y := Y.same t17
    have lp := t17 _ _ lp
    refine fun a18 m18 => ?_
    have S := S.trans (Same.upd m18 (o := ExO (.ref (He.ga K "Clash")) a18))
    have Z := (Z.same (Same.upd m18 (o := ExO (.ref (He.ga K "Clash")) a18))).snoc (x := "Clash") (by decide) (.inl upd_same)
    have Y := Y.same (Same.upd m18 (o := ExO (.ref (He.ga K "Clash")) a18))
    have lp := (Same.upd m18 (o := ExO (.ref (He.ga K "Clash")) a18)) _ _ lp
    refine fun a19 m19 => ?_
    have S := S.trans (Same.upd m19 (o := ExO (.ref (He.ga K "NothingToUndo")) a19))
    have Z := (Z.same (Same.upd m19 (o := ExO (.ref (He.ga K "NothingToUndo")) a19))).snoc (x := "NothingToUndo") (by decide) (.inl upd_same)
    have Y := Y.same (Same.upd m19 (o := ExO (.ref (He.ga K "NothingToUndo")) a19))
    have lp := (Same.upd m19 (o := ExO (.ref (He.ga K "NothingToUndo")) a19)) _ _ lp
    refine fun a20 m20 => ?_
    have S := S.trans (Same.upd m20 (o := ExO (.ref (He.ga K "NothingToRedo")) a20))
    have Z := (Z.same (Same.upd m20 (o := ExO (.ref (He.ga K "NothingToRedo")) a20))).snoc (x := "NothingToRedo") (by decide) (.inl upd_same)
    have Y := Y.same (Same.upd m20 (o := ExO (.ref (He.ga K "NothingToRedo")) a20))
    have lp := (Same.upd m20 (o := ExO (.ref (He.ga K "NothingToRedo")) a20)) _ _ lp
    refine ⟨(by show 6 ≤ sizeLine; rw [sizeLine_eq]; decide), fun q2 r2 => ⟨p1, q2, _, _, rfl, rfl, (Same.upd r2) _ _ lp, upd_same, (by show 21 ≤ sizeLine; rw [sizeLine_eq]; decide), fun p2 n2 => ?_⟩⟩
    have S := S.trans ((Same.upd r2 (o := .lst [.ref a15, .ref a16, .ref a17, .ref a18, .ref a19, .ref a20])).trans (Same.upd n2 (o := .lst [.ref a0, .ref a1, .ref a2, .ref a3, .ref a4, .ref a5, .ref a6, .ref a7, .ref a8, .ref a9, .ref a10, .ref a11, .ref a12, .ref a13, .ref a14, .ref a15, .ref a16, .ref a17, .ref a18, .ref a19, .ref a20])))
    have W := (Y.same ((Same.upd r2 (o := .lst [.ref a15, .ref a16, .ref a17, .ref a18, .ref a19, .ref a20])).trans (Same.upd n2 (o := .lst [.ref a0, .ref a1, .ref a2, .ref a3, .ref a4, .ref a5, .ref a6, .ref a7, .ref a8, .ref a9, .ref a10, .ref a11, .ref a12, .ref a13, .ref a14, .ref a15, .ref a16, .ref a17, .ref a18, .ref a19, .ref a20])))).append (Z.same ((Same.upd r2 (o := .lst [.ref a15, .ref a16, .ref a17, .ref a18, .ref a19, .ref a20])).trans (Same.upd n2 (o := .lst [.ref a0, .ref a1, .ref a2, .ref a3, .ref a4, .ref a5, .ref a6, .ref a7, .ref a8, .ref a9, .ref a10, .ref a11, .ref a12, .ref a13, .ref a14, .ref a15, .ref a16, .ref a17, .ref a18, .ref a19, .ref a20]))))
    have lp := lst_at n2 (xs := [.ref a0, .ref a1, .ref a2, .ref a3, .ref a4, .ref a5, .ref a6, .ref a7, .ref a8, .ref a9, .ref a10, .ref a11, .ref a12, .ref a13, .ref a14, .ref a15, .ref a16, .ref a17, .ref a18, .ref a19, .ref a20])
    refine ⟨_, rfl, p2, rfl, ⟨_, SqL.of lp⟩, fun D nD => ?_⟩
    refine lc_list (xs := [.ref a0, .ref a1, .ref a2, .ref a3, .ref a4, .ref a5, .ref a6, .ref a7, .ref a8, .ref a9, .ref a10, .ref a11, .ref a12, .ref a13, .ref a14, .ref a15, .ref a16, .ref a17, .ref a18, .ref a19, .ref a20]) (Nil _ D) ⟨Same.upd nD, upd_same⟩ (fun i H3 hi h => SqL.of (h.1 _ _ lp)) (fun i v H3 ev h => ?_) (fun H3 h => ?_)
    · obtain ⟨a, x, rfl, hx, hE⟩ := W.same h.1 v (List.mem_of_getElem? ev)
      have kd := kinds_all T x hx
      refine ⟨rfl, _, rfl, a, _, _, _, true, rfl, .own _, hE, kd.ec, kd.up _ (by decide), true, rfl, iteF ?_⟩
      refine ⟨_, rfl, a, _, _, _, true, rfl, .ty _, hE, kd.ec, kd.ty _ (by decide), true, rfl, iteF ?_⟩
      exact h
    · obtain ⟨s3, l3⟩ := h
      have lp3 := s3 _ _ lp
      have W3 := W.same s3
      refine ⟨_, rfl, Nat.zero_le _, fun pe ne => ?_⟩
      have t4 : Same H3 _ := Same.upd ne (o := .lst [])
      refine ⟨.list [], .list [], .lst (SqL.of (t4 _ _ l3)) .nil, .lst (SqL.of upd_same) .nil, rfl, rfl, true, rfl, iteT ?_⟩
      refine ⟨_, rfl, p2, rfl, ⟨_, SqL.of (t4 _ _ lp3)⟩, fun D2 nD2 => ?_⟩
      refine lc_list (xs := [.ref a0, .ref a1, .ref a2, .ref a3, .ref a4, .ref a5, .ref a6, .ref a7, .ref a8, .ref a9, .ref a10, .ref a11, .ref a12, .ref a13, .ref a14, .ref a15, .ref a16, .ref a17, .ref a18, .ref a19, .ref a20]) (Nil _ D2) ⟨Same.upd nD2, upd_same⟩ (fun i H4 hi h => SqL.of (h.1 _ _ (t4 _ _ lp3))) (fun i v H4 ev h => ?_) (fun H4 h => ?_)
      · obtain ⟨a, x, rfl, hx, hE⟩ := (W3.same t4).same h.1 v (List.mem_of_getElem? ev)
        refine ⟨rfl, _, rfl, a, x, rfl, hx, hE, fun H5 s5 => ?_⟩
        refine ⟨rfl, false, ?_, iteF ⟨h.1.trans s5, s5 _ _ h.2⟩⟩
        rw [decide_eq_true rfl]
        rfl
      · obtain ⟨s4, l4⟩ := h
        refine ⟨Nat.zero_le _, fun pf nf => ?_⟩
        refine ⟨.list [], .list [], .lst (SqL.of (Same.upd nf (o := .lst []) _ _ l4)) .nil, .lst (SqL.of upd_same) .nil, rfl, rfl, ?_⟩
        exact q _ (S.trans (s3.trans (t4.trans (s4.trans (Same.upd nf)))))
end

end Fo

set_option maxHeartbeats 4100000
namespace Fo
open PySem PySem.Spec PyProof.Rows L2
/-! ### the law -/
def spLaw (K : PySem.W.Frag) : Sp := fun vs H Q _ => ∃ (a : Addr) (ns : List Int), vs = [.ref a] ∧ SqL K H a (ns.map V.int) ∧ ns.length ≤ 63 ∧ ∀ H', Q (.bl true) H'
/-- a value that is drawn, its place not that of the box -/
inductive Good (pb : Addr) (H : Hp) : V → Prop where
  | sc {v : V} (h : FoR.Sc v) : Good pb H v
  | lst {a : Addr} {xs : List V} (e : H a = some (.lst xs)) (h : ∀ y ∈ xs, FoR.Sc y) (z : (PySem.listText (xs.map FoR.scText)).length ≤ sizeLine) (n : a ≠ pb) : Good pb H (.ref a)
  | tup {a : Addr} {xs : List V} (e : H a = some (.tup xs)) (h : ∀ y ∈ xs, FoR.Sc y) (z : (PySem.tupleText (xs.map FoR.scText)).length ≤ sizeLine) (n : a ≠ pb) : Good pb H (.ref a)
  | one {a : Addr} {k : Str} {v : V} (e : H a = some (.dK [(.inr k, v)])) (h : FoR.Sc v) (zk : (reprText k).length ≤ sizeLine) (z : (PySem.dictText [reprText k ++ ": " ++ FoR.scText v]).length ≤ sizeLine) (n : a ≠ pb) : Good pb H (.ref a)
theorem Good.but {pb : Addr} {H H' : Hp} {v : V} (h : Good pb H v) (e : But pb H H') : Good pb H' v := by
  cases h with
  | sc h => exact .sc h
  | lst a h z n => exact .lst (e _ _ a n) h z n
  | tup a h z n => exact .tup (e _ _ a n) h z n
  | one a h zk z n => exact .one (e _ _ a n) h zk z n
theorem Good.same {pb : Addr} {H H' : Hp} {v : V} (h : Good pb H v) (e : Same H H') : Good pb H' v := h.but (But.of_same e)
theorem Good.sho {pb : Addr} {H : Hp} {v : V} (h : Good pb H v) : FoX.Sho2 H v := by
  cases h with
  | sc h => exact .old (.sc h)
  | lst a h z n => exact .old (.lst a h z)
  | tup a h z n => exact .old (.tup a h z)
  | one a h zk z n => exact .one a h zk z
theorem Good.kind {K : PySem.W.Frag} {pb : Addr} {H : Hp} {v : V} (h : Good pb H v) : ∃ t b, TyX K H v t ∧ PySem.W.kitOne K t (.type "bool") = some b := by
  cases h with
  | sc h =>
    cases h with
    | non => exact ⟨_, false, .base .non, kit_ty (by decide +kernel)⟩
    | bl b => exact ⟨_, true, .base (.bl b), kit_ty (by decide +kernel)⟩
    | int i z => exact ⟨_, false, .base (.int i), kit_ty (by decide +kernel)⟩
    | str x z => exact ⟨_, false, .base (.str x), kit_ty (by decide +kernel)⟩
  | lst a h z n => exact ⟨_, false, .base (.lst a), kit_ty (by decide +kernel)⟩
  | tup a h z n => exact ⟨_, false, .base (.tup a), kit_ty (by decide +kernel)⟩
  | one a h zk z n => exact ⟨_, false, .base (.dK a), kit_ty (by decide +kernel)⟩
theorem draw {xs : List V} {d : Int} (h0 : 0 ≤ d) (h1 : d < (xs.length : Int)) : ∃ v, atI xs d = some v ∧ v ∈ xs := by
  obtain ⟨n, rfl⟩ := Int.eq_ofNat_of_zero_le h0
  have hn : n < xs.length := by omega
  exact ⟨xs[n], atI_nat (List.getElem?_eq_getElem hn), List.getElem_mem hn⟩
theorem at_k {va vb : V} {k : Nat} (hk : k < 7) : [va, vb, va, vb, va, vb, va][k]? = some (if k % 2 = 0 then va else vb) := by
  match k, hk with
  | 0, _ => rfl
  | 1, _ => rfl
  | 2, _ => rfl
  | 3, _ => rfl
  | 4, _ => rfl
  | 5, _ => rfl
  | 6, _ => rfl
theorem BoxAt.same {H H' : Hp} {p : Addr} {n : Nat} (h : BoxAt H p n) (e : Same H H') : BoxAt H' p n :=
  let ⟨x, c, sd, a, r⟩ := h
  ⟨x, c, sd, e _ _ a, r⟩
theorem BoxAt.ne {H : Hp} {p t : Addr} {n : Nat} (h : BoxAt H p n) (e : H t = none) : t ≠ p := fun z => by
  obtain ⟨x, c, sd, a, _⟩ := h
  rw [z, a] at e
  cases e
theorem sz1000 : FoM.Sz 4000 7 := sz_of 1000000 (by decide) (by decide) (Nat.le_trans (by decide) (Nat.pow_le_pow_right (by decide) (show 20 ≤ 4000 by decide)))
theorem sz5 : FoM.Sz 4000 5 := sz_of 1000000 (by decide) (by decide) (Nat.le_trans (by decide) (Nat.pow_le_pow_right (by decide) (show 20 ≤ 4000 by decide)))
theorem same_two {H : Hp} {p : Addr} {o u : HO} (h : H p = none) : Same H (upd (upd H p o) p u) := fun b z e => by
  rw [upd_ne (ne_of_none e h), upd_ne (ne_of_none e h)]
  exact e
section
variable {P : Program} {w : World} {K : PySem.W.Frag} {mg : Str → Option Value} {base : Heap}
theorem ok_law (T : Tx K mg) : FnOk P w K mg base CX0 6 (He.ga K "law") T.fd_law ["_law_script"] (spLaw K) := by
  refine T.F_law.ok sc_law (fun vs H Q E h => ?_) (fun cdv A outer s H vs Q E hr h => ?_)
  · obtain ⟨a, ns, rfl, _⟩ := h
    rfl
  · obtain ⟨a, ns, rfl, hS, hl, q⟩ := h
    refine ⟨_, (pss_cons (ps_set (i := 1) sc_law.nd rfl (.inl rfl) (pe_call (ok_box T) (hr.mono (by decide)) (by rfl) T.g_box T.F_box.kp T.b_box .nil pass0 (pa_cons (pv 0) (pa_cons pe_int pa_nil))))
      (pss_cons (ps_set (i := 2) sc_law.nd rfl (.inl rfl) (pe_ix ix_list (pe_lst (pa_cons pe_str (pa_cons pe_int (pa_cons pe_non (pa_cons (pe_un un_neg pe_int) (pa_cons (pe_tup (pa_cons pe_int (pa_cons pe_int pa_nil))) (pa_cons (pe_lst (pa_cons pe_str pa_nil)) (pa_cons pe_bl pa_nil)))))))) (pe_call (ok_take T) (hr.mono (by decide)) (by rfl) T.g_take T.F_take.kp T.b_take .nil pass0 (pa_cons (pv 1) (pa_cons pe_int pa_nil))) (fun _ _ => rfl)))
      (pss_cons (ps_set (i := 3) sc_law.nd rfl (.inl rfl) (pe_ix ix_list (pe_lst (pa_cons (pe_disp (pps_cons pe_str pe_int pps_nil) rfl rfl (List.cons_ne_nil _ _) (by decide)) (pa_cons (pe_op FoA.op_powW pe_int pe_int) (pa_cons pe_str (pa_cons (pe_tup (pa_cons pe_str pa_nil)) (pa_cons pe_bl pa_nil)))))) (pe_call (ok_take T) (hr.mono (by decide)) (by rfl) T.g_take T.F_take.kp T.b_take .nil pass0 (pa_cons (pv 1) (pa_cons pe_int pa_nil))) (fun _ _ => rfl)))
      (pss_cons (ps_set (i := 4) sc_law.nd rfl (.inl rfl) (pe_lst (pa_cons (FoX.pe_fldE (FoX.pe_oex (n := 1) T.e_BadNumber (ok_BadNumber_init T) (hr.mono (by decide)) (kp_BadNumber T) pass0 (by rfl) T.c_BadNumber (pa_cons (pv 2) pa_nil))) (pa_cons (FoX.pe_fldE (FoX.pe_oex (n := 1) T.e_BadRow (ok_BadRow_init T) (hr.mono (by decide)) (kp_BadRow T) pass0 (by rfl) T.c_BadRow (pa_cons (pv 3) pa_nil))) (pa_cons (FoX.pe_fldE (FoX.pe_oex (n := 1) T.e_NoLine (ok_NoLine_init T) (hr.mono (by decide)) (kp_NoLine T) pass0 (by rfl) T.c_NoLine (pa_cons (pv 2) pa_nil))) (pa_cons (FoX.pe_fldE (FoX.pe_oex (n := 1) T.e_BadAnswer (ok_BadAnswer_init T) (hr.mono (by decide)) (kp_BadAnswer T) pass0 (by rfl) T.c_BadAnswer (pa_cons (pv 3) pa_nil))) (pa_cons (FoX.pe_fldE (FoX.pe_oex (n := 1) T.e_BadShare (ok_BadShare_init T) (hr.mono (by decide)) (kp_BadShare T) pass0 (by rfl) T.c_BadShare (pa_cons (pv 2) pa_nil))) pa_nil)))))))
      (pss_cons (ps_set (i := 4) sc_law.nd rfl (.inl rfl) (pe_op op_cat (pv 4) (pe_lst (pa_cons (FoX.pe_fldE (FoX.pe_oex (n := 1) T.e_Never (ok_Never_init T) (hr.mono (by decide)) (kp_Never T) pass0 (by rfl) T.c_Never (pa_cons (pv 3) pa_nil))) (pa_cons (FoX.pe_fldE (FoX.pe_oex (n := 1) T.e_BadLine (ok_BadLine_init T) (hr.mono (by decide)) (kp_BadLine T) pass0 (by rfl) T.c_BadLine (pa_cons (pv 2) pa_nil))) pa_nil)))))
      (pss_cons (ps_set (i := 5) sc_law.nd rfl (.inl rfl) (pe_lst (pa_cons (FoX.pe_fldE (FoX.pe_oexN T.e_BadNumber (ok_BadNumber_init T) (hr.mono (by decide)) (kn_BadNumber T) pass0 (by rfl) T.c_BadNumber (pk_cons (pv 2) pk_nil))) (pa_cons (FoX.pe_fldE (FoX.pe_oexN T.e_BadRow (ok_BadRow_init T) (hr.mono (by decide)) (kn_BadRow T) pass0 (by rfl) T.c_BadRow (pk_cons (pv 3) pk_nil))) (pa_cons (FoX.pe_fldE (FoX.pe_oexN T.e_NoLine (ok_NoLine_init T) (hr.mono (by decide)) (kn_NoLine T) pass0 (by rfl) T.c_NoLine (pk_cons (pv 2) pk_nil))) (pa_cons (FoX.pe_fldE (FoX.pe_oexN T.e_BadAnswer (ok_BadAnswer_init T) (hr.mono (by decide)) (kn_BadAnswer T) pass0 (by rfl) T.c_BadAnswer (pk_cons (pv 3) pk_nil))) pa_nil))))))
      (pss_cons (ps_set (i := 5) sc_law.nd rfl (.inl rfl) (pe_op op_cat (pv 5) (pe_lst (pa_cons (FoX.pe_fldE (FoX.pe_oexN T.e_BadShare (ok_BadShare_init T) (hr.mono (by decide)) (kn_BadShare T) pass0 (by rfl) T.c_BadShare (pk_cons (pv 2) pk_nil))) (pa_cons (FoX.pe_fldE (FoX.pe_oexN T.e_Never (ok_Never_init T) (hr.mono (by decide)) (kn_Never T) pass0 (by rfl) T.c_Never (pk_cons (pv 3) pk_nil))) (pa_cons (FoX.pe_fldE (FoX.pe_oexN T.e_BadLine (ok_BadLine_init T) (hr.mono (by decide)) (kn_BadLine T) pass0 (by rfl) T.c_BadLine (pk_cons (pv 2) pk_nil))) pa_nil))))))
      (pss_cons (ps_for PassesOwn.never rfl (pi_range1 (by rfl) T.z_range (pa_cons pe_int pa_nil)) (pg_name (i := 6) sc_law.nd rfl (.inl rfl)) (pss_cons (ps_set (i := 7) sc_law.nd rfl (.inl rfl) (pe_ifExp (pt_cmpR op_eq (pe_op op_mod (pv 6) pe_int) pe_int (nomark _)) (pv 2) (pv 3)))
      (pss_one (ps_if (PW.pt (pw_or (pt_not (pt_val (pe_call (ok_same T) (hr.mono (by decide)) (by rfl) T.g_same T.F_same.kp T.b_same .nil pass0 (pa_cons (pe_ix ix_list (pv 4) (pv 6) (fun _ _ => rfl)) (pa_cons (pv 7) pa_nil))))) (pw_or1 (pt_not (pt_val (pe_call (ok_same T) (hr.mono (by decide)) (by rfl) T.g_same T.F_same.kp T.b_same .nil pass0 (pa_cons (pe_ix ix_list (pv 5) (pv 6) (fun _ _ => rfl)) (pa_cons (pv 7) pa_nil)))))))) (pss_one (ps_ret pe_bl)) pss_nil))))
      (pss_one (ps_ret (pe_call0 (ok_bases T) (hr.mono (by decide)) (by rfl) T.g_bases T.F_bases.kp T.b_bases .nil pass0))))))))))), ?_⟩
    refine ⟨_, rfl, a, ns, 0, rfl, hS, by decide, fun pb H1 npb s1 hB => ?_⟩
    -- the first value
    refine ⟨_, rfl, (by show 2 ≤ sizeLine; rw [sizeLine_eq]; decide), fun pt nt => ⟨(by show 1 ≤ sizeLine; rw [sizeLine_eq]; decide), fun pl nl => ⟨(by show 7 ≤ sizeLine; rw [sizeLine_eq]; decide), fun pc nc => ?_⟩⟩⟩
    have ht := hB.ne nt
    have hB1 := hB.same (Same.upd nt (o := .tup [.int 1, .int 2]))
    have hpl := hB1.ne nl
    have hB2 := hB1.same (Same.upd nl (o := .lst [.str "x"]))
    have hpc := hB2.ne nc
    have u1 := (Same.upd nl (o := .lst [.str "x"])).trans (Same.upd nc (o := .lst [.str "p", .int 0, .non, .int (-3), .ref pt, .ref pl, .bl true]))
    have u2 := Same.upd nc (o := .lst [.str "p", .int 0, .non, .int (-3), .ref pt, .ref pl, .bl true])
    have hB3 := hB2.same u2
    have G1 : ∀ v ∈ [V.str "p", .int 0, .non, .int (-3), .ref pt, .ref pl, .bl true], Good pb (upd (upd (upd H1 pt (.tup [.int 1, .int 2])) pl (.lst [.str "x"])) pc (.lst [.str "p", .int 0, .non, .int (-3), .ref pt, .ref pl, .bl true])) v := by
      intro v hv
      simp only [List.mem_cons, List.not_mem_nil, or_false] at hv
      rcases hv with rfl | rfl | rfl | rfl | rfl | rfl | rfl
      · exact .sc (.str _ (by rw [sizeLine_eq]; decide +kernel))
      · exact .sc (.int _ (by decide +kernel))
      · exact .sc .non
      · exact .sc (.int _ (by decide +kernel))
      · exact .tup (u1 _ _ upd_same) (fun y hy => by
          simp only [List.mem_cons, List.not_mem_nil, or_false] at hy
          rcases hy with rfl | rfl <;> exact .int _ (by decide +kernel)) (by rw [sizeLine_eq]; decide +kernel) ht
      · exact .lst (u2 _ _ upd_same) (fun y hy => by
          simp only [List.mem_cons, List.not_mem_nil, or_false] at hy
          subst hy
          exact .str _ (by rw [sizeLine_eq]; decide +kernel)) (by rw [sizeLine_eq]; decide +kernel) hpl
      · exact .sc (.bl _)
    have lc := lst_at nc (xs := [V.str "p", .int 0, .non, .int (-3), .ref pt, .ref pl, .bl true])
    refine ⟨_, rfl, pb, 7, 0, rfl, hB3, by decide, by decide, sz1000, fun d H2 d0 d1 hB4 b2 => ?_⟩
    obtain ⟨va, eva, mva⟩ := draw (xs := [V.str "p", .int 0, .non, .int (-3), .ref pt, .ref pl, .bl true]) d0 d1
    have GA := (G1 va mva).but b2
    refine ⟨pc, _, d, va, rfl, rfl, SqL.of (b2 _ _ lc hpc), eva, ?_⟩
    -- the second value
    refine fun pd nd => ⟨upd_same, [(.inr "k", .int 1)], rfl, by decide, ?_⟩
    have hd := hB4.ne nd
    have v1 : Same H2 (upd (upd H2 pd (.dK [])) pd (.dK (mergeK [] [(.inr "k", .int 1)]))) := same_two nd
    have hB5 := hB4.same v1
    have ld : (upd (upd H2 pd (.dK [])) pd (.dK (mergeK [] [(.inr "k", .int 1)]))) pd = some (.dK [(.inr "k", .int 1)]) := upd_same
    generalize upd (upd H2 pd (.dK [])) pd (.dK (mergeK [] [(.inr "k", .int 1)])) = H3 at *
    refine ⟨_, _, rfl, rfl, ⟨by decide, by decide, by decide⟩, (by show 1 ≤ sizeLine; rw [sizeLine_eq]; decide), fun pq nq => ⟨(by show 5 ≤ sizeLine; rw [sizeLine_eq]; decide), fun pe ne => ?_⟩⟩
    have hq := hB5.ne nq
    have hB6 := hB5.same (Same.upd nq (o := .tup [.str "q"]))
    have he := hB6.ne ne
    have w2 := Same.upd ne (o := .lst [.ref pd, .int (10 ^ (30 : Int).toNat), .str "", .ref pq, .bl false])
    have w1 := (Same.upd nq (o := .tup [.str "q"])).trans w2
    have hB7 := hB6.same w2
    have G2 : ∀ v ∈ [V.ref pd, .int (10 ^ (30 : Int).toNat), .str "", .ref pq, .bl false], Good pb (upd (upd H3 pq (.tup [.str "q"])) pe (.lst [.ref pd, .int (10 ^ (30 : Int).toNat), .str "", .ref pq, .bl false])) v := by
      intro v hv
      simp only [List.mem_cons, List.not_mem_nil, or_false] at hv
      rcases hv with rfl | rfl | rfl | rfl | rfl
      · exact .one (w1 _ _ ld) (.int _ (by decide +kernel)) (by rw [sizeLine_eq]; decide +kernel) (by rw [sizeLine_eq]; decide +kernel) hd
      · exact .sc (.int _ (by decide +kernel))
      · exact .sc (.str _ (by rw [sizeLine_eq]; decide +kernel))
      · exact .tup (w2 _ _ upd_same) (fun y hy => by
          simp only [List.mem_cons, List.not_mem_nil, or_false] at hy
          subst hy
          exact .str _ (by rw [sizeLine_eq]; decide +kernel)) (by rw [sizeLine_eq]; decide +kernel) hq
      · exact .sc (.bl _)
    have le := lst_at ne (xs := [V.ref pd, .int (10 ^ (30 : Int).toNat), .str "", .ref pq, .bl false])
    have GA := (GA.same v1).same w1
    refine ⟨_, rfl, pb, 5, _, rfl, hB7, by decide, by decide, sz5, fun d2 H4 d20 d21 hB8 b4 => ?_⟩
    obtain ⟨vb, evb, mvb⟩ := draw (xs := [V.ref pd, .int (10 ^ (30 : Int).toNat), .str "", .ref pq, .bl false]) d20 d21
    have GB := (G2 vb mvb).but b4
    have GA := GA.but b4
    refine ⟨pe, _, d2, vb, rfl, rfl, SqL.of (b4 _ _ le he), evb, ?_⟩
    clear b2 G1 G2 w1 w2 u1 u2
    refine ⟨_, rfl, rfl, fun y0 m0 => in_use rfl m0 fun H10 t0 k0 => ⟨rfl, ?_⟩⟩
    obtain ⟨x0, g0, h0⟩ := k0
    refine ⟨y0, x0, _, _, _, _, rfl, T.e_BadNumber, g0, h0, rfl, ?_⟩
    have GA := GA.same t0
    have GB := GB.same t0
    refine ⟨_, rfl, rfl, fun y1 m1 => in_use rfl m1 fun H11 t1 k1 => ⟨rfl, ?_⟩⟩
    obtain ⟨x1, g1, h1⟩ := k1
    refine ⟨y1, x1, _, _, _, _, rfl, T.e_BadRow, g1, h1, rfl, ?_⟩
    have GA := GA.same t1
    have GB := GB.same t1
    refine ⟨_, rfl, rfl, fun y2 m2 => in_use rfl m2 fun H12 t2 k2 => ⟨rfl, ?_⟩⟩
    obtain ⟨x2, g2, h2⟩ := k2
    refine ⟨y2, x2, _, _, _, _, rfl, T.e_NoLine, g2, h2, rfl, ?_⟩
    have GA := GA.same t2
    have GB := GB.same t2
    refine ⟨_, rfl, rfl, fun y3 m3 => in_use rfl m3 fun H13 t3 k3 => ⟨rfl, ?_⟩⟩
    obtain ⟨x3, g3, h3⟩ := k3
    refine ⟨y3, x3, _, _, _, _, rfl, T.e_BadAnswer, g3, h3, rfl, ?_⟩
    have GA := GA.same t3
    have GB := GB.same t3
    refine ⟨_, rfl, rfl, fun y4 m4 => in_use rfl m4 fun H14 t4 k4 => ⟨rfl, ?_⟩⟩
    obtain ⟨x4, g4, h4⟩ := k4
    refine ⟨y4, x4, _, _, _, _, rfl, T.e_BadShare, g4, h4, rfl, ?_⟩
    have GA := GA.same t4
    have GB := GB.same t4
    refine ⟨(by show 5 ≤ sizeLine; rw [sizeLine_eq]; decide), fun pk0 nk0 => ?_⟩
    have GA := GA.same (Same.upd nk0 (o := .lst [va, vb, va, vb, va]))
    have GB := GB.same (Same.upd nk0 (o := .lst [va, vb, va, vb, va]))
    have lk := lst_at nk0 (xs := [va, vb, va, vb, va])
    refine ⟨_, rfl, ?_⟩
    refine ⟨_, rfl, rfl, fun y5 m5 => in_use rfl m5 fun H15 t5 k5 => ⟨rfl, ?_⟩⟩
    obtain ⟨x5, g5, h5⟩ := k5
    refine ⟨y5, x5, _, _, _, _, rfl, T.e_Never, g5, h5, rfl, ?_⟩
    have GA := GA.same t5
    have GB := GB.same t5
    have lk := t5 _ _ lk
    refine ⟨_, rfl, rfl, fun y6 m6 => in_use rfl m6 fun H16 t6 k6 => ⟨rfl, ?_⟩⟩
    obtain ⟨x6, g6, h6⟩ := k6
    refine ⟨y6, x6, _, _, _, _, rfl, T.e_BadLine, g6, h6, rfl, ?_⟩
    have GA := GA.same t6
    have GB := GB.same t6
    have lk := t6 _ _ lk
    refine ⟨(by show 2 ≤ sizeLine; rw [sizeLine_eq]; decide), fun pk1 nk1 => ⟨pk0, pk1, _, _, rfl, rfl, (Same.upd nk1) _ _ lk, upd_same, (by show 7 ≤ sizeLine; rw [sizeLine_eq]; decide), fun pk2 nk2 => ?_⟩⟩
    have GA := GA.same ((Same.upd nk1 (o := .lst [vb, va])).trans (Same.upd nk2 (o := .lst [va, vb, va, vb, va, vb, va])))
    have GB := GB.same ((Same.upd nk1 (o := .lst [vb, va])).trans (Same.upd nk2 (o := .lst [va, vb, va, vb, va, vb, va])))
    have lk := lst_at nk2 (xs := [va, vb, va, vb, va, vb, va])
    refine ⟨_, rfl, rfl, fun y7 m7 => in_use rfl m7 fun H17 t7 k7 => ⟨rfl, ?_⟩⟩
    obtain ⟨x7, g7, h7⟩ := k7
    refine ⟨y7, x7, _, _, _, _, rfl, T.e_BadNumber, g7, h7, rfl, ?_⟩
    have GA := GA.same t7
    have GB := GB.same t7
    have lk := t7 _ _ lk
    refine ⟨_, rfl, rfl, fun y8 m8 => in_use rfl m8 fun H18 t8 k8 => ⟨rfl, ?_⟩⟩
    obtain ⟨x8, g8, h8⟩ := k8
    refine ⟨y8, x8, _, _, _, _, rfl, T.e_BadRow, g8, h8, rfl, ?_⟩
    have GA := GA.same t8
    have GB := GB.same t8
    have lk := t8 _ _ lk
    refine ⟨_, rfl, rfl, fun y9 m9 => in_use rfl m9 fun H19 t9 k9 => ⟨rfl, ?_⟩⟩
    obtain ⟨x9, g9, h9⟩ := k9
    refine ⟨y9, x9, _, _, _, _, rfl, T.e_NoLine, g9, h9, rfl, ?_⟩
    have GA := GA.same t9
    have GB := GB.same t9
    have lk := t9 _ _ lk
    refine ⟨_, rfl, rfl, fun y10 m10 => in_use rfl m10 fun H20 t10 k10 => ⟨rfl, ?_⟩⟩
    obtain ⟨x10, g10, h10⟩ := k10
    refine ⟨y10, x10, _, _, _, _, rfl, T.e_BadAnswer, g10, h10, rfl, ?_⟩
    have GA := GA.same t10
    have GB := GB.same t10
    have lk := t10 _ _ lk
    refine ⟨(by show 4 ≤ sizeLine; rw [sizeLine_eq]; decide), fun pm0 nm0 => ?_⟩
    have GA := GA.same (Same.upd nm0 (o := .lst [va, vb, va, vb]))
    have GB := GB.same (Same.upd nm0 (o := .lst [va, vb, va, vb]))
    have lk := (Same.upd nm0 (o := .lst [va, vb, va, vb])) _ _ lk
    have lm := lst_at nm0 (xs := [va, vb, va, vb])
    refine ⟨_, rfl, ?_⟩
    refine ⟨_, rfl, rfl, fun y11 m11 => in_use rfl m11 fun H21 t11 k11 => ⟨rfl, ?_⟩⟩
    obtain ⟨x11, g11, h11⟩ := k11
    refine ⟨y11, x11, _, _, _, _, rfl, T.e_BadShare, g11, h11, rfl, ?_⟩
    have GA := GA.same t11
    have GB := GB.same t11
    have lk := t11 _ _ lk
    have lm := t11 _ _ lm
    refine ⟨_, rfl, rfl, fun y12 m12 => in_use rfl m12 fun H22 t12 k12 => ⟨rfl, ?_⟩⟩
    obtain ⟨x12, g12, h12⟩ := k12
    refine ⟨y12, x12, _, _, _, _, rfl, T.e_Never, g12, h12, rfl, ?_⟩
    have GA := GA.same t12
    have GB := GB.same t12
    have lk := t12 _ _ lk
    have lm := t12 _ _ lm
    refine ⟨_, rfl, rfl, fun y13 m13 => in_use rfl m13 fun H23 t13 k13 => ⟨rfl, ?_⟩⟩
    obtain ⟨x13, g13, h13⟩ := k13
    refine ⟨y13, x13, _, _, _, _, rfl, T.e_BadLine, g13, h13, rfl, ?_⟩
    have GA := GA.same t13
    have GB := GB.same t13
    have lk := t13 _ _ lk
    have lm := t13 _ _ lm
    refine ⟨(by show 3 ≤ sizeLine; rw [sizeLine_eq]; decide), fun pm1 nm1 => ⟨pm0, pm1, _, _, rfl, rfl, (Same.upd nm1) _ _ lm, upd_same, (by show 7 ≤ sizeLine; rw [sizeLine_eq]; decide), fun pm2 nm2 => ?_⟩⟩
    have GA := GA.same ((Same.upd nm1 (o := .lst [va, vb, va])).trans (Same.upd nm2 (o := .lst [va, vb, va, vb, va, vb, va])))
    have GB := GB.same ((Same.upd nm1 (o := .lst [va, vb, va])).trans (Same.upd nm2 (o := .lst [va, vb, va, vb, va, vb, va])))
    have lk := ((Same.upd nm1 (o := .lst [va, vb, va])).trans (Same.upd nm2 (o := .lst [va, vb, va, vb, va, vb, va]))) _ _ lk
    have lm := lst_at nm2 (xs := [va, vb, va, vb, va, vb, va])
    dsimp only [tNext]
    refine ⟨7, rfl, by decide, by decide, ?_⟩
    refine for_range (n := 7) (fun k σ H' => ∃ o6 o7, σ = [some (.ref a), some (.ref pb), some va, some vb, some (.ref pk2), some (.ref pm2), o6, o7] ∧ H' pk2 = some (.lst [va, vb, va, vb, va, vb, va]) ∧ H' pm2 = some (.lst [va, vb, va, vb, va, vb, va]) ∧ Good pb H' va ∧ Good pb H' vb)
      ⟨_, _, rfl, lk, lm, GA, GB⟩ ?turn ?after
    case after =>
      rintro σ H' ⟨o6, o7, rfl, _⟩
      exact ⟨rfl, fun H5 s5 => q _⟩
    case turn =>
      rintro k σ H' hk ⟨o6, o7, rfl, ek, em, ga, gb⟩
      refine ⟨_, rfl, _, _, rfl, rfl, (by show (0 : Int) < 2; decide), rfl, _, rfl, ite2 (fun e => ?_) (fun e => ?_)⟩
      · have e1 : (0 + (k : Int)) % 2 = 0 := V.int.inj (of_decide_eq_true e)
        have e2 : k % 2 = 0 := by omega
        have ev : [va, vb, va, vb, va, vb, va][k]? = some va := by rw [at_k hk, if_pos e2]
        have ek' : atI [va, vb, va, vb, va, vb, va] (0 + (k : Int)) = some va := by
          rw [Int.zero_add]
          exact atI_nat ev
        obtain ⟨t, b, ty, kt⟩ := ga.kind (K := K)
        refine ⟨_, rfl, ?_⟩
        refine ⟨_, rfl, _, rfl, pk2, _, _, va, rfl, rfl, SqL.of ek, ek', _, rfl, va, t, b, rfl, ga.sho, ty, kt, true, rfl, iteF ?_⟩
        refine ⟨_, rfl, _, rfl, pm2, _, _, va, rfl, rfl, SqL.of em, ek', _, rfl, va, t, b, rfl, ga.sho, ty, kt, true, rfl, iteF ?_⟩
        exact ⟨_, _, rfl, ek, em, ga, gb⟩
      · have e1 : ¬ (0 + (k : Int)) % 2 = 0 := fun z => e (decide_eq_true (congrArg V.int z))
        have e2 : ¬ k % 2 = 0 := by omega
        have ev : [va, vb, va, vb, va, vb, va][k]? = some vb := by rw [at_k hk, if_neg e2]
        have ek' : atI [va, vb, va, vb, va, vb, va] (0 + (k : Int)) = some vb := by
          rw [Int.zero_add]
          exact atI_nat ev
        obtain ⟨t, b, ty, kt⟩ := gb.kind (K := K)
        refine ⟨_, rfl, ?_⟩
        refine ⟨_, rfl, _, rfl, pk2, _, _, vb, rfl, rfl, SqL.of ek, ek', _, rfl, vb, t, b, rfl, gb.sho, ty, kt, true, rfl, iteF ?_⟩
        refine ⟨_, rfl, _, rfl, pm2, _, _, vb, rfl, rfl, SqL.of em, ek', _, rfl, vb, t, b, rfl, gb.sho, ty, kt, true, rfl, iteF ?_⟩
        exact ⟨_, _, rfl, ek, em, ga, gb⟩
end

end Fo

set_option maxHeartbeats 4100000
open PySem PySem.W PySem.Calls PyProof.Rows
set_option maxHeartbeats 0 in
theorem PySem.Challenge.cw_filterorders_k01_errors_holds : PySem.Challenge.rw_filterorders_k01_errors.Holds := by
  w_on; o_law
  refine FoI.head_imp (r := OpenLaw.row PySem.Challenge.rw_filterorders_k01_errors) (q := view (OpenLaw.row PySem.Challenge.rw_filterorders_k01_errors).prog [30]) (H := Fo.hk) (ob := Fo.ob) (M := 6000) (lse := Fo.loose) (d := HandSHeadRun.topDef (OpenLaw.row PySem.Challenge.rw_filterorders_k01_errors).prog 30) (kwq := []) Fo.ob_eq
    Fo.run (by kernel_rfl) (by kernel_rfl) (by kernel_rfl) (by rfl) (by first | assumption | decide +kernel) (by decide +kernel) ⟨rfl, rfl, rfl, rfl, rfl, by decide +kernel⟩ ?hw ?hc
  case hw => w_witness2
  case hc =>
    refine L2.walk_ofE (l := PySem.Challenge.rw_filterorders_k01_errors) (n := 63) (k := 6) (x := "_law_script") (CX := L2.CX0) rfl (by decide) (by kernel_rfl) ⟨rfl, by decide, by decide⟩ ?F (fun _ _ _ _ z => z)
    intro w mg fa h Y G hmg0
    obtain ⟨K, KX, c⟩ := Y
    have hmg : mg ("law" : PySem.Str) = some (.ref fa) := by
      have e : (HandSHeadRun.topDef (OpenLaw.row PySem.Challenge.rw_filterorders_k01_errors).prog 30).name = ("law" : PySem.Str) := by kernel_rfl
      rw [← e]
      exact hmg0
    obtain ⟨T⟩ := Fo.facts KX G c
    have efa := hmg.symm.trans T.g_law
    cases efa
    exact ⟨K, T.fd_law, Fo.spLaw K, KX, fun s v => FoZ.bind1 T.F_law s v, fun H a ns hl _ hS => ⟨a, ns, rfl, hS, hl, fun _ => rfl⟩, fun base _ _ => Fo.ok_law T⟩

