import PyProof.Rows.All
import Wide.All
import OpenK.AllK
import Wide.FinOn
import HandS.ForMost
import HandS.Evl
import HandS.IsInst
import HandS.DictComp
import HandS.Zip
import HandS.Wide
import HandS.Style
import HandS.TupAny
import KE.LtData
import HandS.ExcInit
import HandS.ExcField
import HandS.Small
import HandS.TryOnly
import HandS.WordsExc
import KE.KExcSuper
import PySem.Challenge.RW_startnow_k00_error_classes
import HandS.HotCalls
import OpenK.KMore
import KE.KExcIs
import KE.KIsAll
import HandS.SetFor
section
set_option Elab.async false
set_option linter.all false
set_option maxRecDepth 100000
set_option maxHeartbeats 2000000
/-! The general part: data in the heap, own rules. -/
namespace Vf
open PySem L2 Evl
/-! ### own rules -/
section
variable {X : Cx}
/-- a < b of data that are alike -/
def rLtD (K : PySem.W.Frag) : R2 := fun x y H Q => ∃ d e, Dp K H x d ∧ Dp K H y e ∧ PySem.W.alike d e = true ∧ d ≠ .none ∧ d.depth ≤ 64 ∧ Q (.bl (PySem.W.dataLt d e)) H
theorem op_ltD (hu : X.A.units + 64 < cLine) : OpR X (compareOp .Lt) (rLtD X.K) := by
  intro pins s σ H x y v u Q I rx ry h
  obtain ⟨d, e, hd, he, ha, hn, hz, q⟩ := h
  obtain ⟨as, r1⟩ := Dp.reads I d x v hd rx
  obtain ⟨bs, r2⟩ := Dp.reads I e y u he ry
  have hm : min d.depth e.depth ≤ d.depth := Nat.min_le_left _ _
  exact PySem.W.rcLt_alike d e X.A s v u as bs r1 r2 ha hn (by omega) X.prog X.w _ _ ⟨.bl _, H, I, rfl, q⟩
/-- a ** b of a great base and a small exponent -/
def CPowW (i j : Int) : Prop := 0 ≤ j ∧ (Builtin.Int.intBits i : Int) * j ≤ 2 ^ 27
theorem op_powW : OpR X (binaryOp .Pow) (rI CPowW fun i j => .int (i ^ j.toNat)) := opI fun _ _ _ _ _ _ _ hc q => PyProof.Rows.pow_int hc.1 hc.2 q
end
/-! ### data stay -/
section
variable {K : PySem.W.Frag} {H H' : Hp}
mutual
theorem dp_ex (e : Ex H H') : ∀ {v : V} {d : PyData}, Dp K H v d → Dp K H' v d
  | _, _, .non => .non
  | _, _, .bl b => .bl b
  | _, _, .int i => .int i
  | _, _, .str x => .str x
  | _, _, .lst hs ha => .lst (ex_l e hs) (dpa_ex e ha)
  | _, _, .tup hs ha => .tup (ex_t e hs) (dpa_ex e ha)
theorem dpa_ex (e : Ex H H') : ∀ {vs : List V} {ds : List PyData}, DpAll K H vs ds → DpAll K H' vs ds
  | _, _, .nil => .nil
  | _, _, .cons h t => .cons (dp_ex e h) (dpa_ex e t)
end
theorem dpa_len : ∀ {vs : List V} {ds : List PyData}, DpAll K H vs ds → vs.length = ds.length
  | _, _, .nil => rfl
  | _, _, .cons _ t => by rw [List.length_cons, List.length_cons, dpa_len t]
theorem dpa_get : ∀ {vs : List V} {ds : List PyData} {i : Nat} {v : V}, DpAll K H vs ds → vs[i]? = some v → ∃ d, ds[i]? = some d ∧ Dp K H v d
  | _, _, _, _, .nil, e => by simp at e
  | _, _, 0, _, .cons h _, e => by simp at e; subst e; exact ⟨_, rfl, h⟩
  | _, _, i + 1, v, .cons _ t, e => by
    obtain ⟨u, h1, h2⟩ := dpa_get (i := i) (v := v) t (by simpa using e)
    exact ⟨u, by simpa using h1, h2⟩
theorem dpa_at : ∀ {vs : List V} {ds : List PyData} {i : Nat} {d : PyData}, DpAll K H vs ds → ds[i]? = some d → ∃ v, vs[i]? = some v ∧ Dp K H v d
  | _, _, _, _, .nil, e => by simp at e
  | _, _, 0, _, .cons h _, e => by simp at e; subst e; exact ⟨_, rfl, h⟩
  | _, _, i + 1, d, .cons _ t, e => by
    obtain ⟨u, h1, h2⟩ := dpa_at (i := i) (d := d) t (by simpa using e)
    exact ⟨u, by simpa using h1, h2⟩
/-- the name of a datum's type -/
def tyN : PyData → String
  | .none => "NoneType" | .bool _ => "bool" | .int _ => "int" | .str _ => "str" | .list _ => "list" | .tuple _ => "tuple" | .dict _ => "dict"
theorem ty_lst {a : Addr} {xs : List V} (h : SqL K H a xs) : TyX K H (.ref a) (.type "list") := by
  rcases h with (h | ⟨o, h⟩) | ⟨o, its, n, hk, hc, _⟩
  · exact .base (.lst h)
  · exact .base (.frz h)
  · exact .kList hk hc
theorem ty_tup {a : Addr} {xs : List V} (h : SqT K H a xs) : TyX K H (.ref a) (.type "tuple") := by
  rcases h with (h | ⟨o, h⟩) | ⟨o, its, n, hk, hc, _⟩
  · exact .base (.tup h)
  · exact .fTuple h
  · exact .kTuple hk hc
theorem ty_dp {v : V} {d : PyData} (h : Dp K H v d) : TyX K H v (.type (tyN d)) := by
  cases h with
  | non => exact .base .non
  | bl b => exact .base (.bl b)
  | int i => exact .base (.int i)
  | str x => exact .base (.str x)
  | lst hs _ => exact ty_lst hs
  | tup hs _ => exact ty_tup hs
/-- isinstance(x, T) of a datum, T one of int, bool, str, list, tuple -/
def isT (n : String) (d : PyData) : Bool := (kitB (tyN d) n).getD false
def okT (n : String) : Bool := ["NoneType", "bool", "int", "str", "list", "tuple", "dict"].all fun t => (kitB t n).isSome
theorem okT_int : okT "int" = true := by decide +kernel
theorem okT_bool : okT "bool" = true := by decide +kernel
theorem okT_str : okT "str" = true := by decide +kernel
theorem okT_list : okT "list" = true := by decide +kernel
theorem okT_tuple : okT "tuple" = true := by decide +kernel
theorem kit_isT {n : String} {d : PyData} (h : okT n = true) : kitB (tyN d) n = some (isT n d) := by
  unfold okT at h
  rw [List.all_eq_true] at h
  have h2 := h (tyN d) (by cases d <;> simp [tyN])
  unfold isT
  cases e : kitB (tyN d) n with
  | none => rw [e] at h2; cases h2
  | some b => rfl
variable {σ : L2.St} {te : TE} {v : V} {d : PyData} {n : String}
theorem rc_isi (ok : okT n = true) (h : Dp K H v d) : RC (rIsi K) [v, .ty n] H (.bl (isT n d)) := fun H1 e Q q =>
  ⟨v, .ty n, .type (tyN d), .type n, isT n d, rfl, .ty n, ty_dp (dp_ex e h), kit_ty (kit_isT ok), q H1 (Ex.refl H1)⟩
theorem ev_isi (ok : okT n = true) (hv : Ev te σ H v) (h : Dp K H v d) : Ev (tCB (rIsi K) (tCons te (tCons (tC (.ty n)) tNil))) σ H (.bl (isT n d)) := ev_cb (ea_cons hv (ea_cons ev_c ea_nil)) (rc_isi ok h)
theorem isT_int : isT "int" d = (match d with | .int _ => true | .bool _ => true | _ => false) := by
  cases d <;> simp only [isT, tyN] <;> decide +kernel
theorem isT_bool : isT "bool" d = (match d with | .bool _ => true | _ => false) := by
  cases d <;> simp only [isT, tyN] <;> decide +kernel
theorem isT_str : isT "str" d = (match d with | .str _ => true | _ => false) := by
  cases d <;> simp only [isT, tyN] <;> decide +kernel
theorem isT_list : isT "list" d = (match d with | .list _ => true | _ => false) := by
  cases d <;> simp only [isT, tyN] <;> decide +kernel
theorem isT_tuple : isT "tuple" d = (match d with | .tuple _ => true | _ => false) := by
  cases d <;> simp only [isT, tyN] <;> decide +kernel
end

/-! ### either of two readings -/
section
variable {X : Cx} {e a b : Expr} {op : CmpOp} {t u : TE}
def tEi (t u : TE) : TE := fun σ H Q => t σ H Q ∨ u σ H Q
theorem pe_ei (h1 : PE X e t) (h2 : PE X e u) : PE X e (tEi t u) := ⟨fun pins s σ H Q I h => h.elim (h1.run pins s σ H Q I) (h2.run pins s σ H Q I)⟩
end
theorem hu64 {A : Around} {k : Nat} (hr : Room k A) : A.units + 64 < cLine := Nat.lt_of_le_of_lt (by omega) hr.un
/-! ### a def of the text that is called -/
structure Cal (P : Program) (w : World) (K : PySem.W.Frag) (mg : Str → Option Value) (base : Heap) (k : Nat) (x : Str) (ps : List Str) (sp : Sp) : Prop where
  ex : ∃ f fd, FnOk P w K mg base CX0 k f fd ps sp ∧ mg x = some (.ref f) ∧ PySem.W.keepIn K (.ref f) = true ∧ Binds K fd ps []
section
variable {X : Cx} {k : Nat} {x : Str} {ps : List Str} {sp : Sp} {p pos : Pos} {e : Expr} {es : List Expr} {t : TA}
theorem pe_cal (C : Cal X.prog X.w X.K X.mg X.base k x ps sp) (hr : Room k X.A) (hg : Gl X x) (ha : PA X (e :: es) t) (hdb : (x == ("__debug__" : Str)) = false := by decide)
    (he : starEach (e :: es) X.env = (false, eval e X.env) :: starEach es X.env := by rfl) (hpl : (backTo pos (starEach es X.env)).any (·.1) = false := by rfl) : PE X (.Call (.Name x p) (e :: es) [] pos) (tCall sp [] E0 t) := by
  obtain ⟨f, fd, F, hm, hk, hb⟩ := C.ex
  exact pe_call F hr hg hm hk hb .nil pass0 ha hdb he hpl
end
/-! ### what evaluates to a datum -/
section
variable {K : PySem.W.Frag} {σ σ2 : L2.St} {H H' : Hp} {ta tb te tx tl : TE} {t u : TT} {x y z v : V} {r : R2}
theorem ev_ei1 (h : Ev ta σ H v) : Ev (tEi ta tb) σ H v := fun H1 e Q q => .inl (h H1 e Q q)
theorem ev_ei2 (h : Ev tb σ H v) : Ev (tEi ta tb) σ H v := fun H1 e Q q => .inr (h H1 e Q q)
def EvD (K : PySem.W.Frag) (te : TE) (σ : L2.St) (H : Hp) (d : PyData) : Prop := ∀ H1, Ex H H1 → ∀ Q : VK, (∀ v H2, Ex H1 H2 → Dp K H2 v d → Q v H2) → te σ H1 Q
def EvDs (K : PySem.W.Frag) (ta : TA) (σ : L2.St) (H : Hp) (ds : List PyData) : Prop := ∀ H1, Ex H H1 → ∀ Q : List V → Hp → Prop, (∀ vs H2, Ex H1 H2 → DpAll K H2 vs ds → Q vs H2) → ta σ H1 Q
/-- a new list of data -/
def EvN (K : PySem.W.Frag) (te : TE) (σ : L2.St) (H : Hp) (ds : List PyData) : Prop := ∀ H1, Ex H H1 → ∀ Q : VK, (∀ p xs H2, H1 p = none → Ex H1 H2 → H2 p = some (.lst xs) → DpAll K H2 xs ds → Q (.ref p) H2) → te σ H1 Q
theorem EvD.mono {d : PyData} (e : Ex H H') (h : EvD K te σ H d) : EvD K te σ H' d := fun H1 a Q q => h H1 (e.trans a) Q q
theorem EvN.mono {ds : List PyData} (e : Ex H H') (h : EvN K te σ H ds) : EvN K te σ H' ds := fun H1 a Q q => h H1 (e.trans a) Q q
theorem ed_of {d : PyData} (h : Ev te σ H v) (hd : Dp K H v d) : EvD K te σ H d := fun H1 e Q q => h H1 e _ fun H2 e2 => q v H2 e2 (dp_ex (e.trans e2) hd)
theorem ed_n {ds : List PyData} (h : EvN K te σ H ds) : EvD K te σ H (.list ds) := fun H1 e Q q => h H1 e _ fun p xs H2 _ e2 h2 ha => q _ H2 e2 (.lst (sq_of h2) ha)
theorem ed_l {ds : List PyData} {xs : List V} (h : EvL te σ H xs) (ha : DpAll K H xs ds) : EvN K te σ H ds := fun H1 e Q q => h H1 e _ fun p H2 hp e2 h2 => q p xs H2 hp e2 h2 (dpa_ex (e.trans e2) ha)
theorem ev_bool {b : Bool} (h : EvD K te σ H (.bool b)) : Ev te σ H (.bl b) := fun H1 e Q q => h H1 e _ fun v H2 e2 hd => by
  cases hd
  exact q H2 e2
theorem ev_intD {i : Int} (h : EvD K te σ H (.int i)) : Ev te σ H (.int i) := fun H1 e Q q => h H1 e _ fun v H2 e2 hd => by
  cases hd
  exact q H2 e2
theorem ev_strD {i : Str} (h : EvD K te σ H (.str i)) : Ev te σ H (.str i) := fun H1 e Q q => h H1 e _ fun v H2 e2 hd => by
  cases hd
  exact q H2 e2
theorem eds_nil : EvDs K tNil σ H [] := fun H1 _ Q q => q [] H1 (Ex.refl H1) .nil
theorem eds_cons {tr : TA} {d : PyData} {ds : List PyData} (h : EvD K te σ H d) (hr : EvDs K tr σ H ds) : EvDs K (tCons te tr) σ H (d :: ds) := fun H1 e Q q =>
  h H1 e _ fun v H2 e2 hd => hr H2 (e.trans e2) _ fun vs H3 e3 hds => q (v :: vs) H3 (e2.trans e3) (.cons (dp_ex e3 hd) hds)
theorem ed_tup {tr : TA} {ds : List PyData} (h : EvDs K tr σ H ds) (hl : ds.length ≤ 100000) : EvD K (tTup tr) σ H (.tuple ds) := fun H1 e Q q =>
  h H1 e _ fun vs H2 e2 ha => ⟨sz_of (by rw [dpa_len ha]; exact hl), fun p hp => q _ _ (e2.trans (Ex.new hp)) (.tup (st_of upd_same) (dpa_ex (Ex.new hp) ha))⟩
theorem en_lst {tr : TA} {ds : List PyData} (h : EvDs K tr σ H ds) (hl : ds.length ≤ 100000) : EvN K (tLst tr) σ H ds := fun H1 e Q q =>
  h H1 e _ fun vs H2 e2 ha => ⟨sz_of (by rw [dpa_len ha]; exact hl), fun p hp => q _ vs _ (fresh_back e2 hp) (e2.trans (Ex.new hp)) upd_same (dpa_ex (Ex.new hp) ha)⟩
theorem edt_ite {d : PyData} {b : Bool} (h : EvT t σ H b) (h1 : b = true → EvD K ta σ H d) (h2 : b = false → EvD K tb σ H d) : EvD K (tIf t ta tb) σ H d := fun H1 e Q q => h H1 e _ fun H2 e2 => by
  cases b with
  | true =>
    show ta σ H2 Q
    exact h1 rfl H2 (e.trans e2) Q fun v H3 e3 hd => q v H3 (e2.trans e3) hd
  | false =>
    show tb σ H2 Q
    exact h2 rfl H2 (e.trans e2) Q fun v H3 e3 hd => q v H3 (e2.trans e3) hd
/-- an operation on two data -/
def RD (K : PySem.W.Frag) (r : R2) (d e : PyData) (H : Hp) (z : V) : Prop := ∀ H1, Ex H H1 → ∀ x y, Dp K H1 x d → Dp K H1 y e → ∀ Q : VK, Q z H1 → r x y H1 Q
theorem ev_opD {d d' : PyData} (ha : EvD K ta σ H d) (hb : EvD K tb σ H d') (hr : RD K r d d' H z) : Ev (tOp r ta tb) σ H z := fun H1 e Q q =>
  ha H1 e _ fun x H2 e2 hx => hb H2 (e.trans e2) _ fun y H3 e3 hy => hr H3 ((e.trans e2).trans e3) x y (dp_ex e3 hx) hy Q (q H3 (e2.trans e3))
theorem rd_ltD {d d' : PyData} (h : PySem.W.alike d d' = true) (hn : d ≠ .none) (hz : d.depth ≤ 64) : RD K (rLtD K) d d' H (.bl (PySem.W.dataLt d d')) := fun H1 _ x y hx hy Q q => ⟨d, d', hx, hy, h, hn, hz, q⟩
theorem rd_eqD {d d' : PyData} (h : SeqAt.shaped d = true) (h' : SeqAt.shaped d' = true) : RD K (rEqD K) d d' H (.bl (PyData.eqv d d')) := fun H1 _ x y hx hy Q q => ⟨d, d', hx, hy, h, h', q⟩
theorem rd_neD {d d' : PyData} (h : SeqAt.shaped d = true) (h' : SeqAt.shaped d' = true) : RD K (rNeD K) d d' H (.bl (!PyData.eqv d d')) := fun H1 _ x y hx hy Q q => ⟨d, d', hx, hy, h, h', q⟩
theorem rd_eqS {a b : Str} : RD K rEq (.str a) (.str b) H (.bl (decide (a = b))) := fun H1 _ x y hx hy Q q => by
  cases hx
  cases hy
  refine ⟨rfl, ?_⟩
  have e : decide (V.str a = V.str b) = decide (a = b) := by
    by_cases h : a = b
    · subst h; simp
    · rw [decide_eq_false h]; exact decide_eq_false fun z => h (V.str.inj z)
  rw [e]
  exact q
theorem rd_neS {a b : Str} : RD K rNe (.str a) (.str b) H (.bl (!decide (a = b))) := fun H1 _ x y hx hy Q q => by
  cases hx
  cases hy
  refine ⟨rfl, ?_⟩
  have e : decide (V.str a = V.str b) = decide (a = b) := by
    by_cases h : a = b
    · subst h; simp
    · rw [decide_eq_false h]; exact decide_eq_false fun z => h (V.str.inj z)
  rw [e]
  exact q
theorem rd_I0 {g : Int → Int → V} {i j : Int} : RD K (rI0 g) (.int i) (.int j) H (g i j) := fun H1 _ x y hx hy Q q => by
  cases hx
  cases hy
  exact ⟨i, j, rfl, rfl, q⟩
/-- len of a list or tuple -/
theorem ev_lenT {p : Addr} {xs : List V} (ha : Ev ta σ H (.ref p)) (h : SqT K H p xs) : Ev (tCB (rLenS K) (tCons ta tNil)) σ H (.int (xs.length : Int)) := fun H1 e Q q =>
  ha H1 e _ fun H2 e2 => ⟨p, xs, rfl, Or.inr (ex_t (e.trans e2) h), q H2 e2⟩
theorem ev_lenD {ds : List PyData} (ha : EvD K ta σ H (.tuple ds)) : Ev (tCB (rLenS K) (tCons ta tNil)) σ H (.int (ds.length : Int)) := fun H1 e Q q =>
  ha H1 e _ fun v H2 e2 hd => by
    cases hd with
    | tup hs hall =>
      refine ⟨_, _, rfl, Or.inr hs, ?_⟩
      rw [dpa_len hall]
      exact q H2 e2
theorem ev_lenL {ds : List PyData} (ha : EvD K ta σ H (.list ds)) : Ev (tCB (rLenS K) (tCons ta tNil)) σ H (.int (ds.length : Int)) := fun H1 e Q q =>
  ha H1 e _ fun v H2 e2 hd => by
    cases hd with
    | lst hs hall =>
      refine ⟨_, _, rfl, Or.inl hs, ?_⟩
      rw [dpa_len hall]
      exact q H2 e2
def rLenStr : List V → Hp → VK → Prop := fun xs H Q => ∃ z, xs = [.str z] ∧ z.length ≤ sizeLine ∧ Q (.int z.length) H
theorem ev_lenStr {s : Str} (ha : Ev ta σ H (.str s)) (h : s.length ≤ 100000) : Ev (tCB rLenStr (tCons ta tNil)) σ H (.int (s.length : Int)) := fun H1 e Q q =>
  ha H1 e _ fun H2 e2 => ⟨s, rfl, sz_of h, q H2 e2⟩
/-- xs[i] -/
theorem atI_of {ds : List PyData} {vs : List V} {i : Int} {j : Nat} {d : PyData} (h : DpAll K H vs ds) (hi : i = (j : Int)) (hd : ds[j]? = some d) : ∃ v, atI vs i = some v ∧ Dp K H v d := by
  obtain ⟨v, h1, h2⟩ := dpa_at h hd
  exact ⟨v, at_of hi h1, h2⟩
theorem ed_ixT {ds : List PyData} {i : Int} {d : PyData} (j : Nat) (ha : EvD K ta σ H (.tuple ds)) (hb : Ev tb σ H (.int i)) (hi : i = (j : Int)) (hd : ds[j]? = some d) : EvD K (tOp (rIxT K) ta tb) σ H d := fun H1 e Q q =>
  ha H1 e _ fun v H2 e2 h2 => hb H2 (e.trans e2) _ fun H3 e3 => by
    cases h2 with
    | tup hs hall =>
      obtain ⟨w, h4, h5⟩ := atI_of (dpa_ex e3 hall) hi hd
      exact ⟨_, _, i, w, rfl, rfl, ex_t e3 hs, h4, q w H3 (e2.trans e3) h5⟩
theorem ed_ixL {ds : List PyData} {i : Int} {d : PyData} (j : Nat) (ha : EvD K ta σ H (.list ds)) (hb : Ev tb σ H (.int i)) (hi : i = (j : Int)) (hd : ds[j]? = some d) : EvD K (tOp (rIxL K) ta tb) σ H d := fun H1 e Q q =>
  ha H1 e _ fun v H2 e2 h2 => hb H2 (e.trans e2) _ fun H3 e3 => by
    cases h2 with
    | lst hs hall =>
      obtain ⟨w, h4, h5⟩ := atI_of (dpa_ex e3 hall) hi hd
      exact ⟨_, _, i, w, rfl, rfl, ex_l e3 hs, h4, q w H3 (e2.trans e3) h5⟩
/-- of a list or a tuple -/
def seqD (b : Bool) (ds : List PyData) : PyData := if b = true then .list ds else .tuple ds
theorem ed_ixS {b : Bool} {ds : List PyData} {i : Int} {d : PyData} (j : Nat) (ha : EvD K ta σ H (seqD b ds)) (hb : Ev tb σ H (.int i)) (hi : i = (j : Int)) (hd : ds[j]? = some d) : EvD K (tOp (rIx K) ta tb) σ H d := fun H1 e Q q =>
  ha H1 e _ fun v H2 e2 h2 => hb H2 (e.trans e2) _ fun H3 e3 => by
    cases b with
    | true =>
      cases h2 with
      | lst hs hall =>
        obtain ⟨w, h4, h5⟩ := atI_of (dpa_ex e3 hall) hi hd
        exact .inl ⟨_, _, i, w, rfl, rfl, ex_l e3 hs, h4, q w H3 (e2.trans e3) h5⟩
    | false =>
      cases h2 with
      | tup hs hall =>
        obtain ⟨w, h4, h5⟩ := atI_of (dpa_ex e3 hall) hi hd
        exact .inr (.inl ⟨_, _, i, w, rfl, rfl, ex_t e3 hs, h4, q w H3 (e2.trans e3) h5⟩)
theorem ev_lenSeq {b : Bool} {ds : List PyData} (ha : EvD K ta σ H (seqD b ds)) : Ev (tCB (rLenS K) (tCons ta tNil)) σ H (.int (ds.length : Int)) := by
  cases b with
  | true => exact ev_lenL ha
  | false => exact ev_lenD ha
/-- all(a list of bools) -/
theorem dpa_bools : ∀ {vs : List V} {bs : List Bool}, DpAll K H vs (bs.map PyData.bool) → vs = bs.map V.bl
  | [], [], _ => rfl
  | [], _ :: _, h => by cases h
  | _ :: _, [], h => by cases h
  | v :: vs, b :: bs, h => by
    cases h with
    | cons h1 h2 =>
      cases h1
      rw [dpa_bools h2, List.map_cons]
theorem ev_all {bs : List Bool} (h : EvD K tl σ H (.list (bs.map PyData.bool))) : Ev (tCB (rAll K) (tCons tl tNil)) σ H (.bl (bs.all id)) := fun H1 e Q q =>
  h H1 e _ fun v H2 e2 hd => by
    cases hd with
    | lst hs hall =>
      rw [dpa_bools hall] at hs
      exact ⟨_, bs, rfl, hs, q H2 e2⟩
/-- a < b < c -/
theorem ev_chain {r' : R2} {tc : TE} {b c : Bool} {d d' d2 : PyData} (ha : EvD K ta σ H d) (hb : EvD K tb σ H d') (hr : RD K r d d' H (.bl b)) (hc : b = true → EvD K tc σ H d2) (hr' : b = true → RD K r' d' d2 H (.bl c)) :
    Ev (tChain r r' ta tb tc) σ H (.bl (b && c)) := fun H1 e Q q =>
  ha H1 e _ fun x H2 e2 hx => hb H2 (e.trans e2) _ fun y H3 e3 hy => hr H3 ((e.trans e2).trans e3) x y (dp_ex e3 hx) hy _ ⟨b, rfl, by
    cases b with
    | true =>
      show tc σ H3 fun w' H4 => r' y w' H4 Q
      exact hc rfl H3 ((e.trans e2).trans e3) _ fun z H4 e4 hz => hr' rfl H4 (((e.trans e2).trans e3).trans e4) y z (dp_ex e4 hy) hz Q (q H4 ((e2.trans e3).trans e4))
    | false =>
      show Q (.bl false) H3
      exact q H3 (e2.trans e3)⟩
/-- a dict told by texts -/
theorem ev_dget {a : Addr} {kvs : List (Key × V)} {k : Key} {d : PyData} (ha : Ev ta σ H (.ref a)) (hd : H a = some (.dK kvs)) (hk : Ev tb σ H (kV k)) (hv : valV kvs k = some v) : Ev (tDGet ta tb) σ H v := fun H1 e Q q =>
  ha H1 e _ fun H2 e2 => hk H2 (e.trans e2) _ fun H3 e3 => ⟨a, v, rfl, by
    have g := DGet.k (k := k) (((e.trans e2).trans e3) a _ hd)
    rw [hv] at g
    exact g, q H3 (e2.trans e3)⟩
theorem ev_din {a : Addr} {kvs : List (Key × V)} {k : Key} {b : Bool} (hk : Ev tb σ H (kV k)) (ha : Ev ta σ H (.ref a)) (hd : H a = some (.dK kvs)) (hb : (valV kvs k).isSome = b) : Ev (tDIn tb ta) σ H (.bl b) := fun H1 e Q q =>
  hk H1 e _ fun H2 e2 => ha H2 (e.trans e2) _ fun H3 e3 => ⟨a, valV kvs k, rfl, DGet.k (((e.trans e2).trans e3) a _ hd), by
    rw [hb]
    exact q H3 (e2.trans e3)⟩
theorem ev_dnin {a : Addr} {kvs : List (Key × V)} {k : Key} {b : Bool} (hk : Ev tb σ H (kV k)) (ha : Ev ta σ H (.ref a)) (hd : H a = some (.dK kvs)) (hb : (valV kvs k).isSome = b) : Ev (tDNotIn tb ta) σ H (.bl (!b)) := fun H1 e Q q =>
  hk H1 e _ fun H2 e2 => ha H2 (e.trans e2) _ fun H3 e3 => ⟨a, valV kvs k, rfl, DGet.k (((e.trans e2).trans e3) a _ hd), by
    rw [hb]
    exact q H3 (e2.trans e3)⟩
/-- a promise that takes a datum and gives a value -/
theorem ev_callD {sp : Sp} {tr : TA} {E : XK} {ds : List PyData} (h : EvDs K tr σ H ds) (hs : ∀ H1 vs, Ex H H1 → DpAll K H1 vs ds → SpV sp (vs ++ []) H1 z) : Ev (tCall sp [] E tr) σ H z := fun H1 e Q q =>
  h H1 e _ fun vs H2 e2 ha => hs H2 vs (e.trans e2) ha H2 (Ex.refl H2) Q (fun H3 e3 => q H3 (e2.trans e3)) E
/-! ### comprehensions -/
def givenD (n : Nat) (f : Nat → Bool) (v : Nat → PyData) : List PyData := ((List.range n).filter f).map v
theorem givenD_yes {n : Nat} {f : Nat → Bool} {v : Nat → PyData} (h : f n = true) : givenD (n + 1) f v = givenD n f v ++ [v n] := by
  unfold givenD
  rw [List.range_succ, List.filter_append, List.map_append, List.filter_cons, if_pos h] <;> rfl
theorem givenD_no {n : Nat} {f : Nat → Bool} {v : Nat → PyData} (h : f n = false) : givenD (n + 1) f v = givenD n f v := by
  unfold givenD
  rw [List.range_succ, List.filter_append, List.map_append, List.filter_cons, if_neg (by rw [h]; decide)]
  show _ ++ [] = _
  rw [List.append_nil]
theorem givenD_len (n : Nat) (f : Nat → Bool) (v : Nat → PyData) : (givenD n f v).length ≤ n := by
  unfold givenD
  rw [List.length_map]
  have h := List.length_filter_le f (List.range n)
  rw [List.length_range] at h
  exact h
theorem dpa_snoc : ∀ {vs : List V} {ds : List PyData} {v : V} {d : PyData}, DpAll K H vs ds → Dp K H v d → DpAll K H (vs ++ [v]) (ds ++ [d])
  | _, _, _, _, .nil, h => .cons h .nil
  | _, _, _, _, .cons h t, h' => .cons h (dpa_snoc t h')
/-- the heap without one place -/
def but (H : Hp) (p : Addr) : Hp := fun b => if b = p then none else H b
theorem but_ex (H : Hp) (p : Addr) : Ex (but H p) H := fun b o h => by
  unfold but at h
  split at h
  · cases h
  · exact h
theorem but_same {p : Addr} : but H p p = none := by unfold but; rw [if_pos rfl]
theorem ex_but {p : Addr} (e : Ex H H') (h : H p = none) : Ex H (but H' p) := fun b o hb => by
  unfold but
  rw [if_neg (ne_of_none hb h)]
  exact e b o hb
theorem but_upd {p : Addr} {o : HO} (e : Ex H H') : Ex (but H p) (upd H' p o) := fun b u hb => by
  unfold but at hb
  split at hb
  · cases hb
  · rename_i hn
    rw [upd_ne hn]
    exact e b u hb
theorem but_mono {p : Addr} (e : Ex H H') : Ex (but H p) (but H' p) := fun b u hb => by
  unfold but at hb ⊢
  split at hb
  · cases hb
  · rename_i hn
    rw [if_neg hn]
    exact e b u hb
theorem but_put {p : Addr} {o : HO} : but (upd H p o) p = but H p := by
  funext b
  unfold but upd
  split <;> rfl
mutual
/-- no list, no dict in it -/
def noL : PyData → Bool
  | .list _ => false
  | .dict _ => false
  | .tuple xs => noLs xs
  | _ => true
def noLs : List PyData → Bool
  | [] => true
  | x :: xs => noL x && noLs xs
end
theorem sqt_but {p a : Addr} {xs ys : List V} (hp : H p = some (.lst ys)) (h : SqT K H a xs) : SqT K (but H p) a xs := by
  have ne : ∀ o, H a = some o → (∀ zs, o ≠ .lst zs) → a ≠ p := fun o e n z => by
    subst z
    rw [e] at hp
    exact n ys (Option.some.inj hp)
  rcases h with (h | ⟨o, h⟩) | h
  · refine .inl (.inl ?_)
    unfold but
    rw [if_neg (ne _ h fun zs z => nomatch z)]
    exact h
  · refine .inl (.inr ⟨o, ?_⟩)
    unfold but
    rw [if_neg (ne _ h fun zs z => nomatch z)]
    exact h
  · exact .inr h
mutual
theorem dp_but {p : Addr} {ys : List V} : ∀ {v : V} {d : PyData}, noL d = true → Dp K H v d → H p = some (.lst ys) → Dp K (but H p) v d
  | _, _, _, .non, _ => .non
  | _, _, _, .bl b, _ => .bl b
  | _, _, _, .int i, _ => .int i
  | _, _, _, .str x, _ => .str x
  | _, _, n, .lst hs ha, _ => nomatch n
  | _, _, n, .tup hs ha, hp => .tup (sqt_but hp hs) (dpa_but n ha hp)
theorem dpa_but {p : Addr} {ys : List V} : ∀ {vs : List V} {ds : List PyData}, noLs ds = true → DpAll K H vs ds → H p = some (.lst ys) → DpAll K (but H p) vs ds
  | _, _, _, .nil, _ => .nil
  | _, _, n, .cons h t, hp => .cons (dp_but (Bool.and_eq_true_iff.mp n).1 h hp) (dpa_but (Bool.and_eq_true_iff.mp n).2 t hp)
end
/-- the list being made stands at Dl; its items are data that don't lean on Dl -/
def Cd (K : PySem.W.Frag) (H : Hp) (f : Nat → Bool) (v : Nat → PyData) (Dl : Addr) (i : Nat) (H' : Hp) : Prop := H Dl = none ∧ Ex H H' ∧ ∃ xs, H' Dl = some (.lst xs) ∧ DpAll K (but H' Dl) xs (givenD i f v)
/-- evaluates, and what comes doesn't lean on a place that is not known yet -/
theorem cd_turn {f : Nat → Bool} {v : Nat → PyData} {Dl : Addr} {i : Nat} (p : Cd K H f v Dl i H') (hi : i < 50000) (ht : EvT t σ2 H (f i)) (he : f i = true → EvD K te σ2 H (v i)) (hf : f i = true → noL (v i) = true) :
    t σ2 H' fun b H3 => if b = true then te σ2 H3 fun y H4 => ∃ acc, H4 Dl = some (.lst acc) ∧ acc.length < sizeLine ∧ Cd K H f v Dl (i + 1) (upd H4 Dl (.lst (acc ++ [y]))) else Cd K H f v Dl (i + 1) H3 := by
  obtain ⟨p1, p2, xs, p3, p4⟩ := p
  refine ht H' p2 _ fun H3 e3 => ?_
  cases hfi : f i with
  | true =>
    show te σ2 H3 fun y H4 => ∃ acc, H4 Dl = some (.lst acc) ∧ acc.length < sizeLine ∧ Cd K H f v Dl (i + 1) (upd H4 Dl (.lst (acc ++ [y])))
    refine he hfi H3 (p2.trans e3) _ fun y H4 e4 hd => ⟨xs, e4 Dl _ (e3 Dl _ p3), sz_lt ?_, p1, Ex.mut ((p2.trans e3).trans e4) p1, xs ++ [y], upd_same, ?_⟩
    · rw [dpa_len p4]
      have := givenD_len i f v
      omega
    · rw [givenD_yes hfi, but_put]
      exact dpa_snoc (dpa_ex (but_mono (e3.trans e4)) p4) (dp_but (hf hfi) hd (e4 Dl _ (e3 Dl _ p3)))
  | false =>
    show Cd K H f v Dl (i + 1) H3
    refine ⟨p1, p2.trans e3, xs, e3 Dl _ p3, ?_⟩
    rw [givenD_no hfi]
    exact dpa_ex (but_mono e3) p4
end
end Vf
end
section
set_option Elab.async false
set_option linter.all false
set_option maxRecDepth 100000
set_option maxHeartbeats 2000000
namespace Vf
open PySem L2 Evl
section
variable {K : PySem.W.Frag} {σ σ2 : L2.St} {H H' : Hp} {ta tb te tx tl tk tv : TE} {t u : TT} {x y z v : V} {r : R2} {D : Ends} {tu tw tz : TS} {g : TG}
/-! ### comprehensions over a tuple, a list, a range, a text -/
/-- one turn's target: from what is drawn the slots σ2 come, the block's own ones alone changed -/
def GoesTo (g : TG) (x : V) (σ σ2 : L2.St) (H : Hp) : Prop := ∀ (R : L2.St → Hp → Prop) (H2 : Hp), Ex H H2 → R σ2 H2 → g x σ H2 R
theorem goes_name {i : Nat} : GoesTo (gName i) x σ (σ.set i (some x)) H := fun R H2 _ h => h
theorem goes_tup2 {i j : Nat} {a : Addr} (h : SqT K H a [x, y]) : GoesTo (gTup K 2 (gCons (gName i) (gCons (gName j) gNil))) (.ref a) σ ((σ.set i (some x)).set j (some y)) H := fun R H2 e q =>
  ⟨a, [x, y], rfl, ex_t e h, rfl, x, [y], rfl, y, [], rfl, rfl, q⟩
theorem goes_tup3 {i j k : Nat} {a : Addr} (h : SqT K H a [x, y, z]) : GoesTo (gTup K 3 (gCons (gName i) (gCons (gName j) (gCons (gName k) gNil)))) (.ref a) σ (((σ.set i (some x)).set j (some y)).set k (some z)) H := fun R H2 e q =>
  ⟨a, [x, y, z], rfl, ex_t e h, rfl, x, [y, z], rfl, y, [z], rfl, z, [], rfl, rfl, q⟩
theorem goes_tup4 {i j k l : Nat} {a : Addr} (h : SqT K H a [x, y, z, v]) : GoesTo (gTup K 4 (gCons (gName i) (gCons (gName j) (gCons (gName k) (gCons (gName l) gNil))))) (.ref a) σ ((((σ.set i (some x)).set j (some y)).set k (some z)).set l (some v)) H := fun R H2 e q =>
  ⟨a, [x, y, z, v], rfl, ex_t e h, rfl, x, [y, z, v], rfl, y, [z, v], rfl, z, [v], rfl, v, [], rfl, rfl, q⟩
variable {vs : List Nat}
theorem en_lcT {ds : List PyData} (f : Nat → Bool) (w : Nat → PyData) (h : EvD K tl σ H (.tuple ds)) (hz : ds.length ≤ 40000) (hn : ∀ i, f i = true → noL (w i) = true)
    (hg : ∀ (i : Nat) (x : V) (d : PyData) H1, Ex H H1 → ds[i]? = some d → Dp K H1 x d → ∃ σ2, wipe σ2 vs = wipe σ vs ∧ GoesTo g x (wipe σ vs) σ2 H1 ∧ EvT t σ2 H1 (f i) ∧ (f i = true → EvD K te σ2 H1 (w i))) :
    EvN K (tLc (iTup K tl) g t te vs) σ H (givenD ds.length f w) := fun H0 e Q q => h H0 e _ fun a0 H1 e1 hd => by
  cases hd with
  | @tup a xs _ hs hall =>
    refine ⟨a, rfl, ⟨xs, hs⟩, fun Dl hD => lc_tup (xs := xs) (Cd K H1 f w Dl) ⟨hD, Ex.new hD, [], upd_same, .nil⟩ (fun i H' _ p => ex_t p.2.1 hs) (fun i x H' hi p => ?_) (fun H' p => ?_)⟩
    · obtain ⟨d, hi2, hxd⟩ := dpa_get hall hi
      obtain ⟨σ2, w1, w2, w3, w4⟩ := hg i x d H1 (e.trans e1) hi2 hxd
      exact w2 _ H' p.2.1 ⟨w1, cd_turn p (by have := (List.getElem?_eq_some_iff.mp hi2).1; omega) w3 w4 (hn i)⟩
    · obtain ⟨p1, p2, ys, p3, p4⟩ := p
      rw [dpa_len hall] at p4
      exact q Dl ys H' (fresh_back e1 p1) (e1.trans p2) p3 (dpa_ex (but_ex _ _) p4)
theorem en_lcL {ds : List PyData} (f : Nat → Bool) (w : Nat → PyData) (h : EvD K tl σ H (.list ds)) (hz : ds.length ≤ 40000) (hn : ∀ i, f i = true → noL (w i) = true)
    (hg : ∀ (i : Nat) (x : V) (d : PyData) H1, Ex H H1 → ds[i]? = some d → Dp K H1 x d → ∃ σ2, wipe σ2 vs = wipe σ vs ∧ GoesTo g x (wipe σ vs) σ2 H1 ∧ EvT t σ2 H1 (f i) ∧ (f i = true → EvD K te σ2 H1 (w i))) :
    EvN K (tLc (iList K tl) g t te vs) σ H (givenD ds.length f w) := fun H0 e Q q => h H0 e _ fun a0 H1 e1 hd => by
  cases hd with
  | @lst a xs _ hs hall =>
    refine ⟨a, rfl, ⟨xs, hs⟩, fun Dl hD => lc_list (xs := xs) (Cd K H1 f w Dl) ⟨hD, Ex.new hD, [], upd_same, .nil⟩ (fun i H' _ p => ex_l p.2.1 hs) (fun i x H' hi p => ?_) (fun H' p => ?_)⟩
    · obtain ⟨d, hi2, hxd⟩ := dpa_get hall hi
      obtain ⟨σ2, w1, w2, w3, w4⟩ := hg i x d H1 (e.trans e1) hi2 hxd
      exact w2 _ H' p.2.1 ⟨w1, cd_turn p (by have := (List.getElem?_eq_some_iff.mp hi2).1; omega) w3 w4 (hn i)⟩
    · obtain ⟨p1, p2, ys, p3, p4⟩ := p
      rw [dpa_len hall] at p4
      exact q Dl ys H' (fresh_back e1 p1) (e1.trans p2) p3 (dpa_ex (but_ex _ _) p4)
theorem en_lcR {ta : TA} {n : Int} (m : Nat) (f : Nat → Bool) (w : Nat → PyData) (h : EvA ta σ H [.int n]) (hm : n.toNat = m) (hz : -40000 ≤ n ∧ n ≤ 40000) (hn : ∀ i, f i = true → noL (w i) = true)
    (hg : ∀ (i : Nat) H1, Ex H H1 → i < m → ∃ σ2, wipe σ2 vs = wipe σ vs ∧ GoesTo g (.int (i : Int)) (wipe σ vs) σ2 H1 ∧ EvT t σ2 H1 (f i) ∧ (f i = true → EvD K te σ2 H1 (w i))) :
    EvN K (tLc (iRng1 ta) g t te vs) σ H (givenD m f w) := fun H0 e Q q => h H0 e _ fun H1 e1 => ⟨n, rfl, by omega, by omega, fun Dl hD => by
  subst hm
  refine lc_range (lo := 0) (n := n.toNat) (Cd K H1 f w Dl) ⟨hD, Ex.new hD, [], upd_same, .nil⟩ (fun i H' hi p => ?_) (fun H' p => ?_)
  · rw [Int.zero_add]
    obtain ⟨σ2, w1, w2, w3, w4⟩ := hg i H1 (e.trans e1) hi
    exact w2 _ H' p.2.1 ⟨w1, cd_turn p (by omega) w3 w4 (hn i)⟩
  · obtain ⟨p1, p2, ys, p3, p4⟩ := p
    exact q Dl ys H' (fresh_back e1 p1) (e1.trans p2) p3 (dpa_ex (but_ex _ _) p4)⟩
theorem en_lcS {s : Str} (f : Nat → Bool) (w : Nat → PyData) (h : Ev tl σ H (.str s)) (hz : s.cps.size ≤ 40000) (hn : ∀ i, f i = true → noL (w i) = true)
    (hg : ∀ (i c : Nat) H1, Ex H H1 → s.cps[i]? = some c → ∃ σ2, wipe σ2 vs = wipe σ vs ∧ GoesTo g (.str ⟨#[c]⟩) (wipe σ vs) σ2 H1 ∧ EvT t σ2 H1 (f i) ∧ (f i = true → EvD K te σ2 H1 (w i))) :
    EvN K (tLc (iStr tl) g t te vs) σ H (givenD s.cps.size f w) := fun H0 e Q q => h H0 e _ fun H1 e1 => ⟨s, rfl, fun Dl hD => by
  refine ⟨fun i m H => m = s.cps.size - i ∧ i ≤ s.cps.size ∧ Cd K H1 f w Dl i H, ⟨s.cps.size, by simp, Nat.zero_le _, hD, Ex.new hD, [], upd_same, .nil⟩, ?_⟩
  rintro i m H2 ⟨rfl, hi, p⟩
  by_cases hlt : i < s.cps.size
  · refine .inr ⟨hlt, Cd K H1 f w Dl (i + 1), fun H' p' => ⟨s.cps.size - (i + 1), by omega, rfl, hlt, p'⟩, fun x H' y => ?_⟩
    obtain ⟨e2, c, hc, rfl⟩ := y
    subst e2
    obtain ⟨σ2, w1, w2, w3, w4⟩ := hg i c H1 (e.trans e1) hc
    exact w2 _ _ p.2.1 ⟨w1, cd_turn p (by omega) w3 w4 (hn i)⟩
  · have e3 : i = s.cps.size := by omega
    subst e3
    obtain ⟨p1, p2, ys, p3, p4⟩ := p
    exact .inl ⟨Nat.le_refl _, q Dl ys H2 (fresh_back e1 p1) (e1.trans p2) p3 (dpa_ex (but_ex _ _) p4)⟩⟩
/-! ### dict comprehensions over a tuple -/
/-- the pairs put, one after another -/
def putAll (n : Nat) (k : Nat → Key) (w : Nat → V) : List (Key × V) := (List.range n).foldl (fun acc i => putK acc (k i) (w i)) []
theorem putAll_succ {n : Nat} {k : Nat → Key} {w : Nat → V} : putAll (n + 1) k w = putK (putAll n k w) (k n) (w n) := by
  unfold putAll
  rw [List.range_succ, List.foldl_append]
  rfl
theorem putAll_len (k : Nat → Key) (w : Nat → V) : ∀ n, (putAll n k w).length ≤ n
  | 0 => Nat.le_refl _
  | n + 1 => by
    rw [putAll_succ]
    have h1 := length_putK (putAll n k w) (k n) (w n)
    have h2 := putAll_len k w n
    omega
/-- a new dict -/
def EvK (te : TE) (σ : L2.St) (H : Hp) (kvs : List (Key × V)) : Prop := ∀ H1, Ex H H1 → ∀ Q : VK, (∀ p H2, H1 p = none → Ex H1 H2 → H2 p = some (.dK kvs) → Q (.ref p) H2) → te σ H1 Q
theorem ek_dcT {ds : List PyData} (k : Nat → Key) (w : Nat → V) (h : EvD K tl σ H (.tuple ds)) (hz : ds.length ≤ 40000)
    (hg : ∀ (i : Nat) (x : V) (d : PyData) H1, Ex H H1 → ds[i]? = some d → Dp K H1 x d → ∃ σ2, wipe σ2 vs = wipe σ vs ∧ GoesTo g x (wipe σ vs) σ2 H1 ∧ EvT t σ2 H1 true ∧ Ev tk σ2 H1 (kV (k i)) ∧ Ev tv σ2 H1 (w i)) :
    EvK (tDc (iTup K tl) g t tk tv vs) σ H (putAll ds.length k w) := fun H0 e Q q => h H0 e _ fun a0 H1 e1 hd => by
  cases hd with
  | @tup a xs _ hs hall =>
    refine ⟨a, rfl, ⟨xs, hs⟩, fun Dl hD => ?_⟩
    refine ⟨fun i m H => m = xs.length - i ∧ i ≤ xs.length ∧ Ex H1 H ∧ H Dl = some (.dK (putAll i k w)), ⟨xs.length, by simp, Nat.zero_le _, Ex.new hD, upd_same⟩, ?_⟩
    rintro i m H2 ⟨rfl, hi, p1, p2⟩
    by_cases hlt : i < xs.length
    · refine .inr ⟨⟨xs, xs[i], ex_t p1 hs, by simp [hlt]⟩, fun H' => Ex H1 H' ∧ H' Dl = some (.dK (putAll (i + 1) k w)), fun H' p' => ⟨xs.length - (i + 1), by omega, rfl, hlt, p'.1, p'.2⟩, fun x H' y => ?_⟩
      obtain ⟨e2, y⟩ := y
      subst e2
      have hx : xs[i]? = some x := y xs (ex_t p1 hs)
      obtain ⟨d, hi2, hxd⟩ := dpa_get hall hx
      obtain ⟨σ2, w1, w2, w3, w4, w5⟩ := hg i x d H1 (e.trans e1) hi2 hxd
      refine w2 _ _ p1 ⟨w1, w3 _ p1 _ fun H3 e3 => ?_⟩
      show tk σ2 H3 _
      refine w4 H3 (p1.trans e3) _ fun H4 e4 => w5 H4 ((p1.trans e3).trans e4) _ fun H5 e5 => ⟨putAll i k w, k i, rfl, e5 _ _ (e4 _ _ (e3 _ _ p2)), sz_lt ?_, Ex.mut (((p1.trans e3).trans e4).trans e5) hD, ?_⟩
      · have h1 := putAll_len k w i
        have h2 := dpa_len hall
        omega
      · rw [putAll_succ]
        exact upd_same
    · have e3 : i = xs.length := by omega
      subst e3
      rw [dpa_len hall] at p2
      exact .inl ⟨⟨xs, ex_t p1 hs, Nat.le_refl _⟩, q Dl H2 (fresh_back e1 hD) (e1.trans p1) p2⟩
/-! ### statements -/
theorem q_asgD {i : Nat} {d : PyData} (h : EvD K te σ H d) (k : ∀ v H1, Ex H H1 → Dp K H1 v d → tz D (σ.set i (some v)) H1) : tSeq (tAsg te (gName i)) tz D σ H := h H (Ex.refl H) _ fun v H1 e hd => k v H1 e hd
theorem q_asgK {i : Nat} {kvs : List (Key × V)} (h : EvK te σ H kvs) (k : ∀ p H1, H p = none → Ex H H1 → H1 p = some (.dK kvs) → tz D (σ.set i (some (.ref p))) H1) : tSeq (tAsg te (gName i)) tz D σ H := h H (Ex.refl H) _ fun p H1 hp e hd => k p H1 hp e hd
theorem q_asgN {i : Nat} {ds : List PyData} (h : EvN K te σ H ds) (k : ∀ p xs H1, H p = none → Ex H H1 → H1 p = some (.lst xs) → DpAll K H1 xs ds → tz D (σ.set i (some (.ref p))) H1) : tSeq (tAsg te (gName i)) tz D σ H := h H (Ex.refl H) _ fun p xs H1 hp e hd ha => k p xs H1 hp e hd ha
theorem q_unp3 {i j l : Nat} {d1 d2 d3 : PyData} (h : EvD K te σ H (.tuple [d1, d2, d3])) (k : ∀ v1 v2 v3 H1, Ex H H1 → Dp K H1 v1 d1 → Dp K H1 v2 d2 → Dp K H1 v3 d3 → tz D (((σ.set i (some v1)).set j (some v2)).set l (some v3)) H1) :
    tSeq (tAsg te (gTup K 3 (gCons (gName i) (gCons (gName j) (gCons (gName l) gNil))))) tz D σ H := h H (Ex.refl H) _ fun v H1 e hd => by
  cases hd with
  | tup hs ha =>
    cases ha with
    | cons h1 ha => cases ha with
      | cons h2 ha => cases ha with
        | cons h3 ha => cases ha; exact goes_tup3 hs _ H1 (Ex.refl H1) (k _ _ _ H1 e h1 h2 h3)
theorem q_unp4 {i j l m : Nat} {d1 d2 d3 d4 : PyData} (h : EvD K te σ H (.tuple [d1, d2, d3, d4])) (k : ∀ v1 v2 v3 v4 H1, Ex H H1 → Dp K H1 v1 d1 → Dp K H1 v2 d2 → Dp K H1 v3 d3 → Dp K H1 v4 d4 → tz D ((((σ.set i (some v1)).set j (some v2)).set l (some v3)).set m (some v4)) H1) :
    tSeq (tAsg te (gTup K 4 (gCons (gName i) (gCons (gName j) (gCons (gName l) (gCons (gName m) gNil)))))) tz D σ H := h H (Ex.refl H) _ fun v H1 e hd => by
  cases hd with
  | tup hs ha =>
    cases ha with
    | cons h1 ha => cases ha with
      | cons h2 ha => cases ha with
        | cons h3 ha => cases ha with
          | cons h4 ha => cases ha; exact goes_tup4 hs _ H1 (Ex.refl H1) (k _ _ _ _ H1 e h1 h2 h3 h4)
/-- d[k] = v -/
theorem s_dput {a : Addr} {kvs : List (Key × V)} {k : Key} (hd : H a = some (.dK kvs)) (hv : Ev tv σ H v) (ha : Ev ta σ H (.ref a)) (hk : Ev tk σ H (kV k)) (hl : kvs.length < 100000)
    (q : ∀ H1, Ex H H1 → D.nx σ (upd H1 a (.dK (putK kvs k v)))) : sDPut ta tk tv D σ H := hv H (Ex.refl H) _ fun H1 e1 => ha H1 e1 _ fun H2 e2 => hk H2 (e1.trans e2) _ fun H3 e3 =>
  ⟨a, _, rfl, DPut.k (((e1.trans e2).trans e3) a _ hd) (sz_lt hl), q H3 ((e1.trans e2).trans e3)⟩
theorem q_dput {a : Addr} {kvs : List (Key × V)} {k : Key} (hd : H a = some (.dK kvs)) (hv : Ev tv σ H v) (ha : Ev ta σ H (.ref a)) (hk : Ev tk σ H (kV k)) (hl : kvs.length < 100000)
    (q : ∀ H1, Ex H H1 → tz D σ (upd H1 a (.dK (putK kvs k v)))) : tSeq (sDPut ta tk tv) tz D σ H := s_dput (D := { D with nx := tz D }) hd hv ha hk hl q
/-- t[:2], xs[a:b] of a tuple -/
theorem ed_slT {lo hi : Option Int} {to th : TO} {ds : List PyData} (h : EvD K te σ H (.tuple ds)) (h1 : EvO to σ H lo) (h2 : EvO th σ H hi) (hn : ¬ (HT.sIx ds.length 0 lo = 0 ∧ HT.sIx ds.length ds.length hi = ds.length)) :
    EvD K (tSl (rSlT K) te to th) σ H (.tuple ((ds.drop (HT.sIx ds.length 0 lo)).take (HT.sIx ds.length ds.length hi - HT.sIx ds.length 0 lo))) := fun H0 e Q q => h H0 e _ fun v H1 e1 hd => by
  cases hd with
  | @tup a xs _ hs ha =>
    have el := dpa_len ha
    refine h1 H1 (e.trans e1) _ fun H2 e2 => h2 H2 ((e.trans e1).trans e2) _ fun H3 e3 => ⟨a, xs, rfl, ex_t (e2.trans e3) hs, by rw [el]; exact hn, fun p hp => ?_⟩
    refine q (.ref p) _ (((e1.trans e2).trans e3).trans (Ex.new hp)) (.tup (st_of upd_same) ?_)
    unfold cutV
    rw [el]
    have cut : ∀ {H : Hp} {vs : List V} {ds : List PyData}, DpAll K H vs ds → ∀ i j, DpAll K H ((vs.drop i).take j) ((ds.drop i).take j) := by
      intro H vs ds h
      have dr : ∀ (i : Nat) {vs : List V} {ds : List PyData}, DpAll K H vs ds → DpAll K H (vs.drop i) (ds.drop i) := by
        intro i
        induction i with
        | zero => exact fun h => h
        | succ i ih =>
          intro vs ds h
          cases h with
          | nil => exact .nil
          | cons _ t => exact ih t
      have tk : ∀ (j : Nat) {vs : List V} {ds : List PyData}, DpAll K H vs ds → DpAll K H (vs.take j) (ds.take j) := by
        intro j
        induction j with
        | zero => exact fun _ => .nil
        | succ j ih =>
          intro vs ds h
          cases h with
          | nil => exact .nil
          | cons a t => exact .cons a (ih t)
      exact fun i j => tk j (dr i h)
    exact cut (dpa_ex (((e2.trans e3)).trans (Ex.new hp)) ha) _ _
end
/-! ### the rules with the written part named -/
section
variable {X : Cx} {K : PySem.W.Frag}
theorem ix_seqK (h : X.K = K) : IxR X (rIx K) := h ▸ ix_seq
theorem ix_tupK (h : X.K = K) : IxR X (rIxT K) := h ▸ ix_tup
theorem ix_listK (h : X.K = K) : IxR X (rIxL K) := h ▸ ix_list
theorem op_ltDK (h : X.K = K) (hu : X.A.units + 64 < cLine) : OpR X (compareOp .Lt) (rLtD K) := h ▸ op_ltD hu
theorem op_eqDK (h : X.K = K) (hu : X.A.units + 64 < cLine) : OpR X (compareOp .Eq) (rEqD K) := h ▸ op_eqD hu
theorem op_neDK (h : X.K = K) (hu : X.A.units + 64 < cLine) : OpR X (compareOp .NotEq) (rNeD K) := h ▸ op_neD hu
theorem op_in_seqK (h : X.K = K) : OpR X (compareOp .In) (rIn K false) := h ▸ op_in_seq
theorem op_notIn_seqK (h : X.K = K) : OpR X (compareOp .NotIn) (rIn K true) := h ▸ op_notIn_seq
theorem sl_tupK (h : X.K = K) : SlR X (rSlT K) := h ▸ sl_tup
theorem sl_listK (h : X.K = K) : SlR X (rSlL K) := h ▸ sl_list
theorem call_isiK' (h : X.K = K) : CallR X (.builtin "isinstance") (rIsi K) := h ▸ call_isi
theorem call_isiTK (h : X.K = K) : CallR X (.builtin "isinstance") (rIsiT K) := h ▸ call_isiT
theorem call_len_seqK (h : X.K = K) : CallR X (.builtin "len") (rLenS K) := h ▸ call_len_seq
theorem cr_allK (h : X.K = K) (hc : X.calm = true) : CallR X (.builtin "all") (rAll K) := h ▸ cr_all hc
theorem pg_tupK (h : X.K = K) {es : List Expr} {k : Nat} {t : TGs} {n : Nat} {pos : Pos} (hc : X.calm = true) (hg : PGs X es t)
    (hn : (assignEach es X.env).length = n := by rfl) (hst : (assignEach es X.env).findIdx? (·.1) = none := by rfl) : PG X (.Tuple es k pos) (gTup K n t) := h ▸ pg_tup hc hg hn hst
theorem pi_tupK (h : X.K = K) {tg l : Expr} {tl : TE} (hl : PE X l tl) : PI X tg l (iTup K tl) := h ▸ pi_tup hl
theorem pi_listK (h : X.K = K) {tg l : Expr} {tl : TE} (hl : PE X l tl) : PI X tg l (iList K tl) := h ▸ pi_list hl
end
/-! ### more operations on data -/
section
variable {K : PySem.W.Frag} {H : Hp}
theorem dec_vint (a b : Int) : decide (V.int a = V.int b) = decide (a = b) := by
  by_cases h : a = b
  · subst h; simp
  · rw [decide_eq_false h]; exact decide_eq_false fun z => h (V.int.inj z)
theorem rd_eqI {a b : Int} : RD K rEq (.int a) (.int b) H (.bl (decide (a = b))) := fun H1 _ x y hx hy Q q => by
  cases hx
  cases hy
  refine ⟨rfl, ?_⟩
  rw [dec_vint]
  exact q
theorem rd_neI {a b : Int} : RD K rNe (.int a) (.int b) H (.bl (!decide (a = b))) := fun H1 _ x y hx hy Q q => by
  cases hx
  cases hy
  refine ⟨rfl, ?_⟩
  rw [dec_vint]
  exact q
def rLeStr : R2 := fun x y H Q => ∃ i j, x = .str i ∧ y = .str j ∧ Q (.bl (!decide (j.cps.toList < i.cps.toList))) H
theorem op_leStr {X : Cx} : OpR X (compareOp .LtE) rLeStr := op_le_str
theorem rd_leS {a b : Str} : RD K rLeStr (.str a) (.str b) H (.bl (!decide (b.cps.toList < a.cps.toList))) := fun H1 _ x y hx hy Q q => by
  cases hx
  cases hy
  exact ⟨a, b, rfl, rfl, q⟩
theorem getD_of {ds : List PyData} {i : Nat} {d : PyData} (h : ds[i]? = some d) : ds.getD i .none = d := by
  rw [List.getD_eq_getElem?_getD, h]
  rfl
end
/-! ### y = {k: v for ..} on one line, y a local that no block reads -/
section
variable {X : Cx}
/-- what holds in each block of the comprehension -/
abbrev InBlk (X : Cx) (scope : Scope) (p : Cx → Prop) : Prop := ∀ (s : Shared) (H : Hp) (C : Addr) (cl : List (Str × Addr)) (fp : List Addr), p (X.blk s H scope (compEnvC scope cl C X.env) fp)
theorem ps_setDc {i : Nat} {y : Str} {py pos spos : Pos} {kx vx tg iter : Expr} {ifs : List Expr} {scope : Scope} {own : List (Str × Nat)} {wi : TI} {g : TG} {tt : TT} {tk tv : TE} (hc : X.calm = true) (hN : X.N.Nodup)
    (hy : X.N[i]? = some y) (hyl : X.env.scope.names.lookup y = some .local) (hsw : swapsWith (.DictComp kx vx [⟨tg, iter, ifs, 0⟩] scope pos) (some (.Name y py)) spos.line X.env = pure true)
    (hi : PI X tg iter wi) (ok : BlkOk X.N X.env.scope scope own) (hg : InBlk X scope fun B => PG B tg g) (ht : InBlk X scope fun B => PTs B ifs tt) (hk : InBlk X scope fun B => PE B kx tk) (he : InBlk X scope fun B => PE B vx tv)
    (hs : ∀ x, foldedSetIterable iter X.env x = pure x := by intro _; rfl) : PS X (.Assign [.Name y py] (.DictComp kx vx [⟨tg, iter, ifs, 0⟩] scope pos) spos) (tAsg (tDc wi g tt tk tv (own.map (·.2))) (gName i)) := by
  refine ⟨fun pins s σ H D I h => ?_⟩
  rw [exec_Assign_Name_used _ _ _ _ hsw]
  refine wpAny_bind (wpAny_standAt (wpAny_bind ?_))
  have h2 : tDc wi g tt tk tv (own.map (·.2)) σ H (fun x H1 => gName i x σ H1 D.nx) := h
  show wpAny _ X.A (do let _ ← comprehension (.DictComp kx vx [⟨tg, iter, ifs, 0⟩] scope pos) scope X.env (firstIterPos [⟨tg, iter, ifs, 0⟩] pos) newDict false (eval iter X.env) (some (assign (.Name y py) X.env))) _ _ s
  refine wpAny_bind (thn (dc_core (Qf := fun _ s' => SP X pins D .next s') hc hN I hi ok hg ht hk he hs h2 fun L C s' m H' I' q hn fo => ?_) fun _ s' hq => wpAny_pure (wpAny_pure hq))
  show wpAny _ _ (assign (.Name y py) X.env (.ref L)) _ _ _
  refine wpAny_assign_Name (store_ok2 (v := V.ref L) I' hN hy (.inl hyl) rfl (fun s2 I2 ⟨a, sb, ha⟩ => ?_) (.inr hyl))
  have hCa : C ≠ a := by
    cases ha with
    | inl z => exact fun e => fo.2.1 (e.trans z)
    | inr z => exact fun e => fo.2.2.2.2.1 y a z e.symm
  refine ⟨m, hn.sameBut sb hCa, fun h3 sb3 => ⟨_, H', ?_, q⟩⟩
  exact I2.turned (t' := s2.toks) (fun b o hb e => (sb3.2 b hb).trans e) fo.1 fo.2.1 fo.2.2.2.1 fo.2.2.2.2.1 fo.2.2.2.2.2
theorem sw_dc {kx vx : Expr} {gs : List Comprehension} {scope : Scope} {pos py : Pos} {y : Str} {l : Nat} {env : Env} (h1 : env.scope.kind = .function) (h2 : env.scope.names.lookup y = some .local) (h3 : (py.line == pos.line) = true)
    (h4 : (scope.names.any fun (n, k) => n == y && (k == .local || k == .cell)) = false) : swapsWith (.DictComp kx vx gs scope pos) (some (.Name y py)) l env = pure true := by
  have e1 : env.kindOf y = some .local := h2
  have e2 : env.blockKind = .function := by unfold Env.blockKind; rw [h1]; rfl
  unfold swapsWith
  simp only [e2, e1, h4, Expr.pos, h3]
  rfl
end
/-! ### the first look at a tuple of n -/
section
variable {K : PySem.W.Frag} {σ : L2.St} {H : Hp} {te : TE} {v : V} {d : PyData}
def isTupN (n : Nat) : PyData → Bool | .tuple ds => decide (ds.length = n) | _ => false
theorem et_tupN {n : Nat} {i : Int} (hi : i = (n : Int)) (hv : Ev te σ H v) (hd : Dp K H v d) : EvT (tOr (tNot (tB (tCB (rIsi K) (tCons te (tCons (tC (.ty "tuple")) tNil))))) (tTest (tOp rNe (tCB (rLenS K) (tCons te tNil)) (tC (.int i))))) σ H (!isTupN n d) := by
  have h1 := et_not (et_B (ev_isi (n := "tuple") okT_tuple hv hd))
  rw [isT_tuple] at h1
  cases d with
  | tuple ds =>
    refine et_is (et_or h1 fun _ => et_test (ev_opD (K := K) (ed_of (ev_lenD (ed_of hv hd)) (.int _)) (ed_of ev_c (.int i)) rd_neI)) ?_
    show (!true || !decide ((ds.length : Int) = i)) = !decide (ds.length = n)
    subst hi
    by_cases h : ds.length = n
    · subst h; simp
    · have h' : ¬ ((ds.length : Int) = (n : Int)) := by omega
      rw [decide_eq_false h, decide_eq_false h']
      rfl
  | _ => exact et_is (et_or (b := true) h1 fun z => nomatch z) rfl
theorem isTupN_3 {d : PyData} (h : isTupN 3 d = true) : ∃ x y z, d = .tuple [x, y, z] := by
  cases d <;> first | (cases h; done) | skip
  rename_i ds
  match ds, h with
  | [x, y, z], _ => exact ⟨x, y, z, rfl⟩
theorem isTupN_4 {d : PyData} (h : isTupN 4 d = true) : ∃ x y z u, d = .tuple [x, y, z, u] := by
  cases d <;> first | (cases h; done) | skip
  rename_i ds
  match ds, h with
  | [x, y, z, u], _ => exact ⟨x, y, z, u, rfl⟩
end
/-! ### dicts, locked or not; a walk over a dict's keys -/
section
variable {K : PySem.W.Frag} {σ : L2.St} {H H' : Hp} {ta tb td : TE} {v : V} {D : Ends} {g : TG} {tu : TS}
theorem ev_dgetR {a : Addr} {kvs : List (Key × V)} {k : Key} (ha : Ev ta σ H (.ref a)) (hd : Rd H a (.dK kvs)) (hk : Ev tb σ H (kV k)) (hv : valV kvs k = some v) : Ev (tDGet ta tb) σ H v := fun H1 e Q q =>
  ha H1 e _ fun H2 e2 => hk H2 (e.trans e2) _ fun H3 e3 => ⟨a, v, rfl, .inl ⟨kvs, k, ex_rd ((e.trans e2).trans e3) hd, rfl, hv.symm⟩, q H3 (e2.trans e3)⟩
theorem ev_dinR {a : Addr} {kvs : List (Key × V)} {k : Key} {b : Bool} (hk : Ev tb σ H (kV k)) (ha : Ev ta σ H (.ref a)) (hd : Rd H a (.dK kvs)) (hb : (valV kvs k).isSome = b) : Ev (tDIn tb ta) σ H (.bl b) := fun H1 e Q q =>
  hk H1 e _ fun H2 e2 => ha H2 (e.trans e2) _ fun H3 e3 => ⟨a, valV kvs k, rfl, .inl ⟨kvs, k, ex_rd ((e.trans e2).trans e3) hd, rfl, rfl⟩, by
    rw [hb]
    exact q H3 (e2.trans e3)⟩
theorem s_forKeys {d : Addr} {o : Obj} {kvs : List (Key × V)} (h : Ev td σ H (.ref d)) (hd : H d = some (.frz o (.dK kvs))) (Pv : Nat → L2.St → Hp → Prop) (h0 : ∀ H1, Ex H H1 → Pv 0 σ H1) (hl : ∀ i σ' H', Pv i σ' H' → H' d = some (.frz o (.dK kvs)))
    (hs : ∀ i k v σ' H', kvs[i]? = some (k, v) → Pv i σ' H' → g (kV k) σ' H' fun σ2 H2 => tu { D with nx := Pv (i + 1), ct := Pv (i + 1), bk := D.nx } σ2 H2) (he : ∀ σ' H', Pv kvs.length σ' H' → D.nx σ' H') : tFor (iKeys td) g tu D σ H :=
  h H (Ex.refl H) _ fun H1 e => ⟨d, o, rfl, .inl ⟨kvs, e _ _ hd, fun i m σ' H' => m = kvs.length - i ∧ i ≤ kvs.length ∧ Pv i σ' H', ⟨kvs.length, rfl, Nat.zero_le _, h0 H1 e⟩, by
    rintro i m σ' H' ⟨rfl, hi, p⟩
    have q := hl i σ' H' p
    by_cases hlt : i < kvs.length
    · refine .inr ⟨⟨q, hlt⟩, Pv (i + 1), fun σ2 H2 p2 => ⟨kvs.length - (i + 1), by omega, rfl, hlt, p2⟩, fun x H2 y => ?_⟩
      obtain ⟨e2, k, w, hk, rfl⟩ := y
      subst e2
      exact hs i k w σ' _ hk p
    · have e2 : i = kvs.length := by omega
      subst e2
      exact .inl ⟨⟨q, Nat.le_refl _⟩, he σ' H' p⟩⟩⟩
end
end Vf
end
section
set_option Elab.async false
set_option linter.all false
set_option maxRecDepth 100000
set_option maxHeartbeats 4000000
/-! An own error two below ValueError whose __init__ says super().__init__('..') and keeps one field. -/
namespace Nk
open PySem PySem.W PySem.Calls PyProof.Rows PySem.HandSPX L2
abbrev veT : List Value := [.type "ValueError", .type "Exception", .type "BaseException", .type "object"]
/-- what the written part says of such a class, at C: its __init__ at fI, its code's record at cda, the cell of the class at cc; field: the one field -/
structure NkTxt (prog : Program) (K : Frag) (mg : Str → Option Value) (name field qual : Str) (st : Stmt) (C fI cda cc : Addr) : Prop where
  gC : mg name = some (.ref C)
  cls : ∃ nm q N bs bm sn sub ab col dd k0 k1 k2 k3 k5, K.lookup C = some (excClassObj nm q C N bs bm true sn sub ab col dd k0 k1 k2 k3 k5 "ValueError.__new__") ∧ refsVE bm = true
  ei : excInitIn K C veT "ValueError.__new__" = true
  sa : findIn K (.ref C) "__setattr__" = some (some (.builtin "object.__setattr__"))
  noF : findIn K (.ref C) field = some none
  iC : findIn K (.ref C) "__init__" = some (some (.ref fI))
  tI : typeIn K (.ref fI) = some (.type "function")
  kC : keepIn K (.ref C) = true
  exC : subIn K (.ref C) (.type "BaseException") = some true
  veC : subIn K (.ref C) (.type "ValueError") = some true
  tyC : typeIn K (.ref C) = some (.type "type")
  own : mroIn K C (.ref C) = some true
  sup : ks_superIn K C C "__init__" = some (some (.builtin "ValueError.__init__"))
  any : nsIn K cStatics "thirdparty.any" = some none
  su : mg "super" = none
  cell : ∃ cl cld csl, K.lookup cc = some ⟨cl, cld, .cell (some (.ref C)), csl⟩
  code : ∃ ccl cdd vs ccs file tf, K.lookup cda = some ⟨ccl, cdd, .fields vs, ccs⟩ ∧ vs[2]? = some (.str file tf) ∧ ((prog.main.file : Str) == file) = true
  fn : ∃ oc od kV doc pm an ct osl, K.lookup fI = some ⟨oc, od, .func (ksFn "__init__" qual (defArgs st) (defBody st) (defScope st) .none kV doc pm an (.ref cda) ct cc), osl⟩ ∧ codeIn K (.ref cda) qual = true
  top : (prog.main.scope.names.lookup ("super" : Str)).isSome = false
/-- super() in such an __init__ -/
theorem nk_super {prog : Program} {w : World} {A : Around} {E : Value → Shared → Prop} {s : Shared} {K : Frag} {mg : Str → Option Value} {name field qual : Str} {st : Stmt} {C fI cda cc L x t0 : Addr} {h0 : Heap} {m : Str → Option Value} {news : List (Addr × Obj)} {body : List Stmt} {p0 p1 : Pos} {whole : Sem Value} {Q : Value → Shared → Prop} {scope : Scope} {ar : Arg}
    (T : NkTxt prog K mg name field qual st C fI cda cc) (F : Fr h0 L s.heap m) (X0 : K.In h0) (N : News h0 L s.heap news) (G : h0.Ns mainGlobals mg) (B : ∃ mb, h0.Ns builtinsNs mb ∧ ∀ y : Str, y ≠ "__name__" → mb y = bootBuiltins y)
    (hv : m "self" = some (.ref x)) (hx : (x, excObj C t0 none .none) ∈ news)
    (hp : ((defArgs st).posonlyargs ++ (defArgs st).args).head? = some ar) (ha : ar.arg = "self")
    (hks : scope.names.lookup ("super" : Str) = some .globalImplicit) (hkc : scope.names.lookup ("__class__" : Str) = some .free) (hka : scope.names.lookup ("self" : Str) = some .local) (hk : scope.kind = .function)
    (h : ∀ so h', Fr h0 L h' m → News h0 L h' ((so, ks_superObj C x C) :: news) → (∀ p ∈ news, p.1 < so) → Q (.ref so) { s with heap := h' }) :
    _root_.PySem.wpAt (model prog w) A (.func body (ksEnv qual scope L fI (.ref cda) cc)) (attributeBase (.Call (.Name "super" p0) [] [] p1) "__init__" (ksEnv qual scope L fI (.ref cda) cc) whole) Q E s := by
  have X : K.In s.heap := X0.keeps F.keep
  have hxa := (N _ hx).1
  obtain ⟨nm, q, NN, bs, bm, sn, sub, ab, col, dd, k0, k1, k2, k3, k5, hC, hbm⟩ := T.cls
  obtain ⟨oc, od, kV, doc, pm, an, ct, osl, hf, hcd⟩ := T.fn
  obtain ⟨cl, cld, csl, hcell⟩ := T.cell
  obtain ⟨ccl, cdd, vs, ccs, file, tf, hcode, hvs, hfile⟩ := T.code
  obtain ⟨mb, Bn, Bb⟩ := B
  obtain ⟨hh, g, d, t, os⟩ := s
  refine ks_wpAt_super_base (env := ksEnv qual scope L fI (.ref cda) cc) hks hkc (by decide) rfl (X _ _ hf) rfl hp rfl (X _ _ hcode) rfl hvs hfile T.top ?_
  refine ks_loadName_global hk hks (loadGlobal_builtin (env := ksEnv qual scope L fI (.ref cda) cc) (G.keeps F.keep) T.su (Bn.keeps F.keep) ((Bb _ (by decide +kernel)).trans PyProof.Rows.Boot.«super») ⟨rfl, ?_⟩)
  refine wpAny_loadName_free hk hkc rfl ⟨_, X _ _ hcell, rfl⟩ ?_
  rw [ha]
  refine wpAny_loadName_local hk hka F.ns hv ?_
  refine ks_wpAny_isType_cls (X _ _ hC) rfl ⟨rfl, ?_⟩
  refine ks_wpAny_call_super (X _ _ hC) rfl hxa rfl (fun c e => nomatch e) (looks_mroIn X T.own) (fun h' e k => ?_)
  obtain ⟨F2, N2, l2⟩ := ks_newsPush (s := ⟨hh, g, d, t, os⟩) F N rfl e k
  exact h _ _ F2 N2 l2
/-- what such an __init__ leaves -/
structure NkEnd (h h' : Heap) (x C dx : Addr) (field : Str) (v : Value) : Prop where
  keep : ∀ b o, h.get? b = some o → h'.get? b = some o
  obj : ∃ t1 : Addr, h'.get? x = some ({ cls := .ref C, dict := some dx, data := .fields #[.ref t1, .none, .none, .none, .bool false, .none] } : Obj)
  dbig : h.objs.size ≤ dx
  dne : dx ≠ x
  ns : h'.Ns1 dx (fun y => if y = field then some v else none)
end Nk
end
section
set_option Elab.async false
set_option linter.all false
set_option maxRecDepth 100000
set_option maxHeartbeats 4000000
namespace Vf
open PySem PySem.W PySem.Calls PyProof.Rows PySem.HandSPX L2 Nk
/-! ### the text by places -/
def topS (i : Nat) : Stmt := PySem.Challenge.pw_startnow_k00_error_classes.main.body.getD i (.Pass ⟨0, 0, 0, 0⟩)
abbrev sNk : Stmt := inClass (topS 19) 0
abbrev NkT (prog : Program) (K : Frag) (mg : Str → Option Value) (C fI cda cc : Addr) : Prop := NkTxt prog K mg "NotKept" "reason" "NotKept.__init__" sNk C fI cda cc
theorem nk_init {prog : Program} {w : World} {A : Around} {s : Shared} {K : Frag} {mg : Str → Option Value} {C fI cda cc x t0 : Addr} {h0 : Heap} {v : Value} {R : Result → Shared → Prop} {args : Args} (T : NkT prog K mg C fI cda cc)
    (X0 : K.In h0) (G : h0.Ns mainGlobals mg) (B : ∃ mb, h0.Ns builtinsNs mb ∧ ∀ y : Str, y ≠ "__name__" → mb y = bootBuiltins y) (hlim : s.heap.NoLimit)
    (hsz : h0.objs.size ≤ s.heap.objs.size) (k0 : ∀ b o, h0.get? b = some o → s.heap.get? b = some o) (hx : s.heap.get? x = some (excObj C t0 none .none)) (hxn : h0.get? x = none) (hroom : A.depth < recursionLimit)
    (hb : ∀ (kV doc pm ct : Value) (an : Option Addr), BindsTo s (ksFn "__init__" "NotKept.__init__" (defArgs sNk) (defBody sNk) (defScope sNk) .none kV doc pm an (.ref cda) ct cc) args [("self", .ref x), ("reason", v)])
    (hq : ∀ h' tk dx, NkEnd h0 h' x C dx "reason" v → R (.ok (.ret .none)) { s with heap := h', toks := tk }) :
    codeAny (model prog w) A (.call (.ref fI) args) R s := by
  obtain ⟨oc, od, kV, doc, pm, an, ct, osl, hf, hcd⟩ := T.fn
  obtain ⟨nm, q, NN, cbs, bm, sn, sub, ab, col, dd, k0', k1, k2, k3, k5, hC, hbm⟩ := id T.cls
  have hcl : clsIn K C = some { name := nm, bases := cbs, mro := .ref C :: bm, ns := NN, qualname := q, hasDict := true, slotNames := sn, subclasses := sub, abstract := ab, collection := col, hasDel := false } := by unfold clsIn; rw [hC] <;> rfl
  have X : K.In s.heap := X0.keeps k0
  refine ks_codeAny_call_defAt (fd := ksFn "__init__" "NotKept.__init__" (defArgs sNk) (defBody sNk) (defScope sNk) .none kV doc pm an (.ref cda) ct cc) (body := defBody sNk) (binds := [("self", .ref x), ("reason", v)]) hroom (X _ _ hf) rfl hlim (codeRec_of X hcd) rfl (hb kV doc pm ct an) (show ∀ y ∈ (defScope sNk).names, y.2 ≠ .cell by decide +kernel) (fun y hy => ?_) (fun h₁ hns hk₁ => ?_)
  · rcases List.mem_cons.mp hy with rfl | hy
    · rfl
    · rcases List.mem_cons.mp hy with rfl | hy
      · rfl
      · cases hy
  have hL : s.heap.objs.size ≠ x := Nat.ne_of_gt (Heap.lt_size hx)
  have F : Fr h0 s.heap.objs.size h₁ (fun y => ([(("self" : Str), Value.ref x), ("reason", v)] : List (Str × Value)).reverse.lookup y) := ⟨hns, fun b o e => hk₁ b o (k0 b o e), hsz⟩
  have N : News h0 s.heap.objs.size h₁ [(x, excObj C t0 none .none)] := fun p hp => by
    rcases List.mem_cons.mp hp with rfl | hp
    · exact ⟨hk₁ _ _ hx, Ne.symm hL, hxn⟩
    · cases hp
  have hself : ([(("self" : Str), Value.ref x), ("reason", v)] : List (Str × Value)).reverse.lookup ("self" : Str) = some (.ref x) := rfl
  have harg : ([(("self" : Str), Value.ref x), ("reason", v)] : List (Str × Value)).reverse.lookup ("reason" : Str) = some v := rfl
  refine ks_wpAt_execs_cons (ks_wpAt_Expr_any (ks_wpAt_MethodCall (nk_super T F X0 N G B hself List.mem_cons_self rfl rfl rfl rfl rfl rfl fun so h2 F2 N2 l2 => ?_)))
  have I2 : InstAt h2 x (excObj C t0 none .none) C none := InstAt.of_exc0 N2 (List.mem_cons_of_mem _ List.mem_cons_self)
  refine kxs_method kxs_ValueError F2 X0 N2 List.mem_cons_self I2 T.any T.sup T.veC (by decide) fun u h3 F3 N3 l3 => ?_
  refine kxs_callWith1 N3 List.mem_cons_self (spliced_more (wpAny_Constant_str (spliced_none ⟨kxs_at N3 List.mem_cons_self, ?_⟩)))
  refine kxs_call F3 X0 N3 PySem.F.excBase_ValueError T.ei List.mem_cons_self (.tail ?_ (.tail ?_ (.head fun _ h => nomatch h))) (by show 1 ≤ sizeLine; rw [sizeLine_eq]; omega) fun t1 h4 F4 N4 l4 => ?_
  · exact Nat.ne_of_gt (l3 _ (List.mem_cons_of_mem _ List.mem_cons_self))
  · exact Nat.ne_of_gt (l2 _ List.mem_cons_self)
  have hx4 : h4.get? x = some (excObj C t1 none .none) := (N4 (x, excObj C t1 none .none) (by simp)).1
  refine wpAt_of_wpAny (wpAny_execs_cons (plainObj_wpAny_Assign_Attribute ?_))
  refine wpAny_Name (wpAny_loadName_local rfl rfl F4.ns harg ?_)
  refine wpAny_Name (wpAny_loadName_local rfl rfl F4.ns hself ?_)
  have X4 : K.In h4 := X0.keeps F4.keep
  refine set_plain X4 (ox := excObj C t1 none .none) (od := none) ⟨hx4, rfl, rfl, trivial⟩ T.sa ?_
  refine exc_osa X4 hx4 hcl (show refsVE (.ref C :: bm) = true from hbm) rfl T.noF (fun h5 tk5 dx k5' dn dne hx5 hn5 => ?_)
  refine wpAny_execs_nil (hq h5 tk5 dx ⟨fun b o e => k5' b o (fun z => by rw [z, hxn] at e; cases e) (F4.keep b o e), ⟨t1, hx5⟩, ?_, dne, hn5⟩)
  have z1 : s.heap.objs.size < h4.objs.size := by
    obtain ⟨oL, _, _, hL4, _⟩ := F4.ns
    exact Heap.lt_size hL4
  exact Nat.le_of_lt (Nat.lt_of_le_of_lt hsz (Nat.lt_of_lt_of_le z1 dn))
end Vf
end
section
set_option Elab.async false
set_option linter.all false
set_option maxRecDepth 100000
set_option maxHeartbeats 4000000
/-! An own exception class called with one keyword. -/
namespace Nk
open PySem PySem.W PySem.Calls PyProof.Rows PySem.HandSPX L2
section
variable {M : Model} {A : Around} {E : Value → Shared → Prop} {h : Heap} {g : Array GenState} {d : Drawn} {t : Nat} {os : OsState}
variable {nm q : Str} {C N : Addr} {bs bm bmB : List Value} {hdct : Bool} {sn : List Str} {sub : List Value} {ab : Bool} {col : Option Bool} {dd : Option Addr} {k0 k1 k2 k3 k5 : Option Value} {B newId initId : String}
theorem kwNew_check (FB : ExcBaseFacts B newId initId bmB) (tl : ∀ X : String, bm.contains (.type X) = bmB.contains (.type X)) {kw : List (Str × Value)} {Q : Unit → Shared → Prop}
    (cl : h.get? C = some (excClassObj nm q C N bs bm hdct sn sub ab col dd k0 k1 k2 k3 k5 newId)) (hq : Q () ⟨h, g, d, t, os⟩) : wpAny M A (checkBuiltinCall newId ⟨[.ref C], kw⟩) Q E ⟨h, g, d, t, os⟩ := by
  have inB : (Value.ref C :: bm).contains (.type B) = true := by rw [List.contains_cons, tl, FB.hasB, Bool.or_true]
  have star := FB.noStar
  simp only [checkBuiltinCall, FB.newKind, FB.newSplit, FB.newRow]
  repeat (first | refine wpAny_loadPart_at cl ?_ | (refine wpAny_isSubtype_exc cl ?_; rw [inB]) | refine wpAny_staticBase_exc cl ?_ | refine wpAny_madeBy_exc cl ?_ | simp only [bne_self_eq_false, Bool.false_eq_true, if_false] | wp_step)
  exact hq
end
section
variable {prog : Program} {w : World} {A : Around} {E : Value → Shared → Prop} {R : Result → Shared → Prop} {h : Heap} {g : Array GenState} {d : Drawn} {t : Nat} {os : OsState}
variable {nm q : Str} {C N : Addr} {bs bm bmB : List Value} {hdct : Bool} {sn : List Str} {sub : List Value} {ab : Bool} {col : Option Bool} {dd : Option Addr} {k0 k1 k2 k3 k5 : Option Value} {B newId initId : String}
theorem kwNew (FB : ExcBaseFacts B newId initId bmB) (tl : ∀ X : String, bm.contains (.type X) = bmB.contains (.type X)) {kw : List (Str × Value)}
    (cl : h.get? C = some (excClassObj nm q C N bs bm hdct sn sub ab col dd k0 k1 k2 k3 k5 newId))
    (hq : R (.ok (.ret (.ref (h.objs.size + 1)))) ⟨(h.push (kdv_tup [])).push (HandSPX.excO C h.objs.size), g, d, t, os⟩) :
    codeAny (model prog w) A (.builtin newId ⟨[.ref C], kw⟩) R ⟨h, g, d, t, os⟩ := by
  have en := FB.ends
  have inB : (Value.ref C :: bm).contains (.type B) = true := by rw [List.contains_cons, tl, FB.hasB, Bool.or_true]
  have inA : (Value.ref C :: bm).contains (.type "AttributeError") = false := by rw [List.contains_cons, tl, FB.noAttr]; rfl
  have inN : (Value.ref C :: bm).contains (.type "NameError") = false := by rw [List.contains_cons, tl, FB.noName]; rfl
  have hrest : ([] : List Value).length ≤ sizeLine := Nat.zero_le _
  refine codeAny_builtinAt FB.entry ?_
  unfold Builtin.«BaseException.__new__»
  refine PySem.wpAt_bind ?_
  show PySem.wpAt _ _ _ (stack >>= _) _ _ _
  refine PySem.wpAt_bind (PySem.wpAt_stack fun p below => PySem.wpAt_of_wpAny ?_)
  wp_walk
  refine PySem.wpAt_of_wpAny ?_
  rw [FB.owner]
  repeat (first | with_reducible refine wpAny_madeHere_exc FB.canon cl ?_ | with_reducible refine wpAny_loadPart_at cl ?_ | (with_reducible refine wpAny_isSubtype_exc cl ?_; first | rw [inB] | rw [inA] | rw [inN]) | wp_step)
  show R _ _
  rw [Heap.size_push]
  exact hq
theorem kwTypeCall (FB : ExcBaseFacts B newId initId bmB) (tl : ∀ X : String, bm.contains (.type X) = bmB.contains (.type X)) {kw : List (Str × Value)} {fI : Addr} {Q : Fin → Shared → Prop}
    (cl : h.get? C = some (excClassObj nm q C N bs bm hdct sn sub ab col dd k0 k1 k2 k3 k5 newId))
    (hi : W.Looks (model prog w) h (typeLookup (.ref C) "__init__") (some (.ref fI))) (hb : ∀ self, W.Looks (model prog w) h (bindSpecial (.ref fI) self) (.ref fI, [self]))
    (hq : codeAny (model prog w) A (.call (.ref fI) ⟨[.ref (h.objs.size + 1)], kw⟩)
      (fun r s' => match r with | .ok (.ret v) => v = .none ∧ Q (.done (.ret (.ref (h.objs.size + 1)))) s' | .ok _ => False | .error e => E e s')
      ⟨(h.push (kdv_tup [])).push (HandSPX.excO C h.objs.size), g, d, t, os⟩) :
    wpAny (model prog w) A (Builtin.«type.__call__» ⟨[.ref C], kw⟩) Q E ⟨h, g, d, t, os⟩ := by
  repeat (first | with_reducible refine wpAny_loadPart_at cl ?_ | with_reducible refine wpAny_madeBy_exc cl ?_ | wp_step)
  refine codeAny_call_builtin_code (Code.quiet_builtin _ FB.quiet) (kwNew_check FB tl cl ?_)
  refine kwNew FB tl cl ?_
  show wpAny _ _ _ _ _ _
  have kp : ∀ b o, h.get? b = some o → ((h.push (kdv_tup [])).push (HandSPX.excO C h.objs.size)).get? b = some o := fun b o e => Heap.get?_push_of_some _ (Heap.get?_push_of_some _ e)
  have cl2 := kp _ _ cl
  have new : ((h.push (kdv_tup [])).push (HandSPX.excO C h.objs.size)).get? (h.objs.size + 1) = some (HandSPX.excO C h.objs.size) := by heap_get
  have own : (Value.ref C :: bm).contains (.ref C) = true := by simp
  have i2 := hi.keeps kp
  have b2 := (hb (.ref (h.objs.size + 1))).keeps kp
  unfold isInstance
  repeat (first | with_reducible refine wpAny_loadPart_at new ?_ | (with_reducible refine wpAny_isSubtype_exc cl2 ?_; rw [own]) | wp_step)
  show wpAny _ _ (typeLookup (.ref C) _) _ _ _
  refine i2.at ?_
  refine wpAny_holding (wpAny_bind (b2.at ?_))
  refine wpAny_bind (wpAny_call (codeAny_mono hq fun r s' z => ?_))
  rcases r with e | (v | _ | _ | _) <;> first | exact z | exact z.elim | skip
  obtain ⟨rfl, z⟩ := z
  first
    | exact wpAny_pure (wpAny_pure z)
    | (wp_walk; exact z)
theorem kwCall (FB : ExcBaseFacts B newId initId bmB) (tl : ∀ X : String, bm.contains (.type X) = bmB.contains (.type X)) {kw : List (Str × Value)} {fI : Addr}
    (cl : h.get? C = some (excClassObj nm q C N bs bm hdct sn sub ab col dd k0 k1 k2 k3 k5 newId))
    (hi : W.Looks (model prog w) h (typeLookup (.ref C) "__init__") (some (.ref fI))) (hb : ∀ self, W.Looks (model prog w) h (bindSpecial (.ref fI) self) (.ref fI, [self]))
    (hq : codeAny (model prog w) (A.under (.builtin "type.__call__" ⟨[.ref C], kw⟩)) (.call (.ref fI) ⟨[.ref (h.objs.size + 1)], kw⟩) (W.InitBack (h.objs.size + 1) R)
      ⟨(h.push (kdv_tup [])).push (HandSPX.excO C h.objs.size), g, d, t, os⟩) :
    codeAny (model prog w) A (.call (.ref C) ⟨[], kw⟩) R ⟨h, g, d, t, os⟩ := by
  have f1 := tc_lookup
  have f2 := tc_bind (.ref C)
  have ty : (⟨h, g, d, t, os⟩ : Shared).TypeIs (.ref C) "type" := ⟨_, cl, rfl⟩
  refine codeAny_of_tree ?_
  show wpAny _ _ (callAny (.ref C) _) _ _ _
  repeat (any_goals (first | assumption | with_reducible refine wpAny_loadPart_at cl ?_ | wp_step))
  refine ⟨rfl, ?_⟩
  refine codeAny_call_builtin_at (Code.quiet_builtin _ (by decide +kernel)) entry_typeCall (wpAny_check_type_call_sub cl (kwTypeCall FB tl cl hi hb ?_))
  refine codeAny_mono hq fun r s' z => ?_
  rcases r with e | (v | _ | _ | _) <;> exact z
end
end Nk
end
section
set_option Elab.async false
set_option linter.all false
set_option maxRecDepth 100000
set_option maxHeartbeats 4000000
namespace Vf
open PySem PySem.Spec PyProof.Rows L2 Nk
section
variable {prog : Program} {w : World} {A : Around} {s : Shared} {K : PySem.W.Frag} {mg : Str → Option Value} {C fI cda cc : Addr} {v : Value} {R : Result → Shared → Prop}
abbrev BltOk (h : Heap) : Prop := ∃ mb, h.Ns builtinsNs mb ∧ ∀ y : Str, y ≠ "__name__" → mb y = bootBuiltins y
/-- NotKept(v) -/
theorem nk_made (T : NkT prog K mg C fI cda cc) (X : K.In s.heap) (G : s.heap.Ns mainGlobals mg) (B : BltOk s.heap) (hlim : s.heap.NoLimit) (hroom : A.depth + 1 < recursionLimit)
    (hq : ∀ h' tk dx, NkEnd s.heap h' (s.heap.objs.size + 1) C dx "reason" v → R (.ok (.ret (.ref (s.heap.objs.size + 1)))) { s with heap := h', toks := tk }) :
    codeAny (model prog w) A (.call (.ref C) ⟨[v], []⟩) R s := by
  obtain ⟨nm, q, N, bs, bm, sn, sub, ab, col, dd, k0, k1, k2, k3, k5, hC, hbm⟩ := id T.cls
  obtain ⟨hp, g, dr, tk, os⟩ := s
  refine PySem.HandSPX.call_own PySem.F.excBase_ValueError (fun Y => PySem.HandSPX.refsVE_contains Y bm hbm) (X _ _ hC) (PySem.W.looks_findIn X T.iC) (fun self => PySem.W.bind_fn X self T.tI) (by show 1 ≤ sizeLine; rw [sizeLine_eq]; omega) ?_
  have kk : ∀ b o, hp.get? b = some o → ((hp.push (PySem.W.kdv_tup [v])).push (PySem.HandSPX.excO C hp.objs.size)).get? b = some o := fun b o e => Heap.get?_push_of_some _ (Heap.get?_push_of_some _ e)
  have hget : ((hp.push (PySem.W.kdv_tup [v])).push (PySem.HandSPX.excO C hp.objs.size)).get? (hp.objs.size + 1) = some (PySem.HandSPX.excO C hp.objs.size) := by heap_get
  have hnone : hp.get? (hp.objs.size + 1) = none := by
    cases z : hp.get? (hp.objs.size + 1) with
    | none => rfl
    | some o => exact absurd (Nat.lt_of_succ_lt (Heap.lt_size z)) (Nat.lt_irrefl _)
  refine nk_init (s := ⟨(hp.push (PySem.W.kdv_tup [v])).push (PySem.HandSPX.excO C hp.objs.size), g, dr, tk, os⟩) (h0 := hp) (x := hp.objs.size + 1) (t0 := hp.objs.size) (v := v) T X G B (hlim.keeps kk) ?_ kk hget hnone ?_ (fun kV doc pm ct an => .of_eq rfl) (fun h' tk' dx e => ?_)
  · show hp.objs.size ≤ _
    rw [Heap.size_push, Heap.size_push]
    omega
  · show A.depth + 1 < recursionLimit
    exact hroom
  · exact ⟨rfl, hq h' tk' dx e⟩
/-- NotKept(reason=v) -/
theorem nk_madeK (T : NkT prog K mg C fI cda cc) (X : K.In s.heap) (G : s.heap.Ns mainGlobals mg) (B : BltOk s.heap) (hlim : s.heap.NoLimit) (hroom : A.depth + 1 < recursionLimit)
    (hq : ∀ h' tk dx, NkEnd s.heap h' (s.heap.objs.size + 1) C dx "reason" v → R (.ok (.ret (.ref (s.heap.objs.size + 1)))) { s with heap := h', toks := tk }) :
    codeAny (model prog w) A (.call (.ref C) ⟨[], [("reason", v)]⟩) R s := by
  obtain ⟨nm, q, N, bs, bm, sn, sub, ab, col, dd, k0, k1, k2, k3, k5, hC, hbm⟩ := id T.cls
  obtain ⟨hp, g, dr, tk, os⟩ := s
  refine kwCall PySem.F.excBase_ValueError (fun Y => PySem.HandSPX.refsVE_contains Y bm hbm) (X _ _ hC) (PySem.W.looks_findIn X T.iC) (fun self => PySem.W.bind_fn X self T.tI) ?_
  have kk : ∀ b o, hp.get? b = some o → ((hp.push (PySem.W.kdv_tup [])).push (PySem.HandSPX.excO C hp.objs.size)).get? b = some o := fun b o e => Heap.get?_push_of_some _ (Heap.get?_push_of_some _ e)
  have hget : ((hp.push (PySem.W.kdv_tup [])).push (PySem.HandSPX.excO C hp.objs.size)).get? (hp.objs.size + 1) = some (PySem.HandSPX.excO C hp.objs.size) := by heap_get
  have hnone : hp.get? (hp.objs.size + 1) = none := by
    cases z : hp.get? (hp.objs.size + 1) with
    | none => rfl
    | some o => exact absurd (Nat.lt_of_succ_lt (Heap.lt_size z)) (Nat.lt_irrefl _)
  refine nk_init (s := ⟨(hp.push (PySem.W.kdv_tup [])).push (PySem.HandSPX.excO C hp.objs.size), g, dr, tk, os⟩) (h0 := hp) (x := hp.objs.size + 1) (t0 := hp.objs.size) (v := v) T X G B (hlim.keeps kk) ?_ kk hget hnone ?_ (fun kV doc pm ct an => .of_eq rfl) (fun h' tk' dx e => ?_)
  · show hp.objs.size ≤ _
    rw [Heap.size_push, Heap.size_push]
    omega
  · show A.depth + 1 < recursionLimit
    exact hroom
  · exact ⟨rfl, hq h' tk' dx e⟩
end
theorem relO_one {v : V} {v' : Value} (f0 : Str) (r : RelV v v') (f : Str) : RelO (List.lookup f [(f0, v)]) (if f = f0 then some v' else none) := by
  by_cases hw : f = f0
  · subst hw
    rw [if_pos rfl]
    have q : List.lookup f [(f, v)] = some v := by simp [List.lookup]
    rw [q]
    exact r
  · rw [if_neg hw]
    have qw : (f == f0) = false := by simpa using hw
    have q2 : List.lookup f [(f0, v)] = none := by simp [List.lookup, qw]
    rw [q2]
    trivial
section
variable {X : Cx} {C fI cda cc : Addr}
/-- a made NotKept is an exception of ours -/
theorem nk_end (T : NkT X.prog X.K X.mg C fI cda cc) {pins : List (Addr × Obj)} {σ : L2.St} {H1 : Hp} {Q : XK} {hp h' : Heap} {g : Array GenState} {dr : Drawn} {tk tk' : Nat} {os : OsState} {e d : Addr} {v : V} {v' : Value} (I1 : Inv X pins σ H1 ⟨hp, g, dr, tk, os⟩)
    (rv : RelV v v') (he : hp.objs.size ≤ e) (M : NkEnd hp h' e C d "reason" v') (q1 : ∀ d, H1 d = none → Q (.ref C) (some d) (upd H1 d (.xd [(("reason" : Str), v)]))) : L2N.MkP X pins σ Q (.ref e) ⟨h', g, dr, tk', os⟩ := by
  obtain ⟨t1, hoe⟩ := M.obj
  have hns := M.ns
  obtain ⟨G', g1, g2⟩ := restrict h' fun b => decide (b ≠ e)
  have gk : ∀ b, b ≠ e → G'.get? b = h'.get? b := fun b hb => g1 b (decide_eq_true hb)
  have ge : G'.get? e = none := g2 e (by simp)
  have old : ∀ b o, hp.get? b = some o → G'.get? b = some o := fun b o q => (gk b (Nat.ne_of_lt (Nat.lt_of_lt_of_le (Heap.lt_size q) he))).trans (M.keep b o q)
  have ob : ObjOk X.prog X.w (upd H1 d (.xd [(("reason" : Str), v)])) G' d (.xd [(("reason" : Str), v)]) :=
    ⟨_, hns.at (fun o q => (gk d M.dne).trans q), fun f => relO_one "reason" rv f⟩
  have J : Inv X pins σ (upd H1 d (.xd [(("reason" : Str), v)])) ⟨G', g, dr, tk', os⟩ := I1.laid (t' := tk') old M.dbig ob
  refine ⟨e, _, _, ⟨G', g, dr, tk', os⟩, _, .ref C, some d, rfl, J, fun b o q => ?_, ge, hoe, ⟨rfl, rfl, fun vs z => by cases z; rfl⟩, rfl, rfl, ?_, rfl, I1.bare, raises_own T.exC T.tyC, q1 d (I1.hok.fresh M.dbig)⟩
  · by_cases hb : b = e
    · have q' : G'.get? b = some o := q
      rw [hb, ge] at q'
      cases q'
    · exact (gk b hb).symm.trans q
  · rw [upd_ne (Ne.symm M.dne)]
    exact I1.hok.fresh he
def tMkNk (C : Addr) (ta : TA) : L2.St → Hp → XK → Prop := fun σ H Q => ta σ H fun vs H1 => ∃ v, vs = [v] ∧ ∀ d, H1 d = none → Q (.ref C) (some d) (upd H1 d (.xd [(("reason" : Str), v)]))
theorem pmk_nk {a : Expr} {ta : TA} {p pos : Pos} {k : Nat} (T : NkT X.prog X.K X.mg C fI cda cc) (hr : Room k X.A) (ha : PA X [a] ta) (hg : Gl X "NotKept" := by rfl)
    (he : starEach (a :: []) X.env = (false, eval a X.env) :: starEach [] X.env := by rfl) (hpl : (backTo pos (starEach [] X.env)).any (·.1) = false := by rfl) :
    L2N.PMk X (.Call (.Name "NotKept" p) [a] [] pos) (tMkNk C ta) := by
  intro pins s σ H Q I h
  refine wpAny_Call_Name_kw (ld_glob I hg T.gC ?_)
  refine PySem.W.callWith_K (h₀ := X.base) I.ok.mod.kin T.kC (thn (ha.run pos pins s σ H _ I h) fun us s1 hh => ?_) he hpl
  obtain ⟨vs, H1, I1, r1, v, ev, q1⟩ := hh
  subst ev
  refine ⟨I1.kIn, ?_⟩
  cases r1 with
  | cons rv rn =>
    cases rn
    have hlim := I1.nolimit
    have G := I1.ok.mod.glob.keeps fun b o e => (I1.bs b o e).1
    obtain ⟨mb, bn, bb⟩ := I1.ok.mod.blt
    have B : BltOk s1.heap := ⟨mb, bn.keeps fun b o e => (I1.bs b o e).1, bb⟩
    obtain ⟨hp, g, dr, tk, os⟩ := s1
    exact wpAny_call (nk_made T I1.kIn G B hlim (by have := hr.dp; omega) fun h' tk' d M => nk_end T I1 rv (Nat.le_succ _) M q1)
theorem pmk_nkK {kws : List Keyword} {tk : TA} {p pos : Pos} {k : Nat} (T : NkT X.prog X.K X.mg C fI cda cc) (hr : Room k X.A) (hkw : PK X kws tk) (hg : Gl X "NotKept" := by rfl)
    (h1 : (backToKw pos (keywordEach kws X.env)).all (·.1.isSome) = true := by rfl) (h2 : (backToKw pos (keywordEach kws X.env)).filterMap (·.1) = [("reason" : Str)] := by rfl)
    (h3 : ((backTo pos (starEach [] X.env)).any (·.1) || (backToKw pos (keywordEach kws X.env)).any (·.1.isNone)) = false := by rfl) :
    L2N.PMk X (.Call (.Name "NotKept" p) [] kws pos) (tMkNk C tk) := by
  intro pins s σ H Q I h
  refine wpAny_Call_Name_kw (ld_glob I hg T.gC ?_)
  refine PySem.W.callWith_KW0 (h₀ := X.base) I.ok.mod.kin T.kC h1 (thn (hkw.run pos pins s σ H _ I h) fun ws s1 hh => ?_) h3
  obtain ⟨vs, H1, I1, r1, v, ev, q1⟩ := hh
  subst ev
  refine ⟨I1.kIn, ?_⟩
  rw [h2]
  cases r1 with
  | cons rv rn =>
    cases rn
    have hlim := I1.nolimit
    have G := I1.ok.mod.glob.keeps fun b o e => (I1.bs b o e).1
    obtain ⟨mb, bn, bb⟩ := I1.ok.mod.blt
    have B : BltOk s1.heap := ⟨mb, bn.keeps fun b o e => (I1.bs b o e).1, bb⟩
    obtain ⟨hp, g, dr, tk, os⟩ := s1
    exact wpAny_call (nk_madeK T I1.kIn G B hlim (by have := hr.dp; omega) fun h' tk' d M => nk_end T I1 rv (Nat.le_succ _) M q1)
end
end Vf
end
section
set_option Elab.async false
set_option linter.all false
set_option maxRecDepth 100000
set_option maxHeartbeats 4000000
/-! Exceptions without arguments; defs that an except suite calls with the exception it holds; isinstance of it, its fields. -/
namespace Nk
open PySem PySem.Spec PyProof.Rows L2
section
variable {X : Cx} {C : Addr} {bmB : List Value} {B newId initId : String}
/-- X() -/
theorem pmk_none {x : Str} {p pos : Pos} (F : ExcBaseFacts B newId initId bmB) (q : PySem.W.excIn X.K C bmB newId = true) (gC : X.mg x = some (.ref C)) (kC : PySem.W.keepIn X.K (.ref C) = true) (r : Raises X (.ref C)) (hg : Gl X x)
    (hdb : (x == ("__debug__" : Str)) = false := by decide) : L2N.PMk X (.Call (.Name x p) [] [] pos) (fun _ H Q => Q (.ref C) none H) := by
  intro pins s σ H Q I h
  refine wpAny_Call_Name_kw (ld_glob I hg gC ?_ hdb)
  refine PySem.W.callWith_K0 I.kIn kC ?_
  obtain ⟨bm, N, nm, qn, bs, hdct, sn, sub, ab, col, dd, k0, k1, k2, k3, k5, mN, hC, hN, hni, T⟩ := exc_obj I.kIn q
  exact wpAny_call_exc_subT F T hC hN hni (fun h' e hm => L2N.mk_of I hm r h (I.hok.gone hm.new)) (Nat.zero_le _)
end
/-! ### a def that a suite calls with its exception at p -/
abbrev SpE := Addr × Obj → Sp
structure FnE (P : Program) (w : World) (K : PySem.W.Frag) (mg : Str → Option Value) (base : Heap) (k : Nat) (f : Addr) (fd : FuncData) (ps : List Str) (sp : SpE) : Prop where
  len : ∀ p vs H Q E, sp p vs H Q E → vs.length = ps.length
  run : ∀ (A : Around) (outer : List Env) (s : Shared) (H : Hp) (args : Args) (us : List Value) (vs : List V) (Q : VK) (E : XK) (p : Addr × Obj), L2H.RoomH k A → L2H.Hot1 A p → L2H.PinOk outer H s p → Env0 P w K mg base A outer s H → BindsTo s fd args (ps.zip us) →
    Vals vs us → sp p vs H Q E → codeAny (model P w) A (.call (.ref f) args) (CR CX0 outer P w H s Q E) s
theorem fn_ofE {P : Program} {w : World} {K : PySem.W.Frag} {mg : Str → Option Value} {base : Heap} {k : Nat} {f : Addr} {st : Stmt} {x qual : Str} {fd : FuncData} {N ps : List Str} {sp : SpE} (F : Fun K x qual st f fd) (S : FnScope N ps (defScope st)) (hlen : ∀ p vs H Q E, sp p vs H Q E → vs.length = ps.length)
    (hbody : ∀ (cdv : Value) (A : Around) (outer : List Env) (s : Shared) (H : Hp) (vs : List V) (Q : VK) (E : XK) (p : Addr × Obj), L2H.Hot1 A p → L2H.RoomH k (A.deeper (envOfC qual (defScope st) s.heap.objs.size f cdv)) → sp p vs H Q E →
      ∃ t, PSs (L2H.cxH CX0 P w K mg base N qual (defScope st) f cdv A outer s H E p) (defBody st) t ∧ t { nx := fun _ H' => Q .non H', rt := Q } (L2.start N vs) H) : FnE P w K mg base (k + 1) f fd ps sp := by
  obtain ⟨oc, od, kV, doc, pm, an, cdv, ct, osl, rfl, lk, hcd⟩ := F.ex
  refine ⟨hlen, fun A outer s H args us vs Q E p hr hot hpin e0 hb r hsp => ?_⟩
  have hl := hlen _ _ _ _ _ hsp
  have KX : K.In s.heap := e0.mod.kin.keeps fun b o e => (e0.bs b o e).1
  have lim : s.heap.NoLimit := e0.mod.nolimit.keeps fun b o e => (e0.bs b o e).1
  have kd : ∀ y ∈ ps.zip us, (defScope st).names.lookup y.1 = some .local ∨ ((defScope st).names.lookup y.1 = some .cell ∧ ((cellsFrom (s.heap.objs.size + 1) (defScope st).names []).lookup y.1).isSome = true) := fun ⟨n, v⟩ hy => by
    rcases S.par n (List.of_mem_zip hy).1 with z | z
    · exact .inl z
    · exact .inr ⟨z, PySem.W.cellsFrom_some _ _ _ (.inl z)⟩
  refine codeAny_call_function hr.depth (KX _ _ lk) rfl S.co S.gen rfl (PySem.W.codeRec_of KX hcd) (hb _ _ _ _ ?_)
  refine wpAny_newFunctionEnv_cells S.kind kd fun env he s1 x => ?_
  subst he
  refine ⟨lim.keeps x.toInCall.keep, codeAny_func ?_⟩
  obtain ⟨t, ht, hq⟩ := hbody cdv A outer s H vs Q E p hot (hr.deeper _) hsp
  have I : Inv (L2H.cxH CX0 P w K mg base N qual (defScope st) f cdv A outer s H E p) [] (L2.start N vs) H s1 := L2H.inv_startH S hpin e0 hl r x
  refine wpAny_mono (ht.run [] s1 (L2.start N vs) H _ I hq) (fun fl s' hs => ?_) fun e s' hs => hs
  have fin : ∀ {σ' : L2.St} {H' : Hp} {v : V} {u : Value}, Inv (L2H.cxH CX0 P w K mg base N qual (defScope st) f cdv A outer s H E p) [] σ' H' s' → RelV v u → Q v H' → CE outer P w H s Q u s' :=
    fun {σ' H' v u} J rv q => ⟨v, H', J.os, J.bare, J.base, J.hok, rv, q⟩
  cases fl with
  | ret u =>
    obtain ⟨v, σ', H', J, rv, q⟩ := hs
    exact fin J rv q
  | next =>
    obtain ⟨σ', H', J, q⟩ := hs
    exact fin (v := V.non) (u := Value.none) J rfl q
  | brk =>
    obtain ⟨_, _, _, q⟩ := hs
    exact False.elim q
  | cont =>
    obtain ⟨_, _, _, q⟩ := hs
    exact False.elim q
section
variable {X : Cx} {k : Nat} {f : Addr} {fd : FuncData} {ps : List Str} {sp : SpE} {x : Str} {q pos : Pos} {e : Expr} {es : List Expr} {ta : TE} {t : TA} {p : Addr × Obj}
theorem pe_callE (F : FnE X.prog X.w X.K X.mg X.base k f fd ps sp) (hr : L2H.RoomH k X.A) (hot : L2H.Hot1 X.A p) (hp : p ∈ X.pn) (hg : Gl X x) (hm : X.mg x = some (.ref f)) (hk : PySem.W.keepIn X.K (.ref f) = true) (hb : Binds X.K fd ps [])
    (ha : PA X (e :: es) t) (hdb : (x == ("__debug__" : Str)) = false := by decide) (he : starEach (e :: es) X.env = (false, eval e X.env) :: starEach es X.env := by rfl) (hpl : (backTo pos (starEach es X.env)).any (·.1) = false := by rfl) :
    PE X (.Call (.Name x q) (e :: es) [] pos) (tCall (sp p) [] E0 t) := by
  refine ⟨fun pins s σ H Q I h => ?_⟩
  refine wpAny_Call_Name_kw (ld_glob I hg hm ?_ hdb)
  refine PySem.W.callWith_K (h₀ := X.base) I.ok.mod.kin hk (thn (ha.run pos pins s σ H _ I h) fun us s1 ⟨vs, H1, I1, r, q⟩ => ⟨I1.kIn, ?_⟩) he hpl
  have q : sp p (vs ++ []) H1 Q E0 := q
  rw [List.append_nil] at q
  have hl : us.length = ps.length := by rw [← r.length]; exact F.len _ _ _ _ _ q
  have b := hb s1 us I1.kIn (by rw [List.append_nil]; exact hl)
  rw [List.append_nil] at b
  have P1 := I1.pin p (List.mem_append_left _ hp)
  have hpin : L2H.PinOk X.stack H1 s1 p := ⟨P1.1, P1.2.1, fun hm => (List.mem_cons.mp (I1.stkSub p.1 hm)).elim P1.2.2.1 P1.2.2.2.1, P1.2.2.2.2⟩
  refine wpAny_call (codeAny_mono (F.run X.A X.stack s1 H1 ⟨us, []⟩ us vs Q E0 p hr hot hpin I1.env0 b r q) fun r s' hq => ?_)
  cases r with
  | error e => exact hq.elim
  | ok fl =>
    cases fl with
    | ret u => exact I1.after hq
    | next => exact False.elim hq
    | brk => exact False.elim hq
    | cont => exact False.elim hq
end
/-! ### isinstance -/
/-- what the class of such an exception says -/
def isC (K : PySem.W.Frag) (D : Addr) : Bool := (PySem.W.clsIn K D).isSome && (decide (PySem.W.findIn K (.ref D) "__getattribute__" = some (some (.builtin "BaseException.__getattribute__"))) && (decide (PySem.W.findIn K (.ref D) "__getattr__" = some none) &&
  (decide (PySem.W.subIn K (.ref D) (.type "BaseException") = some true) && (decide (PySem.W.findIn K (.ref D) "__class__" = some (some (.builtin "object.__class__"))) && (decide (PySem.W.specialIn K (.builtin "object.__class__") "__get__" = some (some (.builtin "getset_descriptor.__get__"))) &&
    (decide (PySem.W.takesIn K (.builtin "object.__class__") = some true) && (decide (PySem.W.mroIn K D (.type "object") = some true) && PySem.W.hasDictIn K D)))))))
/-- its dict, where it has one, is tracked -/
def DOk (d : Option Addr) (H : Hp) : Prop := d = none ∨ ∃ dd fs, d = some dd ∧ H dd = some (.xd fs)
theorem DOk.ex {d : Option Addr} {H H' : Hp} (h : DOk d H) (e : ∀ b o, H b = some o → H' b = some o) : DOk d H' := by
  rcases h with h | ⟨dd, fs, h1, h2⟩
  · exact .inl h
  · exact .inr ⟨dd, fs, h1, e _ _ h2⟩
def rIsP (K : PySem.W.Frag) (D a : Addr) (d : Option Addr) : List V → Hp → VK → Prop := fun xs H Q => ∃ (c : V) (cv : Value) (b : Bool), xs = [.ref a, c] ∧ (∀ u, RelV c u → u = cv) ∧ PySem.W.kitOne K (.ref D) cv = some b ∧ DOk d H ∧ Q (.bl b) H
theorem call_isP {X : Cx} {D : Addr} {d : Option Addr} {p : Addr × Obj} (h : isC X.K D = true) (hz : Zc (.ref D) d p.2) (hf : ∃ vs, p.2.data = .fields vs) (hp : p ∈ X.pn) : CallR X (.builtin "isinstance") (rIsP X.K D p.1 d) := by
  unfold isC at h
  simp only [Bool.and_eq_true, decide_eq_true_eq] at h
  obtain ⟨h1, h2, h3, h4, h5, h6, h7, h8, _⟩ := h
  intro pins s σ H xs us Q I r hq
  obtain ⟨c, cv, b, rfl, hcv, e, hd, q⟩ := hq
  cases r with
  | cons rx rr =>
    cases rr with
    | cons rt rr =>
      cases rr
      cases rx
      have ec := hcv _ rt
      subst ec
      obtain ⟨hget, _⟩ := I.pin p (List.mem_append_left _ hp)
      obtain ⟨a, oe⟩ := p
      obtain ⟨vs, hv⟩ := hf
      obtain ⟨od, J⟩ : ∃ od, PySem.W.InstAt s.heap a oe D od := by
        obtain ⟨oc, odt, oda, osl⟩ := oe
        obtain ⟨z1, z2⟩ := hz
        dsimp only at z1 z2 hv
        subst z1 z2 hv
        rcases hd with hd | ⟨dd, fs, rfl, hdd⟩
        · subst hd
          exact ⟨none, hget, rfl, rfl, trivial⟩
        · obtain ⟨o, ho⟩ := objOk_get (I.hok dd _ hdd)
          exact ⟨some o, hget, rfl, rfl, ho⟩
      exact PySem.W.kia_one (PySem.W.kitx_exc h1 h2 h3 h4 h5 h6 h7 h8) I.kIn J e (fun z => nomatch z) fun tk => ⟨.bl b, H, I.kept (t' := tk) fun _ _ z => z, rfl, q⟩
/-! ### xs.count(True), xs a list of truths -/
def eqB (v : Value) : Bool := match v with
  | .bool b => b
  | _ => false
theorem eqB_at {A : Around} {s : Shared} : ∀ {us : List Value} {bs : List Bool}, Vals (bs.map V.bl) us → ∀ y ∈ us, SeqAt.EqAt A s y (.bool true) (eqB y)
  | [], _, _ => fun y hy => by cases hy
  | u :: us, [], r => by cases r
  | u :: us, b :: bs, r => fun y hy => by
    cases r with
    | cons ru rr =>
      rcases List.mem_cons.mp hy with e | e
      · rw [e]
        cases (show u = Value.bool b from ru)
        have q : SeqAt.EqAt A s (.bool b) (.bool true) (b == true) := SeqAt.EqAt.bool_bool b true
        cases b <;> exact q
      · exact eqB_at rr y e
theorem eqB_count : ∀ {us : List Value} {bs : List Bool}, Vals (bs.map V.bl) us → us.countP eqB = bs.count true
  | [], [], _ => rfl
  | [], _ :: _, r => by cases r
  | u :: us, [], r => by cases r
  | u :: us, b :: bs, r => by
    cases r with
    | cons ru rr =>
      cases (show u = Value.bool b from ru)
      rw [List.countP_cons, List.count_cons, eqB_count rr]
      cases b <;> rfl
def rCntB (K : PySem.W.Frag) : V → List V → Hp → VK → Prop := fun x xs H Q => ∃ (p : Addr) (bs : List Bool), x = .ref p ∧ xs = [.bl true] ∧ SqL K H p (bs.map V.bl) ∧ Q (.int (bs.count true : Nat)) H
theorem mt_countB {X : Cx} : MtR X "list.count" (rCntB X.K) := by
  intro pins s σ H x xs v us Q I rx rxs h
  obtain ⟨p, bs, rfl, rfl, hs, q⟩ := h
  cases rx
  obtain ⟨u, rfl, ru⟩ := rxs.one
  cases (show u = Value.bool true from ru)
  obtain ⟨its, rv, ⟨⟨cls, dd, data, sl⟩, n, ho, hc, hdn, hd⟩, hlen⟩ := I.list hs
  simp only at hc hd
  subst hc hd
  refine call_meets PySem.F.slot_list_count ⟨_, ho, rfl⟩ PySem.F.entry_list_count (PySem.F.args_list_count_2 _ _)
    (SeqAt.list_countAt p its.toArray n dd sl (.bool true) eqB) ⟨ho, fun y hy => eqB_at rv y (by simpa using hy), ?_⟩
  have ec : its.toArray.toList.countP eqB = bs.count true := eqB_count rv
  refine ⟨.int (bs.count true : Nat), H, I.tok _, ⟨s.toks, ?_⟩, q⟩
  show Value.int ((its.toArray.toList.countP eqB : Nat) : Int) s.toks = Value.int ((bs.count true : Nat) : Int) s.toks
  rw [ec]
/-! ### defs that raise: their context leaves the exception's context None -/
theorem takesN0 {X : Cx} : L2N.Takes X (fun _ _ _ _ => False) := fun _ _ x => by
  obtain ⟨_, _, _, _, _, _, _, _, _, _, _, _, _, _, _, _, z⟩ := x
  exact z.elim
theorem okN {P : Program} {w : World} {K : PySem.W.Frag} {mg : Str → Option Value} {base : Heap} {x qual : Str} {st : Stmt} {f : Addr} {fd : FuncData} {N ps : List Str} {k : Nat} {sp : Sp} (F : Fun K x qual st f fd) (S : FnScope N ps (defScope st)) (len : ∀ vs H Q E, sp vs H Q E → vs.length = ps.length)
    (hbody : ∀ (cdv : Value) (A : Around) (outer : List Env) (s : Shared) (H : Hp) (vs : List V) (Q : VK) (E : XK), Room k (A.deeper (envOfC qual (defScope st) s.heap.objs.size f cdv)) → sp vs H Q E →
      ∃ t, PSs (cxOf (L2N.CX P w) P w K mg base N qual (defScope st) f cdv A outer s H E) (defBody st) t ∧ t { nx := fun _ H' => Q .non H', rt := Q } (L2.start N vs) H) : FnOk P w K mg base (L2N.CX P w) (k + 1) f fd ps sp := by
  obtain ⟨oc, od, kV, doc, pm, an, cdv, ct, osl, rfl, lk, hcd⟩ := F.ex
  exact fn_of lk hcd S len fun A outer s H vs Q E hr hsp => hbody cdv A outer s H vs Q E hr hsp
end Nk
end
section
set_option Elab.async false
set_option linter.all false
set_option maxRecDepth 100000
set_option maxHeartbeats 4000000
namespace Vf
open PySem PySem.Spec PyProof.Rows L2 Evl Nk
/-! ### the error classes: the i-th at cs i -/
def clsOk (K : PySem.W.Frag) (C : Addr) : Bool := PySem.W.excIn K C veT "ValueError.__new__" && (PySem.W.keepIn K (.ref C) && (decide (PySem.W.subIn K (.ref C) (.type "BaseException") = some true) && decide (PySem.W.typeIn K (.ref C) = some (.type "type"))))
structure Txt (P : Program) (K : PySem.W.Frag) (mg : Str → Option Value) (cs : Nat → Addr) (fI cda cc : Addr) : Prop where
  g_InvalidBound : mg "InvalidBound" = some (.ref (cs 0))
  g_InvalidEnds : mg "InvalidEnds" = some (.ref (cs 1))
  g_InvalidEvent : mg "InvalidEvent" = some (.ref (cs 2))
  g_InvalidHistory : mg "InvalidHistory" = some (.ref (cs 3))
  g_InvalidNumber : mg "InvalidNumber" = some (.ref (cs 4))
  g_InvalidPair : mg "InvalidPair" = some (.ref (cs 5))
  g_InvalidPlan : mg "InvalidPlan" = some (.ref (cs 6))
  g_InvalidRun : mg "InvalidRun" = some (.ref (cs 7))
  g_InvalidText : mg "InvalidText" = some (.ref (cs 8))
  g_InvalidTimes : mg "InvalidTimes" = some (.ref (cs 9))
  g_NotDesign : mg "NotDesign" = some (.ref (cs 10))
  g_NotKept : mg "NotKept" = some (.ref (cs 11))
  g_NotSafe : mg "NotSafe" = some (.ref (cs 12))
  g_NothingToUndo : mg "NothingToUndo" = some (.ref (cs 13))
  g_OtherTasks : mg "OtherTasks" = some (.ref (cs 14))
  g_SameEvent : mg "SameEvent" = some (.ref (cs 15))
  g_Started : mg "Started" = some (.ref (cs 16))
  g_TooLate : mg "TooLate" = some (.ref (cs 17))
  g_PlanError : mg "PlanError" = some (.ref (cs 18))
  smp : ∀ i, i < 19 → i ≠ 11 → clsOk K (cs i) = true
  nk : NkT P K mg (cs 11) fI cda cc
  is_ : ∀ i, i < 19 → isC K (cs i) = true
  kit : ∀ i j, i < 19 → j < 18 → PySem.W.kitOne K (.ref (cs i)) (.ref (cs j)) = some (decide (i = j))
  ve : ∀ i, i < 19 → PySem.W.kitOne K (.ref (cs i)) (.type "ValueError") = some true
  pe : ∀ i, i < 19 → PySem.W.exmOne K (.ref (cs i)) (.ref (cs 18)) = some true
  nn : PySem.W.exmOne K (.ref (cs 11)) (.ref (cs 11)) = some true
  xf : xfB K (cs 11) = true
  isinstance : mg "isinstance" = none
  ValueError : mg "ValueError" = none
  len : mg "len" = none
  range : mg "range" = none
  int : mg "int" = none
  tuple : mg "tuple" = none
section
variable {P : Program} {w : World} {K : PySem.W.Frag} {mg : Str → Option Value} {base : Heap} {cs : Nat → Addr} {fI cda cc : Addr} {f : Addr} {fd : FuncData}
theorem Txt.q (T : Txt P K mg cs fI cda cc) (i : Nat) (h : i < 19 := by decide) (h2 : i ≠ 11 := by decide) : PySem.W.excIn K (cs i) veT "ValueError.__new__" = true ∧ PySem.W.keepIn K (.ref (cs i)) = true ∧ PySem.W.subIn K (.ref (cs i)) (.type "BaseException") = some true ∧ PySem.W.typeIn K (.ref (cs i)) = some (.type "type") := by
  have z := T.smp i h h2
  unfold clsOk at z
  simpa only [Bool.and_eq_true, decide_eq_true_eq] using z
theorem pmk_cls {X : Cx} (T : Txt P X.K X.mg cs fI cda cc) {x : Str} {p pos : Pos} (i : Nat) (gC : X.mg x = some (.ref (cs i))) (hg : Gl X x) (h : i < 19 := by decide) (h2 : i ≠ 11 := by decide) (hdb : (x == ("__debug__" : Str)) = false := by decide) :
    L2N.PMk X (.Call (.Name x p) [] [] pos) (fun _ H Q => Q (.ref (cs i)) none H) :=
  let z := T.q i h h2
  pmk_none PySem.F.excBase_ValueError z.1 gC z.2.1 (raises_own z.2.2.1 z.2.2.2) hg hdb
theorem mkNkD {C : Addr} {te : TE} {σ : L2.St} {H : Hp} {Q : XK} {d : PyData} (h : EvD K te σ H d) (k : ∀ v H1, Ex H H1 → Dp K H1 v d → ∀ dd, H1 dd = none → Q (.ref C) (some dd) (upd H1 dd (.xd [(("reason" : Str), v)]))) : tMkNk C (tCons te tNil) σ H Q :=
  h H (Ex.refl _) _ fun v H1 e hd => ⟨v, rfl, fun dd hdd => k v H1 e hd dd hdd⟩
theorem s_dropCall {sp : Sp} {E : XK} {ta : TE} {σ : L2.St} {H : Hp} {D : Ends} {v : V} (h : Ev ta σ H v) (k : ∀ H1, Ex H H1 → sp [v] H1 (fun _ H2 => D.nx σ H2) E) : tDrop (tCall sp [] E (tCons ta tNil)) D σ H := h H (Ex.refl _) _ fun H1 e => k H1 e
/-! ### _law_raised_more, _law_raised_one -/
abbrev spRaise (cs : Nat → Addr) (lo : Nat) : Sp := fun vs H _ E => ∃ i : Nat, lo ≤ i ∧ i < 18 ∧ vs = [.int (i : Int)] ∧ ∀ d H', Ex H H' → DOk d H' → E (.ref (cs i)) d H'
theorem et_way {σ : L2.St} {H : Hp} {i : Nat} (k : Nat) (h : σ[0]? = some (some (.int (i : Int)))) : EvT (tTest (tOp rEq (tVar 0) (tC (.int (k : Int))))) σ H (decide (i = k)) :=
  et_is (et_test (ev_op (ev_var h) ev_c (rv_eq rfl))) (by
    by_cases e : i = k
    · subst e
      simp
    · rw [decide_eq_false e, decide_eq_false]
      intro z
      cases z
      exact e rfl)
abbrev s_law_raised_more : Stmt := topS 39
theorem sc_law_raised_more : FnScope ["way"] ["way"] (defScope s_law_raised_more) := ⟨rfl, rfl, rfl, by decide +kernel, rfl, by decide +kernel, by decide +kernel⟩
theorem ok_law_raised_more (F : Fun K "_law_raised_more" "_law_raised_more" s_law_raised_more f fd) (T : Txt P K mg cs fI cda cc) : FnOk P w K mg base (L2N.CX P w) 1 f fd ["way"] (spRaise cs 12) := by
  refine okN F sc_law_raised_more (fun vs H Q E h => ?_) (fun cdv A outer s H vs Q E hr h => ?_)
  · obtain ⟨i, _, _, rfl, _⟩ := h
    rfl
  · obtain ⟨i, h1, h2, rfl, q⟩ := h
    refine ⟨_, (pss_cons (ps_if (pt_cmpR op_eq (pv 0) pe_int (nomark _)) (pss_one (L2N.ps_raise rfl (L2N.takes_of rfl rfl rfl rfl) (pmk_cls T 12 T.g_NotSafe (by rfl)))) pss_nil) (pss_cons (ps_if (pt_cmpR op_eq (pv 0) pe_int (nomark _)) (pss_one (L2N.ps_raise rfl (L2N.takes_of rfl rfl rfl rfl) (pmk_cls T 13 T.g_NothingToUndo (by rfl)))) pss_nil) (pss_cons (ps_if (pt_cmpR op_eq (pv 0) pe_int (nomark _)) (pss_one (L2N.ps_raise rfl (L2N.takes_of rfl rfl rfl rfl) (pmk_cls T 14 T.g_OtherTasks (by rfl)))) pss_nil) (pss_cons (ps_if (pt_cmpR op_eq (pv 0) pe_int (nomark _)) (pss_one (L2N.ps_raise rfl (L2N.takes_of rfl rfl rfl rfl) (pmk_cls T 15 T.g_SameEvent (by rfl)))) pss_nil) (pss_cons (ps_if (pt_cmpR op_eq (pv 0) pe_int (nomark _)) (pss_one (L2N.ps_raise rfl (L2N.takes_of rfl rfl rfl rfl) (pmk_cls T 16 T.g_Started (by rfl)))) pss_nil) (pss_one (ps_if (pt_cmpR op_eq (pv 0) pe_int (nomark _)) (pss_one (L2N.ps_raise rfl (L2N.takes_of rfl rfl rfl rfl) (pmk_cls T 17 T.g_TooLate (by rfl)))) pss_nil))))))), ?_⟩
    refine q_when (et_way 12 rfl) (fun hb H1 e1 => ?_) (fun hb12 H12 e12 => ?_)
    · have e := of_decide_eq_true hb
      subst e
      exact q none H1 (e1) (.inl rfl)
    refine q_when (et_way 13 rfl) (fun hb H1 e1 => ?_) (fun hb13 H13 e13 => ?_)
    · have e := of_decide_eq_true hb
      subst e
      exact q none H1 ((e12.trans e1)) (.inl rfl)
    refine q_when (et_way 14 rfl) (fun hb H1 e1 => ?_) (fun hb14 H14 e14 => ?_)
    · have e := of_decide_eq_true hb
      subst e
      exact q none H1 (((e12.trans e13).trans e1)) (.inl rfl)
    refine q_when (et_way 15 rfl) (fun hb H1 e1 => ?_) (fun hb15 H15 e15 => ?_)
    · have e := of_decide_eq_true hb
      subst e
      exact q none H1 ((((e12.trans e13).trans e14).trans e1)) (.inl rfl)
    refine q_when (et_way 16 rfl) (fun hb H1 e1 => ?_) (fun hb16 H16 e16 => ?_)
    · have e := of_decide_eq_true hb
      subst e
      exact q none H1 (((((e12.trans e13).trans e14).trans e15).trans e1)) (.inl rfl)
    refine s_when (et_way 17 rfl) (fun hb H1 e1 => ?_) (fun hb17 H17 e17 => ?_)
    · have e := of_decide_eq_true hb
      subst e
      exact q none H1 ((((((e12.trans e13).trans e14).trans e15).trans e16).trans e1)) (.inl rfl)
    · have z12 := of_decide_eq_false hb12
      have z13 := of_decide_eq_false hb13
      have z14 := of_decide_eq_false hb14
      have z15 := of_decide_eq_false hb15
      have z16 := of_decide_eq_false hb16
      have z17 := of_decide_eq_false hb17
      omega
abbrev s_law_raised_one : Stmt := topS 38
theorem sc_law_raised_one : FnScope ["way"] ["way"] (defScope s_law_raised_one) := ⟨rfl, rfl, rfl, by decide +kernel, rfl, by decide +kernel, by decide +kernel⟩
theorem ok_law_raised_one (F : Fun K "_law_raised_one" "_law_raised_one" s_law_raised_one f fd) (T : Txt P K mg cs fI cda cc) {fM : Addr} {dM : FuncData} (G : FnOk P w K mg base (L2N.CX P w) 1 fM dM ["way"] (spRaise cs 12)) (gM : mg "_law_raised_more" = some (.ref fM)) (kM : PySem.W.keepIn K (.ref fM) = true) (bM : Binds K dM ["way"] []) :
    FnOk P w K mg base (L2N.CX P w) 2 f fd ["way"] (spRaise cs 0) := by
  refine okN F sc_law_raised_one (fun vs H Q E h => ?_) (fun cdv A outer s H vs Q E hr h => ?_)
  · obtain ⟨i, _, _, rfl, _⟩ := h
    rfl
  · obtain ⟨i, h1, h2, rfl, q⟩ := h
    refine ⟨_, (pss_cons (ps_if (pt_cmpR op_eq (pv 0) pe_int (nomark _)) (pss_one (L2N.ps_raise rfl (L2N.takes_of rfl rfl rfl rfl) (pmk_cls T 0 T.g_InvalidBound (by rfl)))) pss_nil) (pss_cons (ps_if (pt_cmpR op_eq (pv 0) pe_int (nomark _)) (pss_one (L2N.ps_raise rfl (L2N.takes_of rfl rfl rfl rfl) (pmk_cls T 1 T.g_InvalidEnds (by rfl)))) pss_nil) (pss_cons (ps_if (pt_cmpR op_eq (pv 0) pe_int (nomark _)) (pss_one (L2N.ps_raise rfl (L2N.takes_of rfl rfl rfl rfl) (pmk_cls T 2 T.g_InvalidEvent (by rfl)))) pss_nil) (pss_cons (ps_if (pt_cmpR op_eq (pv 0) pe_int (nomark _)) (pss_one (L2N.ps_raise rfl (L2N.takes_of rfl rfl rfl rfl) (pmk_cls T 3 T.g_InvalidHistory (by rfl)))) pss_nil) (pss_cons (ps_if (pt_cmpR op_eq (pv 0) pe_int (nomark _)) (pss_one (L2N.ps_raise rfl (L2N.takes_of rfl rfl rfl rfl) (pmk_cls T 4 T.g_InvalidNumber (by rfl)))) pss_nil) (pss_cons (ps_if (pt_cmpR op_eq (pv 0) pe_int (nomark _)) (pss_one (L2N.ps_raise rfl (L2N.takes_of rfl rfl rfl rfl) (pmk_cls T 5 T.g_InvalidPair (by rfl)))) pss_nil) (pss_cons (ps_if (pt_cmpR op_eq (pv 0) pe_int (nomark _)) (pss_one (L2N.ps_raise rfl (L2N.takes_of rfl rfl rfl rfl) (pmk_cls T 6 T.g_InvalidPlan (by rfl)))) pss_nil) (pss_cons (ps_if (pt_cmpR op_eq (pv 0) pe_int (nomark _)) (pss_one (L2N.ps_raise rfl (L2N.takes_of rfl rfl rfl rfl) (pmk_cls T 7 T.g_InvalidRun (by rfl)))) pss_nil) (pss_cons (ps_if (pt_cmpR op_eq (pv 0) pe_int (nomark _)) (pss_one (L2N.ps_raise rfl (L2N.takes_of rfl rfl rfl rfl) (pmk_cls T 8 T.g_InvalidText (by rfl)))) pss_nil) (pss_cons (ps_if (pt_cmpR op_eq (pv 0) pe_int (nomark _)) (pss_one (L2N.ps_raise rfl (L2N.takes_of rfl rfl rfl rfl) (pmk_cls T 9 T.g_InvalidTimes (by rfl)))) pss_nil) (pss_cons (ps_if (pt_cmpR op_eq (pv 0) pe_int (nomark _)) (pss_one (L2N.ps_raise rfl (L2N.takes_of rfl rfl rfl rfl) (pmk_cls T 10 T.g_NotDesign (by rfl)))) pss_nil) (pss_cons (ps_if (pt_cmpR op_eq (pv 0) pe_int (nomark _)) (pss_one (L2N.ps_raise rfl (L2N.takes_of rfl rfl rfl rfl) (pmk_nk T.nk hr (pa_cons (pe_tup (pa_cons (pe_lst pa_nil) (pa_cons (pe_lst (pa_cons pe_int pa_nil)) pa_nil))) pa_nil)))) pss_nil) (pss_one (ps_expr ((pe_call G (by first | exact hr | exact hr.mono (by decide)) (by rfl) gM kM bM .nil (L2N.passes_call (L2N.takes_of rfl rfl rfl rfl) (fun _ _ _ _ h => h)) (E := E) (pa_cons (pv 0) pa_nil))))))))))))))))), ?_⟩
    refine q_when (et_way 0 rfl) (fun hb H1 E1 => ?_) (fun hb0 H20 e0 => ?_)
    · have e := of_decide_eq_true hb
      subst e
      exact q none H1 E1 (.inl rfl)
    refine q_when (et_way 1 rfl) (fun hb H1 E1 => ?_) (fun hb1 H21 e1 => ?_)
    · have e := of_decide_eq_true hb
      subst e
      exact q none H1 (e0.trans E1) (.inl rfl)
    refine q_when (et_way 2 rfl) (fun hb H1 E1 => ?_) (fun hb2 H22 e2 => ?_)
    · have e := of_decide_eq_true hb
      subst e
      exact q none H1 ((e0.trans e1).trans E1) (.inl rfl)
    refine q_when (et_way 3 rfl) (fun hb H1 E1 => ?_) (fun hb3 H23 e3 => ?_)
    · have e := of_decide_eq_true hb
      subst e
      exact q none H1 (((e0.trans e1).trans e2).trans E1) (.inl rfl)
    refine q_when (et_way 4 rfl) (fun hb H1 E1 => ?_) (fun hb4 H24 e4 => ?_)
    · have e := of_decide_eq_true hb
      subst e
      exact q none H1 ((((e0.trans e1).trans e2).trans e3).trans E1) (.inl rfl)
    refine q_when (et_way 5 rfl) (fun hb H1 E1 => ?_) (fun hb5 H25 e5 => ?_)
    · have e := of_decide_eq_true hb
      subst e
      exact q none H1 (((((e0.trans e1).trans e2).trans e3).trans e4).trans E1) (.inl rfl)
    refine q_when (et_way 6 rfl) (fun hb H1 E1 => ?_) (fun hb6 H26 e6 => ?_)
    · have e := of_decide_eq_true hb
      subst e
      exact q none H1 ((((((e0.trans e1).trans e2).trans e3).trans e4).trans e5).trans E1) (.inl rfl)
    refine q_when (et_way 7 rfl) (fun hb H1 E1 => ?_) (fun hb7 H27 e7 => ?_)
    · have e := of_decide_eq_true hb
      subst e
      exact q none H1 (((((((e0.trans e1).trans e2).trans e3).trans e4).trans e5).trans e6).trans E1) (.inl rfl)
    refine q_when (et_way 8 rfl) (fun hb H1 E1 => ?_) (fun hb8 H28 e8 => ?_)
    · have e := of_decide_eq_true hb
      subst e
      exact q none H1 ((((((((e0.trans e1).trans e2).trans e3).trans e4).trans e5).trans e6).trans e7).trans E1) (.inl rfl)
    refine q_when (et_way 9 rfl) (fun hb H1 E1 => ?_) (fun hb9 H29 e9 => ?_)
    · have e := of_decide_eq_true hb
      subst e
      exact q none H1 (((((((((e0.trans e1).trans e2).trans e3).trans e4).trans e5).trans e6).trans e7).trans e8).trans E1) (.inl rfl)
    refine q_when (et_way 10 rfl) (fun hb H1 E1 => ?_) (fun hb10 H30 e10 => ?_)
    · have e := of_decide_eq_true hb
      subst e
      exact q none H1 ((((((((((e0.trans e1).trans e2).trans e3).trans e4).trans e5).trans e6).trans e7).trans e8).trans e9).trans E1) (.inl rfl)
    refine q_when (et_way 11 rfl) (fun hb H1 E1 => ?_) (fun hb11 H31 e11 => ?_)
    · have e := of_decide_eq_true hb
      subst e
      have g : EvD K (tTup (tCons (tLst tNil) (tCons (tLst (tCons (tC (.int 0)) tNil)) tNil))) [some (.int 11)] H1 (.tuple [.list [], .list [.int 0]]) :=
        ed_tup (eds_cons (ed_n (en_lst eds_nil (by decide))) (eds_cons (ed_n (en_lst (eds_cons (ed_of ev_c (.int 0)) eds_nil) (by decide))) eds_nil)) (by decide)
      refine mkNkD g fun v Hv ev _ d hd => ?_
      exact q (some d) _ ((((((((((((e0.trans e1).trans e2).trans e3).trans e4).trans e5).trans e6).trans e7).trans e8).trans e9).trans e10).trans E1).trans (ev.trans (Ex.new hd))) (.inr ⟨d, _, rfl, upd_same⟩)
    have z : 12 ≤ i := by
      have z0 := of_decide_eq_false hb0
      have z1 := of_decide_eq_false hb1
      have z2 := of_decide_eq_false hb2
      have z3 := of_decide_eq_false hb3
      have z4 := of_decide_eq_false hb4
      have z5 := of_decide_eq_false hb5
      have z6 := of_decide_eq_false hb6
      have z7 := of_decide_eq_false hb7
      have z8 := of_decide_eq_false hb8
      have z9 := of_decide_eq_false hb9
      have z10 := of_decide_eq_false hb10
      have z11 := of_decide_eq_false hb11
      omega
    refine s_dropCall (ev_var rfl) (fun Hz ez => ⟨i, z, h2, rfl, fun d Hy ey hd => q d Hy (((((((((((((e0.trans e1).trans e2).trans e3).trans e4).trans e5).trans e6).trans e7).trans e8).trans e9).trans e10).trans e11).trans ez).trans ey) hd⟩)
end
end Vf
end
section
set_option Elab.async false
set_option linter.all false
set_option maxRecDepth 100000
set_option maxHeartbeats 4000000
namespace Vf
open PySem PySem.Spec PyProof.Rows L2 Evl Nk
/-! ### _law_marks -/
theorem el_catL {ta tb : TE} {σ : L2.St} {H : Hp} {p : Addr} {xs ys : List V} (ha : Ev ta σ H (.ref p)) (hp : H p = some (.lst xs)) (hb : EvL tb σ H ys) (hz : xs.length + ys.length ≤ 100000) : EvL (tOp rCat ta tb) σ H (xs ++ ys) := fun H1 e Q q =>
  ha H1 e _ fun H2 e2 => hb H2 (e.trans e2) _ fun b H3 hb3 e3 h3 => ⟨p, b, xs, ys, rfl, rfl, e3 _ _ (e2 _ _ (e _ _ hp)), h3, Nat.le_trans hz (by decide), fun r hr => q r _ (fresh_back (e2.trans e3) hr) ((e2.trans e3).trans (Ex.new hr)) upd_same⟩
theorem ev_isP {K : PySem.W.Frag} {D a C : Addr} {d : Option Addr} {te : TE} {σ : L2.St} {H : Hp} {b : Bool} (h : Ev te σ H (.ref a)) (hk : PySem.W.kitOne K (.ref D) (.ref C) = some b) (hd : DOk d H) : Ev (tCB (rIsP K D a d) (tCons te (tCons (tC (.ref C)) tNil))) σ H (.bl b) :=
  ev_cb (ea_cons h (ea_cons ev_c ea_nil)) fun H1 e Q q => ⟨.ref C, .ref C, b, rfl, fun u r => r, hk, hd.ex e, q H1 (Ex.refl _)⟩
abbrev marksOf (j : Nat) : List Bool := (List.range 18).map fun i => decide (j = i)
abbrev spMarks (cs : Nat → Addr) : SpE := fun p vs H Q _ => ∃ (j : Nat) (d : Option Addr), j < 19 ∧ vs = [.ref p.1] ∧ Zc (.ref (cs j)) d p.2 ∧ (∃ vs, p.2.data = .fields vs) ∧ DOk d H ∧
  ∀ l H', H l = none → Ex H H' → H' l = some (.lst ((marksOf j).map V.bl)) → Q (.ref l) H'
section
variable {P : Program} {w : World} {K : PySem.W.Frag} {mg : Str → Option Value} {base : Heap} {cs : Nat → Addr} {fI cda cc : Addr} {f : Addr} {fd : FuncData}
abbrev s_law_marks : Stmt := topS 40
theorem sc_law_marks : FnScope ["e", "marks"] ["e"] (defScope s_law_marks) := ⟨rfl, rfl, rfl, by decide +kernel, rfl, by decide +kernel, by decide +kernel⟩
theorem ok_law_marks (F : Fun K "_law_marks" "_law_marks" s_law_marks f fd) (T : Txt P K mg cs fI cda cc) : FnE P w K mg base 1 f fd ["e"] (spMarks cs) := by
  refine fn_ofE F sc_law_marks (fun p vs H Q E h => ?_) (fun cdv A outer s H vs Q E p hot hr h => ?_)
  · obtain ⟨j, d, _, rfl, _⟩ := h
    rfl
  · obtain ⟨j, d, hj, rfl, hz, hf, hd, q⟩ := h
    refine ⟨_, (pss_cons (ps_set (i := 1) sc_law_marks.nd rfl (Or.inl rfl) (pe_lst (pa_cons ((pe_callB (call_isP (T.is_ j hj) hz hf List.mem_cons_self) (by rfl) T.isinstance (by decide +kernel) (pa_cons (pv 0) (pa_cons (pe_glob (v := .ref (cs 0)) (by rfl) T.g_InvalidBound rfl) pa_nil)))) (pa_cons ((pe_callB (call_isP (T.is_ j hj) hz hf List.mem_cons_self) (by rfl) T.isinstance (by decide +kernel) (pa_cons (pv 0) (pa_cons (pe_glob (v := .ref (cs 1)) (by rfl) T.g_InvalidEnds rfl) pa_nil)))) (pa_cons ((pe_callB (call_isP (T.is_ j hj) hz hf List.mem_cons_self) (by rfl) T.isinstance (by decide +kernel) (pa_cons (pv 0) (pa_cons (pe_glob (v := .ref (cs 2)) (by rfl) T.g_InvalidEvent rfl) pa_nil)))) pa_nil))))) (pss_cons (ps_set (i := 1) sc_law_marks.nd rfl (Or.inl rfl) (pe_op op_cat (pv 1) (pe_lst (pa_cons ((pe_callB (call_isP (T.is_ j hj) hz hf List.mem_cons_self) (by rfl) T.isinstance (by decide +kernel) (pa_cons (pv 0) (pa_cons (pe_glob (v := .ref (cs 3)) (by rfl) T.g_InvalidHistory rfl) pa_nil)))) (pa_cons ((pe_callB (call_isP (T.is_ j hj) hz hf List.mem_cons_self) (by rfl) T.isinstance (by decide +kernel) (pa_cons (pv 0) (pa_cons (pe_glob (v := .ref (cs 4)) (by rfl) T.g_InvalidNumber rfl) pa_nil)))) (pa_cons ((pe_callB (call_isP (T.is_ j hj) hz hf List.mem_cons_self) (by rfl) T.isinstance (by decide +kernel) (pa_cons (pv 0) (pa_cons (pe_glob (v := .ref (cs 5)) (by rfl) T.g_InvalidPair rfl) pa_nil)))) pa_nil)))))) (pss_cons (ps_set (i := 1) sc_law_marks.nd rfl (Or.inl rfl) (pe_op op_cat (pv 1) (pe_lst (pa_cons ((pe_callB (call_isP (T.is_ j hj) hz hf List.mem_cons_self) (by rfl) T.isinstance (by decide +kernel) (pa_cons (pv 0) (pa_cons (pe_glob (v := .ref (cs 6)) (by rfl) T.g_InvalidPlan rfl) pa_nil)))) (pa_cons ((pe_callB (call_isP (T.is_ j hj) hz hf List.mem_cons_self) (by rfl) T.isinstance (by decide +kernel) (pa_cons (pv 0) (pa_cons (pe_glob (v := .ref (cs 7)) (by rfl) T.g_InvalidRun rfl) pa_nil)))) (pa_cons ((pe_callB (call_isP (T.is_ j hj) hz hf List.mem_cons_self) (by rfl) T.isinstance (by decide +kernel) (pa_cons (pv 0) (pa_cons (pe_glob (v := .ref (cs 8)) (by rfl) T.g_InvalidText rfl) pa_nil)))) pa_nil)))))) (pss_cons (ps_set (i := 1) sc_law_marks.nd rfl (Or.inl rfl) (pe_op op_cat (pv 1) (pe_lst (pa_cons ((pe_callB (call_isP (T.is_ j hj) hz hf List.mem_cons_self) (by rfl) T.isinstance (by decide +kernel) (pa_cons (pv 0) (pa_cons (pe_glob (v := .ref (cs 9)) (by rfl) T.g_InvalidTimes rfl) pa_nil)))) (pa_cons ((pe_callB (call_isP (T.is_ j hj) hz hf List.mem_cons_self) (by rfl) T.isinstance (by decide +kernel) (pa_cons (pv 0) (pa_cons (pe_glob (v := .ref (cs 10)) (by rfl) T.g_NotDesign rfl) pa_nil)))) (pa_cons ((pe_callB (call_isP (T.is_ j hj) hz hf List.mem_cons_self) (by rfl) T.isinstance (by decide +kernel) (pa_cons (pv 0) (pa_cons (pe_glob (v := .ref (cs 11)) (by rfl) T.g_NotKept rfl) pa_nil)))) pa_nil)))))) (pss_cons (ps_set (i := 1) sc_law_marks.nd rfl (Or.inl rfl) (pe_op op_cat (pv 1) (pe_lst (pa_cons ((pe_callB (call_isP (T.is_ j hj) hz hf List.mem_cons_self) (by rfl) T.isinstance (by decide +kernel) (pa_cons (pv 0) (pa_cons (pe_glob (v := .ref (cs 12)) (by rfl) T.g_NotSafe rfl) pa_nil)))) (pa_cons ((pe_callB (call_isP (T.is_ j hj) hz hf List.mem_cons_self) (by rfl) T.isinstance (by decide +kernel) (pa_cons (pv 0) (pa_cons (pe_glob (v := .ref (cs 13)) (by rfl) T.g_NothingToUndo rfl) pa_nil)))) (pa_cons ((pe_callB (call_isP (T.is_ j hj) hz hf List.mem_cons_self) (by rfl) T.isinstance (by decide +kernel) (pa_cons (pv 0) (pa_cons (pe_glob (v := .ref (cs 14)) (by rfl) T.g_OtherTasks rfl) pa_nil)))) pa_nil)))))) (pss_cons (ps_set (i := 1) sc_law_marks.nd rfl (Or.inl rfl) (pe_op op_cat (pv 1) (pe_lst (pa_cons ((pe_callB (call_isP (T.is_ j hj) hz hf List.mem_cons_self) (by rfl) T.isinstance (by decide +kernel) (pa_cons (pv 0) (pa_cons (pe_glob (v := .ref (cs 15)) (by rfl) T.g_SameEvent rfl) pa_nil)))) (pa_cons ((pe_callB (call_isP (T.is_ j hj) hz hf List.mem_cons_self) (by rfl) T.isinstance (by decide +kernel) (pa_cons (pv 0) (pa_cons (pe_glob (v := .ref (cs 16)) (by rfl) T.g_Started rfl) pa_nil)))) (pa_cons ((pe_callB (call_isP (T.is_ j hj) hz hf List.mem_cons_self) (by rfl) T.isinstance (by decide +kernel) (pa_cons (pv 0) (pa_cons (pe_glob (v := .ref (cs 17)) (by rfl) T.g_TooLate rfl) pa_nil)))) pa_nil)))))) (pss_one (ps_ret (pv 1))))))))), ?_⟩
    have g : ∀ (i : Nat) (hi : i < 18) (σ : L2.St) (H' : Hp), Ex H H' → σ[0]? = some (some (.ref p.1)) → Ev (tCB (rIsP K (cs j) p.1 d) (tCons (tVar 0) (tCons (tC (.ref (cs i))) tNil))) σ H' (.bl (decide (j = i))) :=
      fun i hi σ H' e hσ => ev_isP (ev_var hσ) (T.kit j i hj hi) (hd.ex e)
    have r3 : ∀ (i : Nat) (hi : i + 2 < 18) (σ : L2.St) (H' : Hp), Ex H H' → σ[0]? = some (some (.ref p.1)) →
        EvL (tLst (tCons (tCB (rIsP K (cs j) p.1 d) (tCons (tVar 0) (tCons (tC (.ref (cs i))) tNil))) (tCons (tCB (rIsP K (cs j) p.1 d) (tCons (tVar 0) (tCons (tC (.ref (cs (i + 1)))) tNil))) (tCons (tCB (rIsP K (cs j) p.1 d) (tCons (tVar 0) (tCons (tC (.ref (cs (i + 2)))) tNil))) tNil)))) σ H'
          [.bl (decide (j = i)), .bl (decide (j = i + 1)), .bl (decide (j = i + 2))] :=
      fun i hi σ H' e hσ => el_lst (ea_cons (g i (by omega) σ H' e hσ) (ea_cons (g (i + 1) (by omega) σ H' e hσ) (ea_cons (g (i + 2) (by omega) σ H' e hσ) ea_nil))) (by show 3 ≤ 100000; decide)
    refine q_asgL (r3 0 (by decide) _ _ (Ex.refl _) rfl) fun p1 H1 f1 e1 h1 => ?_
    refine q_asgL (el_catL (ev_var rfl) h1 (r3 3 (by decide) _ _ e1 rfl) (by show 3 + 3 ≤ 100000; decide)) fun p2 H2 f2 e2 h2 => ?_
    have E2 := e1.trans e2
    refine q_asgL (el_catL (ev_var rfl) h2 (r3 6 (by decide) _ _ E2 rfl) (by show 6 + 3 ≤ 100000; decide)) fun p3 H3 f3 e3 h3 => ?_
    have E3 := E2.trans e3
    refine q_asgL (el_catL (ev_var rfl) h3 (r3 9 (by decide) _ _ E3 rfl) (by show 9 + 3 ≤ 100000; decide)) fun p4 H4 f4 e4 h4 => ?_
    have E4 := E3.trans e4
    refine q_asgL (el_catL (ev_var rfl) h4 (r3 12 (by decide) _ _ E4 rfl) (by show 12 + 3 ≤ 100000; decide)) fun p5 H5 f5 e5 h5 => ?_
    have E5 := E4.trans e5
    refine q_asgL (el_catL (ev_var rfl) h5 (r3 15 (by decide) _ _ E5 rfl) (by show 15 + 3 ≤ 100000; decide)) fun p6 H6 f6 e6 h6 => ?_
    have E6 := E5.trans e6
    refine s_ret (ev_var rfl) fun H7 e7 => q p6 H7 (fresh_back E5 f6) (E6.trans e7) (e7 _ _ h6)
end
end Vf
end
section
set_option Elab.async false
set_option linter.all false
set_option maxRecDepth 100000
set_option maxHeartbeats 4000000
namespace Vf
open PySem PySem.Spec PyProof.Rows L2 Evl Nk
/-! ### in an except suite: _law_marks(e), isinstance(e, T), for the e that it holds -/
abbrev spMk (cs : Nat → Addr) (a : Addr) (cls : Value) (d : Option Addr) : Sp := fun vs H Q _ => ∃ j : Nat, j < 19 ∧ vs = [.ref a] ∧ cls = .ref (cs j) ∧ DOk d H ∧ ∀ l H', H l = none → Ex H H' → H' l = some (.lst ((marksOf j).map V.bl)) → Q (.ref l) H'
section
variable {X : Cx} {cs : Nat → Addr} {a : Addr} {oe : Obj} {cls : Value} {d : Option Addr} {f : Addr} {fd : FuncData} {i k : Nat} {n : Str} {p1 p2 p3 pos : Pos}
theorem pe_marksE (F : FnE X.prog X.w X.K X.mg X.base k f fd ["e"] (spMarks cs)) (hr : L2H.RoomH k X.A) (hz : L2N.Zn cls d oe) (hf : ∃ vs, oe.data = .fields vs) (hh : X.A.handled = some (.ref a)) (hp : (a, oe) ∈ X.pn) (hg : Gl X "_law_marks") (hm : X.mg "_law_marks" = some (.ref f)) (hk : PySem.W.keepIn X.K (.ref f) = true)
    (hb : Binds X.K fd ["e"] []) (hv : PE X (.Name n p2) (tVar i)) : PE X (.Call (.Name "_law_marks" p1) [.Name n p2] [] pos) (tCall (spMk cs a cls d) [] E0 (tCons (tVar i) tNil)) := by
  have hot : L2H.Hot1 X.A (a, oe) := ⟨hh, hf.elim fun vs h => ⟨vs, h, hz.2.2 vs h⟩⟩
  refine ⟨fun pins s σ H Q I h => ?_⟩
  refine (pe_callE F hr hot hp hg hm hk hb (pa_cons hv pa_nil)).run pins s σ H Q I ?_
  obtain ⟨v, hs, j, hj, ev, ec, hd, q⟩ := h
  exact ⟨v, hs, j, d, hj, ev, ⟨hz.1.trans ec, hz.2.1⟩, hf, hd, q⟩
def tIsE (K : PySem.W.Frag) (a : Addr) (cls : Value) (d : Option Addr) (i : Nat) (cv : Value) : TE := fun σ H Q => σ[i]? = some (some (.ref a)) ∧ ∃ D b, cls = .ref D ∧ isC K D = true ∧ PySem.W.kitOne K (.ref D) cv = some b ∧ DOk d H ∧ Q (.bl b) H
theorem pe_isE {K : PySem.W.Frag} (hK : X.K = K) {c : V} {cv : Value} {m : Str} (hz : L2N.Zn cls d oe) (hf : ∃ vs, oe.data = .fields vs) (hp : (a, oe) ∈ X.pn) (hg : Gl X "isinstance") (hm : X.mg "isinstance" = none) (hv : PE X (.Name n p2) (tVar i)) (ht : PE X (.Name m p3) (tC c)) (hc : ∀ u, RelV c u → u = cv) :
    PE X (.Call (.Name "isinstance" p1) [.Name n p2, .Name m p3] [] pos) (tIsE K a cls d i cv) := by
  subst hK
  refine ⟨fun pins s σ H Q I h => ?_⟩
  obtain ⟨hs, D, b, ec, hC, hk, hd, q⟩ := h
  refine (pe_callB (call_isP hC (p := (a, oe)) (d := d) ⟨hz.1.trans ec, hz.2.1⟩ hf hp) hg hm (by decide +kernel) (pa_cons hv (pa_cons ht pa_nil))).run pins s σ H Q I ?_
  exact ⟨_, hs, c, cv, b, rfl, hc, hk, hd, q⟩
end
/-- slot 1 … a call that may raise, as a statement of a try's body -/
theorem s_dropCallS {sp : Sp} {E : L2.St → XK} {ta : TE} {σ : L2.St} {H : Hp} {D : Ends} {v : V} (h : Ev ta σ H v) (k : ∀ H1, Ex H H1 → sp [v] H1 (fun _ H2 => D.nx σ H2) (E σ)) : tDrop (tCallS sp E (tCons ta tNil)) D σ H := h H (Ex.refl _) _ fun H1 e => k H1 e
theorem mt_countBK {X : Cx} {K : PySem.W.Frag} (h : X.K = K) : MtR X "list.count" (rCntB K) := h ▸ mt_countB
theorem ev_countB {K : PySem.W.Frag} {te : TE} {σ : L2.St} {H : Hp} {l : Addr} {bs : List Bool} (h : Ev te σ H (.ref l)) (hl : H l = some (.lst (bs.map V.bl))) : Ev (tBM K "list" (rCntB K) te (tCons (tC (.bl true)) tNil)) σ H (.int (bs.count true : Nat)) := fun H1 e Q q =>
  h H1 e _ fun H2 e2 => ⟨Or.inl ⟨rfl, _, sq_of (e2 _ _ (e _ _ hl))⟩, l, bs, rfl, rfl, sq_of (e2 _ _ (e _ _ hl)), q H2 e2⟩
theorem q_any {te : TE} {tz : TS} {D : Ends} {σ : L2.St} {H : Hp} {i : Nat} (h : te σ H fun x H1 => tz D (σ.set i (some x)) H1) : tSeq (tAsg te (gName i)) tz D σ H := h
theorem ev_ixLi {K : PySem.W.Frag} {σ : L2.St} {H : Hp} {ta tb : TE} {a : Addr} {xs : List V} {i : Int} (j : Nat) {v : V} (h1 : Ev ta σ H (.ref a)) (h2 : Ev tb σ H (.int i)) (hs : SqL K H a xs) (hi : i = (j : Int)) (hv : xs[j]? = some v) : Ev (tOp (rIxL K) ta tb) σ H v := ev_op h1 h2 (rv_ixL hs (at_of hi hv))
theorem marks_len (j : Nat) : (marksOf j).length = 18 := by simp
theorem marks_count (j : Nat) (h : j < 18) : (marksOf j).count true = 1 := by
  have key : ∀ j : Fin 18, (marksOf j.val).count true = 1 := by decide +kernel
  exact key ⟨j, h⟩
theorem marks_none : (marksOf 18).count true = 0 := by decide +kernel
theorem marks_at (j i : Nat) (hi : i < 18) : ((marksOf j).map V.bl)[i]? = some (.bl (decide (j = i))) := by
  simp [hi]
section
variable {P : Program} {w : World} {K : PySem.W.Frag} {mg : Str → Option Value} {base : Heap} {cs : Nat → Addr} {fI cda cc : Addr} {f : Addr} {fd : FuncData}
abbrev s_law_way_right : Stmt := topS 41
theorem sc_law_way_right : FnScope ["way", "many", "marks", "under", "e"] ["way", "many"] (defScope s_law_way_right) := ⟨rfl, rfl, rfl, by decide +kernel, rfl, by decide +kernel, by decide +kernel⟩
theorem ok_law_way_right (F : Fun K "_law_way_right" "_law_way_right" s_law_way_right f fd) (T : Txt P K mg cs fI cda cc) {fO fM : Addr} {dO dM : FuncData} (G : FnOk P w K mg base (L2N.CX P w) 2 fO dO ["way"] (spRaise cs 0)) (gO : mg "_law_raised_one" = some (.ref fO)) (kO : PySem.W.keepIn K (.ref fO) = true) (bO : Binds K dO ["way"] [])
    (FM : FnE P w K mg base 1 fM dM ["e"] (spMarks cs)) (gM : mg "_law_marks" = some (.ref fM)) (kM : PySem.W.keepIn K (.ref fM) = true) (bM : Binds K dM ["e"] []) :
    FnOk P w K mg base CX0 3 f fd ["way", "many"] (fun vs H Q _ => ∃ i : Nat, i < 18 ∧ vs = [.int (i : Int), .int 18] ∧ RetV (.bl true) H Q) := by
  refine F.ok sc_law_way_right (fun vs H Q E h => ?_) (fun cdv A outer s H vs Q E hr h => ?_)
  · obtain ⟨i, _, rfl, _⟩ := h
    rfl
  · obtain ⟨i, hi, rfl, q⟩ := h
    refine ⟨_, (pss_cons (ps_par (i := 2) (j := 3) rfl sc_law_way_right.nd rfl rfl (by decide) rfl rfl (pa_cons (pe_lst pa_nil) (pa_cons pe_bl pa_nil)) (by rfl)) (pss_cons (L2N.ps_try_as (i := 4) (Wout := fun _ _ _ _ => False) rfl rfl sc_law_way_right.nd rfl rfl ⟨rfl, by decide, .inl T.g_PlanError⟩ takesN0 (fun W pn xe tk _ => (pss_one (ps_expr ((pe_callS G (by first | exact hr | exact hr.mono (by decide)) (by rfl) gO kO bO (fun σ => L2N.passAt tk σ) (pa_cons (pv 0) pa_nil)))))) (fun a oe cls d pn hz hf => (pss_cons (ps_set (i := 2) sc_law_way_right.nd rfl (Or.inl rfl) ((pe_marksE FM ⟨(hr.mono (show 1 ≤ 2 by decide)).dp, (hr.mono (show 1 ≤ 2 by decide)).un⟩ hz hf rfl List.mem_cons_self (by rfl) gM kM bM (pv 4)))) (pss_one (ps_set (i := 3) sc_law_way_right.nd rfl (Or.inl rfl) ((by exact (pe_isE (cv := .type "ValueError") (K := K) rfl hz hf List.mem_cons_self (by rfl) T.isinstance (pv 4) (pe_bltn (v := .ty "ValueError") (u := .type "ValueError") (by rfl) T.ValueError (by decide +kernel) rfl) (fun u r => r))))))))) (pss_one (ps_ret (pe_and (pv 3) (pe_and (pe_cmpR op_eq ((pe_bm PySem.F.plainAttrs_list PySem.F.slot_list_count PySem.F.type_list_count (mt_countBK (K := K) rfl) (pv 2) (pa_cons pe_bl pa_nil))) pe_int (nomark _)) (pe_and (pe_cmpR op_eq (pe_callB (call_len_seqK (K := K) rfl) (by rfl) T.len (by decide +kernel) (pa_cons (pv 2) pa_nil)) (pv 1) (nomark _)) (pe_one (pe_ix (ix_listK (K := K) rfl) (pv 2) (pv 0) (fun _ _ => rfl)))))))))), ?_⟩
    refine ⟨by show 0 ≤ sizeLine; decide, fun l0 hl0 => ⟨_, _, rfl, ?_⟩⟩
    refine s_dropCallS (ev_var rfl) fun H2 e2 => ⟨i, Nat.zero_le _, hi, rfl, fun d H3 e3 hd => ⟨true, T.pe i (by omega), fun _ a ha => ?_, fun z => nomatch z⟩⟩
    have e03 : Ex H H3 := (Ex.new hl0).trans (e2.trans e3)
    refine q_any ⟨_, rfl, i, by omega, rfl, rfl, hd, fun l H4 hl e4 h4 => ?_⟩
    refine ⟨rfl, cs i, true, rfl, T.is_ i (by omega), T.ve i (by omega), hd.ex e4, ?_⟩
    have hat := marks_at i i hi
    rw [decide_eq_true rfl] at hat
    have hlen : ((marksOf i).map V.bl).length = 18 := by simp
    dsimp only [gName]
    refine s_ret (v := .bl true) (ev_is (ev_andV (a := true) (ev_var rfl) fun _ => ev_andV (a := true) (ev_is (ev_op (ev_countB (ev_var rfl) h4) ev_c (rv_eq rfl)) ?_) fun _ => ev_andV (a := true) (ev_is (ev_op (ev_len (ev_var rfl) (sq_of h4)) (ev_var rfl) (rv_eq rfl)) ?_) fun _ => ev_ixLi i (ev_var rfl) (ev_var rfl) (sq_of h4) rfl hat) rfl) fun H5 e5 => q _ (e03.trans (e4.trans e5))
    · rw [marks_count i hi]
      rfl
    · rw [hlen]
      rfl
end
end Vf
end
section
set_option Elab.async false
set_option linter.all false
set_option maxRecDepth 100000
set_option maxHeartbeats 4000000
namespace Vf
open PySem PySem.Spec PyProof.Rows L2 Evl Nk
/-! ### ours(()): the first error -/
theorem s_dropCallD {K : PySem.W.Frag} {sp : Sp} {E : XK} {ta : TE} {σ : L2.St} {H : Hp} {D : Ends} {d : PyData} (h : EvD K ta σ H d) (k : ∀ v H1, Ex H H1 → Dp K H1 v d → sp [v] H1 (fun _ H2 => D.nx σ H2) E) : tDrop (tCall sp [] E (tCons ta tNil)) D σ H := h H (Ex.refl _) _ fun v H1 e hd => k v H1 e hd
theorem s_dropCallSD {K : PySem.W.Frag} {sp : Sp} {E : L2.St → XK} {ta : TE} {σ : L2.St} {H : Hp} {D : Ends} {d : PyData} (h : EvD K ta σ H d) (k : ∀ v H1, Ex H H1 → Dp K H1 v d → sp [v] H1 (fun _ H2 => D.nx σ H2) (E σ)) : tDrop (tCallS sp E (tCons ta tNil)) D σ H := h H (Ex.refl _) _ fun v H1 e hd => k v H1 e hd
abbrev spP0 (K : PySem.W.Frag) : Sp := fun vs H Q _ => ∃ v, vs = [v] ∧ Dp K H v (.tuple []) ∧ RetV (.bl false) H Q
abbrev spR0 (K : PySem.W.Frag) (cs : Nat → Addr) : Sp := fun vs H _ E => ∃ v, vs = [v] ∧ Dp K H v (.tuple []) ∧ ∀ H', Ex H H' → E (.ref (cs 6)) none H'
section
variable {P : Program} {w : World} {K : PySem.W.Frag} {mg : Str → Option Value} {base : Heap} {cs : Nat → Addr} {fI cda cc : Addr} {f : Addr} {fd : FuncData}
abbrev s_is_plan : Stmt := topS 34
theorem sc_is_plan : FnScope ["value", "latest", "events", "bounds", "tasks", "event", "known"] ["value"] (defScope s_is_plan) := ⟨rfl, rfl, rfl, by decide +kernel, rfl, by decide +kernel, by decide +kernel⟩
theorem ok_is_plan0 (F : Fun K "is_plan" "is_plan" s_is_plan f fd) (T : Txt P K mg cs fI cda cc) : FnOk P w K mg base CX0 1 f fd ["value"] (spP0 K) := by
  refine F.ok sc_is_plan (fun vs H Q E h => ?_) (fun cdv A outer s H vs Q E hr h => ?_)
  · obtain ⟨v, rfl, _⟩ := h
    rfl
  · obtain ⟨v, rfl, hd, q⟩ := h
    refine ⟨_, (pss_cons (ps_if (PW.pt (pw_or (pt_not (pt_val (pe_callB (call_isiK' (K := K) rfl) (by rfl) T.isinstance (by decide +kernel) (pa_cons (pv 0) (pa_cons (pe_bltn (v := .ty "tuple") (u := .type "tuple") (by rfl) T.tuple (by decide +kernel) rfl) pa_nil))))) (pw_or1 (pt_cmpR op_ne (pe_callB (call_len_seqK (K := K) rfl) (by rfl) T.len (by decide +kernel) (pa_cons (pv 0) pa_nil)) pe_int (nomark _))))) (pss_one (ps_ret pe_bl)) pss_nil) (pss_cons ps_never (pss_cons ps_never (pss_cons ps_never (pss_one ps_never))))), ?_⟩
    exact q_when (et_tupN (n := 4) rfl (ev_var rfl) hd) (fun hb H1 e1 => s_ret ev_c fun H2 e2 => q H2 (e1.trans e2)) (fun hb => nomatch hb)
abbrev s_require_plan : Stmt := topS 35
theorem sc_require_plan : FnScope ["plan"] ["plan"] (defScope s_require_plan) := ⟨rfl, rfl, rfl, by decide +kernel, rfl, by decide +kernel, by decide +kernel⟩
theorem ok_require_plan0 (F : Fun K "require_plan" "require_plan" s_require_plan f fd) (T : Txt P K mg cs fI cda cc) (C_is_plan : Cal P w K mg base 1 "is_plan" ["value"] (spP0 K)) : FnOk P w K mg base (L2N.CX P w) 2 f fd ["plan"] (spR0 K cs) := by
  refine okN F sc_require_plan (fun vs H Q E h => ?_) (fun cdv A outer s H vs Q E hr h => ?_)
  · obtain ⟨v, rfl, _⟩ := h
    rfl
  · obtain ⟨v, rfl, hd, q⟩ := h
    refine ⟨_, (pss_one (ps_if (pt_not (pt_val (pe_cal C_is_plan (by first | exact hr | exact hr.mono (by decide)) (by rfl) (pa_cons (pv 0) pa_nil)))) (pss_one (L2N.ps_raise rfl (L2N.takes_of rfl rfl rfl rfl) (pmk_cls T 6 T.g_InvalidPlan (by rfl)))) pss_nil)), ?_⟩
    have g : Ev (tCall (spP0 K) [] E0 (tCons (tVar 0) tNil)) (L2.start ["plan"] [v]) H (.bl false) := fun H1 e Q2 q2 => ⟨v, rfl, v, rfl, dp_ex e hd, fun H2 e2 => q2 H2 e2⟩
    exact s_when (b := true) (et_is (et_not (et_B g)) rfl) (fun _ H1 e1 => q H1 e1) (fun hb => nomatch hb)
abbrev s_ours : Stmt := topS 36
theorem sc_ours : FnScope ["plan", "task", "ends", "event"] ["plan"] (defScope s_ours) := ⟨rfl, rfl, rfl, by decide +kernel, rfl, by decide +kernel, by decide +kernel⟩
theorem ok_ours0 (F : Fun K "ours" "ours" s_ours f fd) (T : Txt P K mg cs fI cda cc) {fR : Addr} {dR : FuncData} (G : FnOk P w K mg base (L2N.CX P w) 2 fR dR ["plan"] (spR0 K cs)) (gR : mg "require_plan" = some (.ref fR)) (kR : PySem.W.keepIn K (.ref fR) = true) (bR : Binds K dR ["plan"] []) :
    FnOk P w K mg base (L2N.CX P w) 3 f fd ["plan"] (spR0 K cs) := by
  refine okN F sc_ours (fun vs H Q E h => ?_) (fun cdv A outer s H vs Q E hr h => ?_)
  · obtain ⟨v, rfl, _⟩ := h
    rfl
  · obtain ⟨v, rfl, hd, q⟩ := h
    refine ⟨_, (pss_cons (ps_expr ((pe_call G (by first | exact hr | exact hr.mono (by decide)) (by rfl) gR kR bR .nil (L2N.passes_call (L2N.takes_of rfl rfl rfl rfl) (fun _ _ _ _ h => h)) (E := E) (pa_cons (pv 0) pa_nil)))) (pss_cons ps_never (pss_one ps_never))), ?_⟩
    exact s_dropCallD (ed_of (ev_var rfl) hd) fun v2 H1 e1 hd1 => ⟨v2, rfl, hd1, fun H2 e2 => q H2 (e1.trans e2)⟩
end
end Vf
end
section
set_option Elab.async false
set_option linter.all false
set_option maxRecDepth 100000
set_option maxHeartbeats 4000000
namespace Vf
open PySem PySem.Spec PyProof.Rows L2 Evl Nk
/-! ### _law_kept_right -/
theorem ev_xf {σ : L2.St} {H : Hp} {a C dd : Addr} {i : Nat} {f : Str} {fs : List (Str × V)} {v : V} (hs : σ[i]? = some (some (.ref a))) (hd : H dd = some (.xd fs)) (hl : fs.lookup f = some v) : Ev (tXf a (.ref C) (some dd) C f (tVar i)) σ H v :=
  fun H1 e Q q => ⟨_, hs, rfl, rfl, dd, fs, v, rfl, e _ _ hd, hl, q H1 (Ex.refl _)⟩
theorem look_one (f : Str) (v : V) : List.lookup f [(f, v)] = some v := by simp [List.lookup]
theorem pe_app {X : Cx} {K : PySem.W.Frag} (hK : X.K = K) {x y n : Str} {te : TE} {i : Nat} {apos cpos p2 p3 p4 : Pos} (ho : PE X (.Name x p2) (tVar i)) (he : PE X (.Attribute (.Name y p3) n p4) te)
    (hline : (apos.endLine == cpos.line) = true := by rfl) : PE X (.Call (.Attribute (.Name x p2) "append" apos) [.Attribute (.Name y p3) n p4] [] cpos) (tBM K "list" rAppend (tVar i) (tCons te tNil)) := by
  subst hK
  exact pe_bm PySem.F.plainAttrs_list PySem.F.slot_list_append PySem.F.type_list_append mt_append ho (pa_cons he pa_nil) (hline := hline)
abbrev keptD : PyData := .list [.tuple [.list [], .list [.int 3]], .none]
section
variable {P : Program} {w : World} {K : PySem.W.Frag} {mg : Str → Option Value} {base : Heap} {cs : Nat → Addr} {fI cda cc : Addr} {f : Addr} {fd : FuncData}
abbrev s_law_kept_right : Stmt := topS 42
theorem sc_law_kept_right : FnScope ["kept", "marks", "kinds_here", "e"] [] (defScope s_law_kept_right) := ⟨rfl, rfl, rfl, by decide +kernel, rfl, by decide +kernel, by decide +kernel⟩
theorem ok_law_kept_right (F : Fun K "_law_kept_right" "_law_kept_right" s_law_kept_right f fd) (T : Txt P K mg cs fI cda cc) {fU fM : Addr} {dU dM : FuncData} (GU : FnOk P w K mg base (L2N.CX P w) 3 fU dU ["plan"] (spR0 K cs)) (gU : mg "ours" = some (.ref fU)) (kU : PySem.W.keepIn K (.ref fU) = true) (bU : Binds K dU ["plan"] [])
    (FM : FnE P w K mg base 1 fM dM ["e"] (spMarks cs)) (gM : mg "_law_marks" = some (.ref fM)) (kM : PySem.W.keepIn K (.ref fM) = true) (bM : Binds K dM ["e"] []) :
    FnOk P w K mg base CX0 4 f fd [] (fun vs H Q _ => vs = [] ∧ RetV (.bl true) H Q) := by
  refine F.ok sc_law_kept_right (fun vs H Q E h => ?_) (fun cdv A outer s H vs Q E hr h => ?_)
  · obtain ⟨rfl, _⟩ := h
    rfl
  · obtain ⟨rfl, q⟩ := h
    refine ⟨_, (pss_cons (ps_par3 (i := 0) (j := 1) (l := 2) rfl sc_law_kept_right.nd rfl rfl rfl (by decide) (by decide) (by decide) rfl rfl rfl (pa_cons (pe_lst pa_nil) (pa_cons (pe_lst (pa_cons pe_bl pa_nil)) (pa_cons (pe_lst pa_nil) pa_nil))) (by rfl)) (pss_cons (L2N.ps_try_as (i := 3) (Wout := fun _ _ _ _ => False) rfl rfl sc_law_kept_right.nd rfl rfl ⟨rfl, by decide, .inl T.g_NotKept⟩ takesN0 (fun W pn xe tk _ => (pss_one (L2N.ps_raise rfl tk (pmk_nkK T.nk hr (pk_cons (pe_tup (pa_cons (pe_lst pa_nil) (pa_cons (pe_lst (pa_cons pe_int pa_nil)) pa_nil))) pk_nil))))) (fun a oe cls d pn hz hf => (pss_one (ps_expr ((pe_app (K := K) rfl (pv 0) (pe_xf (xfB_ok T.xf) T.nk.noF hz.zc hf (pv 3)))))))) (pss_cons (L2N.ps_try_as (i := 3) (Wout := fun _ _ _ _ => False) rfl rfl sc_law_kept_right.nd rfl rfl ⟨rfl, by decide, .inl T.g_NotKept⟩ takesN0 (fun W pn xe tk _ => (pss_one (L2N.ps_raise rfl tk (pmk_nk T.nk hr (pa_cons pe_non pa_nil))))) (fun a oe cls d pn hz hf => (pss_one (ps_expr ((pe_app (K := K) rfl (pv 0) (pe_xf (xfB_ok T.xf) T.nk.noF hz.zc hf (pv 3)))))))) (pss_cons (L2N.ps_try_as (i := 3) (Wout := fun _ _ _ _ => False) rfl rfl sc_law_kept_right.nd rfl rfl ⟨rfl, by decide, .inl T.g_PlanError⟩ takesN0 (fun W pn xe tk _ => (pss_one (L2N.ps_raise rfl tk (pmk_cls T 18 T.g_PlanError (by rfl))))) (fun a oe cls d pn hz hf => (pss_one (ps_set (i := 1) sc_law_kept_right.nd rfl (Or.inl rfl) ((pe_marksE FM ⟨(hr.mono (show 1 ≤ 3 by decide)).dp, (hr.mono (show 1 ≤ 3 by decide)).un⟩ hz hf rfl List.mem_cons_self (by rfl) gM kM bM (pv 3))))))) (pss_cons (L2N.ps_try_as (i := 3) (Wout := fun _ _ _ _ => False) rfl rfl sc_law_kept_right.nd rfl rfl ⟨rfl, by decide, .inl T.g_PlanError⟩ takesN0 (fun W pn xe tk _ => (pss_one (ps_expr ((pe_callS GU hr (by rfl) gU kU bU (fun σ => L2N.passAt tk σ) (pa_cons (pe_tup pa_nil) pa_nil)))))) (fun a oe cls d pn hz hf => (pss_one (ps_set (i := 2) sc_law_kept_right.nd rfl (Or.inl rfl) ((pe_marksE FM ⟨(hr.mono (show 1 ≤ 3 by decide)).dp, (hr.mono (show 1 ≤ 3 by decide)).un⟩ hz hf rfl List.mem_cons_self (by rfl) gM kM bM (pv 3))))))) (pss_cons (ps_if (PW.pt (pw_or (pt_cmpR (op_neDK (K := K) rfl (hu64 hr)) (pv 0) (pe_lst (pa_cons (pe_tup (pa_cons (pe_lst pa_nil) (pa_cons (pe_lst (pa_cons pe_int pa_nil)) pa_nil))) (pa_cons pe_non pa_nil))) (nomark _)) (pw_or1 (pt_cmpR (op_in_seqK (K := K) rfl) pe_bl (pv 1) (by rfl))))) (pss_one (ps_ret pe_bl)) pss_nil) (pss_one (ps_ret (pe_and (pe_cmpR op_eq ((pe_bm PySem.F.plainAttrs_list PySem.F.slot_list_count PySem.F.type_list_count (mt_countBK (K := K) rfl) (pv 2) (pa_cons pe_bl pa_nil))) pe_int (nomark _)) (pe_one (pe_ix (ix_listK (K := K) rfl) (pv 2) pe_int (fun _ _ => rfl)))))))))))), ?_⟩
    refine ⟨by show 0 ≤ sizeLine; decide, fun l0 hl0 => ⟨by show 1 ≤ sizeLine; decide, fun l1 hl1 => ⟨by show 0 ≤ sizeLine; decide, fun l2 hl2 => ⟨_, _, _, rfl, ?_⟩⟩⟩⟩
    have x3 : Ex (upd H l0 (.lst [])) (upd (upd (upd H l0 (.lst [])) l1 (.lst [.bl true])) l2 (.lst [])) := (Ex.new hl1).trans (Ex.new hl2)
    have a0 := x3 _ _ upd_same
    have e0 : Ex H (upd (upd (upd H l0 (.lst [])) l1 (.lst [.bl true])) l2 (.lst [])) := (Ex.new hl0).trans x3
    generalize (upd (upd (upd H l0 (.lst [])) l1 (.lst [.bl true])) l2 (.lst [])) = H3 at a0 e0 ⊢
    -- raise NotKept(reason=([], [3]))
    refine ⟨by show 0 ≤ sizeLine; decide, fun la hla => ⟨by show 1 ≤ sizeLine; decide, fun lb hlb => ⟨by show 2 ≤ sizeLine; decide, fun lt hlt => ⟨.ref lt, rfl, fun dd hdd => ⟨true, T.nn, fun _ a ha => ?_, fun z => nomatch z⟩⟩⟩⟩⟩
    have na := ne_of_none a0 hla
    have x4 : Ex H3 (upd H3 la (.lst [])) := Ex.new hla
    have nb := ne_of_none (x4 _ _ a0) hlb
    have x5 := Ex.new (o := .lst [.int 3]) hlb
    have nt := ne_of_none (x5 _ _ (x4 _ _ a0)) hlt
    have x6 := Ex.new (o := .tup [.ref la, .ref lb]) hlt
    have x7 := Ex.new (o := .xd [(("reason" : Str), V.ref lt)]) hdd
    have b0 := x7 _ _ (x6 _ _ (x5 _ _ (x4 _ _ a0)))
    have b1 := x7 _ _ (x6 _ _ (x5 _ _ upd_same))
    have b2 := x7 _ _ (x6 _ _ upd_same)
    have b3 := x7 _ _ upd_same
    have b4 : (upd (upd (upd (upd H3 la (.lst [])) lb (.lst [.int 3])) lt (.tup [.ref la, .ref lb])) dd (.xd [(("reason" : Str), V.ref lt)])) dd = some (.xd [(("reason" : Str), V.ref lt)]) := upd_same
    have e7 : Ex H (upd (upd (upd (upd H3 la (.lst [])) lb (.lst [.int 3])) lt (.tup [.ref la, .ref lb])) dd (.xd [(("reason" : Str), V.ref lt)])) := e0.trans (x4.trans (x5.trans (x6.trans x7)))
    generalize (upd (upd (upd (upd H3 la (.lst [])) lb (.lst [.int 3])) lt (.tup [.ref la, .ref lb])) dd (.xd [(("reason" : Str), V.ref lt)])) = H7 at b0 b1 b2 b3 b4 e7 ⊢
    refine s_app b0 (ev_var rfl) (ev_xf rfl b4 (look_one _ _)) (by show 0 < 100000; decide) fun H8 e8 => ?_
    dsimp only [List.nil_append]
    have c0 : (upd H8 l0 (.lst [.ref lt])) l0 = some (.lst [.ref lt]) := upd_same
    have c1 := (upd_ne (o := .lst [.ref lt]) na.symm).trans (e8 _ _ b1)
    have c2 := (upd_ne (o := .lst [.ref lt]) nb.symm).trans (e8 _ _ b2)
    have c3 := (upd_ne (o := .lst [.ref lt]) nt.symm).trans (e8 _ _ b3)
    have e9 : Ex H (upd H8 l0 (.lst [.ref lt])) := Ex.mut (e7.trans e8) hl0
    generalize (upd H8 l0 (.lst [.ref lt])) = H9 at c0 c1 c2 c3 e9 ⊢
    -- raise NotKept(None)
    refine ⟨.non, rfl, fun dd2 hdd2 => ⟨true, T.nn, fun _ a2 ha2 => ?_, fun z => nomatch z⟩⟩
    have x10 := Ex.new (o := .xd [(("reason" : Str), V.non)]) hdd2
    refine s_app (x10 _ _ c0) (ev_var rfl) (ev_xf rfl upd_same (look_one _ _)) (by show 1 < 100000; decide) fun H10 e10 => ?_
    dsimp only [List.cons_append, List.nil_append]
    have d0 : (upd H10 l0 (.lst [.ref lt, .non])) l0 = some (.lst [.ref lt, .non]) := upd_same
    have d1 := (upd_ne (o := .lst [.ref lt, .non]) na.symm).trans (e10 _ _ (x10 _ _ c1))
    have d2 := (upd_ne (o := .lst [.ref lt, .non]) nb.symm).trans (e10 _ _ (x10 _ _ c2))
    have d3 := (upd_ne (o := .lst [.ref lt, .non]) nt.symm).trans (e10 _ _ (x10 _ _ c3))
    have e11 : Ex H (upd H10 l0 (.lst [.ref lt, .non])) := Ex.mut (e9.trans (x10.trans e10)) hl0
    generalize (upd H10 l0 (.lst [.ref lt, .non])) = H11 at d0 d1 d2 d3 e11 ⊢
    -- raise PlanError()
    refine ⟨true, T.pe 18 (by decide), fun _ a3 ha3 => ?_, fun z => nomatch z⟩
    refine ⟨_, rfl, 18, by decide, rfl, rfl, .inl rfl, fun m1 H12 hm1 e12 h12 => ?_⟩
    dsimp only [gName]
    -- ours(())
    refine s_dropCallSD (K := K) (ed_tup eds_nil (by decide)) fun v H13 e13 hv => ⟨v, rfl, hv, fun H14 e14 => ⟨true, T.pe 6 (by decide), fun _ a4 ha4 => ?_, fun z => nomatch z⟩⟩
    refine ⟨_, rfl, 6, by decide, rfl, rfl, .inl rfl, fun m2 H15 hm2 e15 h15 => ?_⟩
    dsimp only [gName]
    have x15 : Ex H12 H15 := e13.trans (e14.trans e15)
    have x115 : Ex H11 H15 := e12.trans x15
    have hK : Dp K H15 (.ref l0) keptD := .lst (sq_of (x115 _ _ d0)) (.cons (.tup (st_of (x115 _ _ d3)) (.cons (.lst (sq_of (x115 _ _ d1)) .nil) (.cons (.lst (sq_of (x115 _ _ d2)) (.cons (.int 3) .nil)) .nil))) (.cons .non .nil))
    have gL : ∀ (σ : L2.St) (H' : Hp), EvD K (tLst (tCons (tTup (tCons (tLst tNil) (tCons (tLst (tCons (tC (.int 3)) tNil)) tNil))) (tCons (tC .non) tNil))) σ H' keptD := fun σ H' =>
      ed_n (en_lst (eds_cons (ed_tup (eds_cons (ed_n (en_lst eds_nil (by decide))) (eds_cons (ed_n (en_lst (eds_cons (ed_of ev_c (.int 3)) eds_nil) (by decide))) eds_nil)) (by decide)) (eds_cons (ed_of ev_c .non) eds_nil)) (by decide))
    refine q_when (b := false) (et_is (et_or (a := false) (et_test (ev_is (ev_opD (ed_of (ev_var rfl) hK) (gL _ _) (rd_neD (by decide +kernel) (by decide +kernel))) (show _ = V.bl false by decide +kernel))) fun _ => et_test (ev_is (ev_op ev_c (ev_var rfl) (rv_isL (sq_of (x15 _ _ h12)) rfl (by decide +kernel))) (show _ = V.bl false by decide +kernel))) rfl) (fun h => nomatch h) fun _ H16 e16 => ?_
    have hat := marks_at 6 6 (by decide)
    refine s_ret (v := .bl true) (ev_is (ev_andV (a := true) (ev_is (ev_op (ev_countB (ev_var rfl) (e16 _ _ h15)) ev_c (rv_eq rfl)) (by rw [marks_count 6 (by decide)]; rfl)) fun _ => ev_ixLi 6 (ev_var rfl) ev_c (sq_of (e16 _ _ h15)) rfl hat) rfl) fun H17 e17 => q _ (e11.trans (x115.trans (e16.trans e17)))
end
end Vf
end
section
set_option Elab.async false
set_option linter.all false
set_option maxRecDepth 100000
set_option maxHeartbeats 8000000
namespace Vf
open PySem PySem.Spec PyProof.Rows L2 Evl Nk
/-! ### law -/
theorem shaped_ints (ns : List Int) : SeqAt.shaped (.list (ns.map PyData.int)) = true := by
  have h1 : ∀ ns : List Int, PyData.canLayAll0 (ns.map PyData.int) = true ∧ PyData.depthAll (ns.map PyData.int) ≤ 1 := by
    intro ns
    induction ns with
    | nil => exact ⟨rfl, by decide⟩
    | cons n r ih =>
      obtain ⟨i1, i2⟩ := ih
      rw [List.map_cons]
      refine ⟨?_, ?_⟩
      · rw [PyData.canLayAll0, i1, PyData.canLay0]
        rfl
      · rw [PyData.depthAll, PyData.depth]
        omega
  obtain ⟨g1, g2⟩ := h1 ns
  unfold SeqAt.shaped
  rw [PyData.canLay0, g1, PyData.depth, Bool.true_and]
  exact decide_eq_true (by omega)
theorem dpa_ints {K : PySem.W.Frag} {H : Hp} : ∀ ns : List Int, DpAll K H (ns.map V.int) (ns.map PyData.int)
  | [] => .nil
  | n :: r => .cons (.int n) (dpa_ints r)
theorem ev_neNilI {K : PySem.W.Frag} {σ : L2.St} {H : Hp} {ta : TE} {l : Addr} {ns : List Int} (ha : Ev ta σ H (.ref l)) (hl : SqL K H l (ns.map V.int)) : Ev (tOp (rNeD K) ta (tLst tNil)) σ H (.bl (!decide (ns = []))) := by
  have h := ev_opD (ed_of ha (Dp.lst (K := K) hl (dpa_ints ns))) (ed_n (en_lst (K := K) (σ := σ) (H := H) eds_nil (by decide))) (rd_neD (K := K) (H := H) (shaped_ints ns) (d' := .list []) rfl)
  have e : PyData.eqv (.list (ns.map .int)) (.list []) = decide (ns = []) := by
    cases ns with
    | nil => rfl
    | cons n r =>
      rw [PyData.eqv, List.map_cons]
      simp [PyData.eqvAll]
  rw [e] at h
  exact h
theorem ev_mod18 {σ : L2.St} {H : Hp} {ta tb : TE} {i j : Int} (h1 : Ev ta σ H (.int i)) (h2 : Ev tb σ H (.int j)) (hj : 0 < j) : Ev (tOp (rI (fun _ j => 0 < j) fun i j => .int (i % j)) ta tb) σ H (.int (i % j)) := ev_op h1 h2 (rv_I hj)
theorem ev_intC {σ : L2.St} {H : Hp} {ta : TE} {i : Int} (h : Ev ta σ H (.int i)) : Ev (tCB (fun xs H Q => (∃ i, xs = [.int i] ∧ Q (.int i) H) ∨ ∃ k, xs = [.bl k] ∧ Q (.int (if k then 1 else 0)) H) (tCons ta tNil)) σ H (.int i) :=
  ev_cb (ea_cons h ea_nil) fun H1 _ Q q => .inl ⟨i, rfl, q H1 (Ex.refl _)⟩
theorem given_none (n : Nat) (w : Nat → PyData) : givenD n (fun _ => false) w = [] := by
  unfold givenD
  rw [List.filter_eq_nil_iff.mpr (fun _ _ => by decide)]
  rfl
abbrev spWay : Sp := fun vs H Q _ => ∃ i : Nat, i < 18 ∧ vs = [.int (i : Int), .int 18] ∧ RetV (.bl true) H Q
abbrev spLaw (K : PySem.W.Frag) : Sp := fun vs H Q _ => ∃ (a : Addr) (ns : List Int), vs = [.ref a] ∧ SqL K H a (ns.map V.int) ∧ ns.length ≤ 63 ∧ ∀ H', Q (.bl true) H'
section
variable {P : Program} {w : World} {K : PySem.W.Frag} {mg : Str → Option Value} {base : Heap} {cs : Nat → Addr} {fI cda cc : Addr} {f : Addr} {fd : FuncData}
abbrev s_law : Stmt := topS 43
theorem sc_law : FnScope ["script", "many", "spot", "way"] ["script"] (defScope s_law) := ⟨rfl, rfl, rfl, by decide +kernel, rfl, by decide +kernel, by decide +kernel⟩
theorem ok_law (F : Fun K "law" "law" s_law f fd) (T : Txt P K mg cs fI cda cc) (C_law_way_right : Cal P w K mg base 3 "_law_way_right" ["way", "many"] spWay) {fK : Addr} {dK : FuncData} (GK : FnOk P w K mg base CX0 4 fK dK [] (fun vs H Q _ => vs = [] ∧ RetV (.bl true) H Q))
    (gK : mg "_law_kept_right" = some (.ref fK)) (kK : PySem.W.keepIn K (.ref fK) = true) (bK : Binds K dK [] []) : FnOk P w K mg base CX0 5 f fd ["script"] (spLaw K) := by
  refine F.ok sc_law (fun vs H Q E h => ?_) (fun cdv A outer s H vs Q E hr h => ?_)
  · obtain ⟨a, ns, rfl, _⟩ := h
    rfl
  · obtain ⟨a, ns, rfl, hS, hlen, q⟩ := h
    refine ⟨_, (pss_cons (ps_set (i := 1) sc_law.nd rfl (Or.inr rfl) pe_int) (pss_cons (ps_set (i := 2) sc_law.nd rfl (Or.inl rfl) (pe_ifExp (pt_cmpR (op_neDK (K := K) rfl (hu64 hr)) (pv 0) (pe_lst pa_nil) (nomark _)) (pe_op op_mod (pe_callTy call_int1 (by rfl) T.int (by decide +kernel) (pa_cons (pe_ix (ix_listK (K := K) rfl) (pv 0) pe_int (fun _ _ => rfl)) pa_nil)) (pv 1)) pe_int)) (pss_cons (ps_if (PW.pt (pw_or (pt_not (pt_val (pe_cal C_law_way_right (by first | exact hr | exact hr.mono (by decide)) (by rfl) (pa_cons (pv 2) (pa_cons (pv 1) pa_nil))))) (pw_or1 (pt_not (pt_val ((pe_call0 GK (by first | exact hr | exact hr.mono (by decide)) (by rfl) gK kK bK .nil pass0))))))) (pss_one (ps_ret pe_bl)) pss_nil) (pss_one (ps_ret (pe_cmpR (op_eqDK (K := K) rfl (hu64 hr)) (pe_lc (own := [("way", 3)]) rfl sc_law.nd (pi_range1 rfl T.range (pa_cons (pv 1) pa_nil)) (blkOk_by (own := [("way", 3)]) (N := ["script", "many", "spot", "way"]) (sc := defScope s_law) (by decide +kernel)) (fun _ _ _ _ _ => (pg_name (i := 3) sc_law.nd rfl (Or.inl rfl))) (fun _ _ _ _ _ => (pts_one (pt_not (pt_val (pe_cal C_law_way_right (by first | exact hr | exact hr.mono (by decide)) (by rfl) (pa_cons (pv 3) (pa_cons (pv 1) pa_nil))))))) (fun _ _ _ _ _ => (pv 3))) (pe_lst pa_nil) (nomark _))))))), ?_⟩
    obtain ⟨i, hi, h2⟩ : ∃ i : Nat, i < 18 ∧ (∀ n r, ns = n :: r → n % 18 = (i : Int)) ∧ (ns = [] → i = 0) := by
      cases ns with
      | nil => exact ⟨0, by decide, ⟨fun n r h => (by cases h), fun _ => rfl⟩⟩
      | cons n r =>
        refine ⟨(n % 18).toNat, by omega, ⟨fun n2 r2 h => ?_, fun h => (by cases h)⟩⟩
        obtain ⟨h, _⟩ := List.cons.inj h
        rw [← h]
        omega
    refine q_asg (v := .int 18) ev_c fun H1 e1 => ?_
    have hS1 := ex_l e1 hS
    refine q_asg (v := .int (i : Int)) (ev_intD (K := K) (edt_ite (et_test (ev_neNilI (ev_var rfl) hS1)) (fun hb => ?_) (fun hb => ?_))) fun H2 e2 => ?_
    · cases ns with
      | nil => cases hb
      | cons n r => exact ed_of (ev_is (ev_mod18 (ev_intC (ev_ixLi 0 (ev_var rfl) ev_c hS1 rfl rfl)) (ev_var rfl) (by decide)) (by rw [h2.1 n r rfl])) (.int _)
    · have z : ns = [] := by simpa using hb
      rw [h2.2 z]
      exact ed_of ev_c (.int 0)
    have way : ∀ (j : Nat) (H' : Hp), j < 18 → SpV spWay [.int (j : Int), .int 18] H' (.bl true) := fun j H' hj H1 e Q q E => ⟨j, hj, rfl, q⟩
    refine q_when (b := false) (et_is (et_or (et_not (a := true) (et_B (ev_call (ea_cons (ev_var rfl) (ea_cons (ev_var rfl) ea_nil)) (way i _ hi)))) fun _ => et_not (a := true) (et_B (ev_call ea_nil fun H1 e Q q E => ⟨rfl, q⟩))) rfl) (fun h => nomatch h) fun _ H3 e3 => ?_
    refine s_ret (v := .bl true) (ev_is (ev_opD (K := K) (d := .list []) ?_ (ed_n (en_lst eds_nil (by decide))) (rd_eqD rfl rfl)) rfl) fun H4 e4 => q H4
    have hn := given_none 18 fun i => .int (i : Int)
    rw [← hn]
    refine ed_n (en_lcR 18 (fun _ => false) _ (ea_cons (ev_var rfl) ea_nil) (by decide) (by decide) (fun _ _ => rfl) fun j H6 e6 hj => ?_)
    refine ⟨_, ?_, goes_name, ?_, fun h => nomatch h⟩
    · rfl
    · exact et_is (et_not (a := true) (et_B (ev_call (ea_cons (ev_var rfl) (ea_cons (ev_var rfl) ea_nil)) (way j _ hj)))) rfl
end
end Vf
end
section
set_option Elab.async false
set_option linter.all false
set_option maxRecDepth 100000
set_option maxHeartbeats 16000000
namespace Vf
open PySem PySem.Spec PyProof.Rows L2 Evl Nk
/-! ### what the top has written -/
def smpB (K : PySem.W.Frag) (l : List Addr) : Bool := (List.range 19).all fun i => decide (i = 11) || clsOk K (l.getD i 0)
def isB (K : PySem.W.Frag) (l : List Addr) : Bool := (List.range 19).all fun i => isC K (l.getD i 0)
def kitT (K : PySem.W.Frag) (l : List Addr) : Bool := (List.range 19).all fun i => (List.range 18).all fun j => decide (PySem.W.kitOne K (.ref (l.getD i 0)) (.ref (l.getD j 0)) = some (decide (i = j)))
def veB (K : PySem.W.Frag) (l : List Addr) : Bool := (List.range 19).all fun i => decide (PySem.W.kitOne K (.ref (l.getD i 0)) (.type "ValueError") = some true)
def peB (K : PySem.W.Frag) (l : List Addr) : Bool := (List.range 19).all fun i => decide (PySem.W.exmOne K (.ref (l.getD i 0)) (.ref (l.getD 18 0)) = some true)
theorem all_at {n : Nat} {p : Nat → Bool} (h : (List.range n).all p = true) (i : Nat) (hi : i < n) : p i = true := List.all_eq_true.mp h i (List.mem_range.mpr hi)
theorem all_mk {l : PySem.W.OpenLaw} {w : World} {K : PySem.W.Frag} {h : Heap} {mg : Str → Option Value} {fa : Addr} (X : K.In h) (G : h.Ns mainGlobals mg) (hfa : mg "law" = some (.ref fa))
    {c0 c1 c2 c3 c4 c5 c6 c7 c8 c9 c10 c11 c12 c13 c14 c15 c16 c17 c18 fI cda cc N : Addr} {nm q : Str} {bs : List Value} {sn : List Str} {sub : List Value} {ab : Bool} {col : Option Bool} {dd : Option Addr} {m0 m1 m2 m3 m5 : Option Value}
    {cl ccl ocI kVI dcI pmI ctI : Value} {cld cdd odI anI : Option Addr} {csl ccs slI : Array (Option Value)} {vs : Array Value} {file : Str} {tf : Tok}
    {f0 f1 f2 f3 f4 f5 f6 f7 f8 : Addr} {od0 an0 od1 an1 od2 an2 od3 an3 od4 an4 od5 an5 od6 an6 od7 an7 od8 an8 : Option Addr} {sl0 sl1 sl2 sl3 sl4 sl5 sl6 sl7 sl8 : Array (Option Value)} {oc0 kV0 dc0 pm0 cd0 ct0 oc1 kV1 dc1 pm1 cd1 ct1 oc2 kV2 dc2 pm2 cd2 ct2 oc3 kV3 dc3 pm3 cd3 ct3 oc4 kV4 dc4 pm4 cd4 ct4 oc5 kV5 dc5 pm5 cd5 ct5 oc6 kV6 dc6 pm6 cd6 ct6 oc7 kV7 dc7 pm7 cd7 ct7 oc8 kV8 dc8 pm8 cd8 ct8 : Value}
    (g0 : PySem.W.nsIn K mainGlobals "InvalidBound" = some (some (.ref c0)))
    (g1 : PySem.W.nsIn K mainGlobals "InvalidEnds" = some (some (.ref c1)))
    (g2 : PySem.W.nsIn K mainGlobals "InvalidEvent" = some (some (.ref c2)))
    (g3 : PySem.W.nsIn K mainGlobals "InvalidHistory" = some (some (.ref c3)))
    (g4 : PySem.W.nsIn K mainGlobals "InvalidNumber" = some (some (.ref c4)))
    (g5 : PySem.W.nsIn K mainGlobals "InvalidPair" = some (some (.ref c5)))
    (g6 : PySem.W.nsIn K mainGlobals "InvalidPlan" = some (some (.ref c6)))
    (g7 : PySem.W.nsIn K mainGlobals "InvalidRun" = some (some (.ref c7)))
    (g8 : PySem.W.nsIn K mainGlobals "InvalidText" = some (some (.ref c8)))
    (g9 : PySem.W.nsIn K mainGlobals "InvalidTimes" = some (some (.ref c9)))
    (g10 : PySem.W.nsIn K mainGlobals "NotDesign" = some (some (.ref c10)))
    (g11 : PySem.W.nsIn K mainGlobals "NotKept" = some (some (.ref c11)))
    (g12 : PySem.W.nsIn K mainGlobals "NotSafe" = some (some (.ref c12)))
    (g13 : PySem.W.nsIn K mainGlobals "NothingToUndo" = some (some (.ref c13)))
    (g14 : PySem.W.nsIn K mainGlobals "OtherTasks" = some (some (.ref c14)))
    (g15 : PySem.W.nsIn K mainGlobals "SameEvent" = some (some (.ref c15)))
    (g16 : PySem.W.nsIn K mainGlobals "Started" = some (some (.ref c16)))
    (g17 : PySem.W.nsIn K mainGlobals "TooLate" = some (some (.ref c17)))
    (g18 : PySem.W.nsIn K mainGlobals "PlanError" = some (some (.ref c18)))
    (zisinstance : PySem.W.nsIn K mainGlobals "isinstance" = some none)
    (zValueError : PySem.W.nsIn K mainGlobals "ValueError" = some none)
    (zlen : PySem.W.nsIn K mainGlobals "len" = some none)
    (zrange : PySem.W.nsIn K mainGlobals "range" = some none)
    (zint : PySem.W.nsIn K mainGlobals "int" = some none)
    (ztuple : PySem.W.nsIn K mainGlobals "tuple" = some none)
    (zsuper : PySem.W.nsIn K mainGlobals "super" = some none)
    (xL : K.lookup c11 = some (excClassObj nm q c11 N bs [.ref c18, .type "ValueError", .type "Exception", .type "BaseException", .type "object"] true sn sub ab col dd m0 m1 m2 m3 m5 "ValueError.__new__"))
    (nei : PySem.W.excInitIn K c11 veT "ValueError.__new__" = true)
    (nsa : PySem.W.findIn K (.ref c11) "__setattr__" = some (some (.builtin "object.__setattr__")))
    (nno : PySem.W.findIn K (.ref c11) "reason" = some none)
    (niC : PySem.W.findIn K (.ref c11) "__init__" = some (some (.ref fI)))
    (ntI : PySem.W.typeIn K (.ref fI) = some (.type "function"))
    (nkC : PySem.W.keepIn K (.ref c11) = true)
    (nex : PySem.W.subIn K (.ref c11) (.type "BaseException") = some true)
    (nve : PySem.W.subIn K (.ref c11) (.type "ValueError") = some true)
    (nty : PySem.W.typeIn K (.ref c11) = some (.type "type"))
    (nown : PySem.W.mroIn K c11 (.ref c11) = some true)
    (nsup : PySem.W.ks_superIn K c11 c11 "__init__" = some (some (.builtin "ValueError.__init__")))
    (nany : PySem.W.nsIn K cStatics "thirdparty.any" = some none)
    (nfn : K.lookup fI = some ⟨ocI, odI, .func (PySem.W.ksFn "__init__" "NotKept.__init__" (defArgs sNk) (defBody sNk) (defScope sNk) .none kVI dcI pmI anI (.ref cda) ctI cc), slI⟩)
    (nci : PySem.W.codeIn K (.ref cda) "NotKept.__init__" = true)
    (ncell : K.lookup cc = some ⟨cl, cld, .cell (some (.ref c11)), csl⟩)
    (ncode : K.lookup cda = some ⟨ccl, cdd, .fields vs, ccs⟩)
    (nvs : vs[2]? = some (.str file tf))
    (nfile : ((l.prog.main.file : Str) == file) = true)
    (ntop : (l.prog.main.scope.names.lookup ("super" : Str)).isSome = false)
    (fsmp : smpB K [c0, c1, c2, c3, c4, c5, c6, c7, c8, c9, c10, c11, c12, c13, c14, c15, c16, c17, c18] = true)
    (fis : isB K [c0, c1, c2, c3, c4, c5, c6, c7, c8, c9, c10, c11, c12, c13, c14, c15, c16, c17, c18] = true)
    (fkit : kitT K [c0, c1, c2, c3, c4, c5, c6, c7, c8, c9, c10, c11, c12, c13, c14, c15, c16, c17, c18] = true)
    (fve : veB K [c0, c1, c2, c3, c4, c5, c6, c7, c8, c9, c10, c11, c12, c13, c14, c15, c16, c17, c18] = true)
    (fpe : peB K [c0, c1, c2, c3, c4, c5, c6, c7, c8, c9, c10, c11, c12, c13, c14, c15, c16, c17, c18] = true)
    (fnn : PySem.W.exmOne K (.ref c11) (.ref c11) = some true)
    (fxf : xfB K c11 = true)
    (a0 : PySem.W.nsIn K mainGlobals "is_plan" = some (some (.ref f0)))
    (l0 : K.lookup f0 = some ⟨oc0, od0, .func (PySem.W.fnOf "is_plan" "is_plan" (defArgs s_is_plan) (defBody s_is_plan) (defScope s_is_plan) .none kV0 dc0 pm0 an0 cd0 ct0), sl0⟩)
    (c_0 : PySem.W.codeIn K cd0 "is_plan" = true)
    (k0 : PySem.W.keepIn K (.ref f0) = true)
    (a1 : PySem.W.nsIn K mainGlobals "require_plan" = some (some (.ref f1)))
    (l1 : K.lookup f1 = some ⟨oc1, od1, .func (PySem.W.fnOf "require_plan" "require_plan" (defArgs s_require_plan) (defBody s_require_plan) (defScope s_require_plan) .none kV1 dc1 pm1 an1 cd1 ct1), sl1⟩)
    (c_1 : PySem.W.codeIn K cd1 "require_plan" = true)
    (k1 : PySem.W.keepIn K (.ref f1) = true)
    (a2 : PySem.W.nsIn K mainGlobals "ours" = some (some (.ref f2)))
    (l2 : K.lookup f2 = some ⟨oc2, od2, .func (PySem.W.fnOf "ours" "ours" (defArgs s_ours) (defBody s_ours) (defScope s_ours) .none kV2 dc2 pm2 an2 cd2 ct2), sl2⟩)
    (c_2 : PySem.W.codeIn K cd2 "ours" = true)
    (k2 : PySem.W.keepIn K (.ref f2) = true)
    (a3 : PySem.W.nsIn K mainGlobals "_law_raised_more" = some (some (.ref f3)))
    (l3 : K.lookup f3 = some ⟨oc3, od3, .func (PySem.W.fnOf "_law_raised_more" "_law_raised_more" (defArgs s_law_raised_more) (defBody s_law_raised_more) (defScope s_law_raised_more) .none kV3 dc3 pm3 an3 cd3 ct3), sl3⟩)
    (c_3 : PySem.W.codeIn K cd3 "_law_raised_more" = true)
    (k3 : PySem.W.keepIn K (.ref f3) = true)
    (a4 : PySem.W.nsIn K mainGlobals "_law_raised_one" = some (some (.ref f4)))
    (l4 : K.lookup f4 = some ⟨oc4, od4, .func (PySem.W.fnOf "_law_raised_one" "_law_raised_one" (defArgs s_law_raised_one) (defBody s_law_raised_one) (defScope s_law_raised_one) .none kV4 dc4 pm4 an4 cd4 ct4), sl4⟩)
    (c_4 : PySem.W.codeIn K cd4 "_law_raised_one" = true)
    (k4 : PySem.W.keepIn K (.ref f4) = true)
    (a5 : PySem.W.nsIn K mainGlobals "_law_marks" = some (some (.ref f5)))
    (l5 : K.lookup f5 = some ⟨oc5, od5, .func (PySem.W.fnOf "_law_marks" "_law_marks" (defArgs s_law_marks) (defBody s_law_marks) (defScope s_law_marks) .none kV5 dc5 pm5 an5 cd5 ct5), sl5⟩)
    (c_5 : PySem.W.codeIn K cd5 "_law_marks" = true)
    (k5 : PySem.W.keepIn K (.ref f5) = true)
    (a6 : PySem.W.nsIn K mainGlobals "_law_way_right" = some (some (.ref f6)))
    (l6 : K.lookup f6 = some ⟨oc6, od6, .func (PySem.W.fnOf "_law_way_right" "_law_way_right" (defArgs s_law_way_right) (defBody s_law_way_right) (defScope s_law_way_right) .none kV6 dc6 pm6 an6 cd6 ct6), sl6⟩)
    (c_6 : PySem.W.codeIn K cd6 "_law_way_right" = true)
    (k6 : PySem.W.keepIn K (.ref f6) = true)
    (a7 : PySem.W.nsIn K mainGlobals "_law_kept_right" = some (some (.ref f7)))
    (l7 : K.lookup f7 = some ⟨oc7, od7, .func (PySem.W.fnOf "_law_kept_right" "_law_kept_right" (defArgs s_law_kept_right) (defBody s_law_kept_right) (defScope s_law_kept_right) .none kV7 dc7 pm7 an7 cd7 ct7), sl7⟩)
    (c_7 : PySem.W.codeIn K cd7 "_law_kept_right" = true)
    (k7 : PySem.W.keepIn K (.ref f7) = true)
    (a8 : PySem.W.nsIn K mainGlobals "law" = some (some (.ref f8)))
    (l8 : K.lookup f8 = some ⟨oc8, od8, .func (PySem.W.fnOf "law" "law" (defArgs s_law) (defBody s_law) (defScope s_law) .none kV8 dc8 pm8 an8 cd8 ct8), sl8⟩)
    (c_8 : PySem.W.codeIn K cd8 "law" = true)
    (k8 : PySem.W.keepIn K (.ref f8) = true) :
    ∃ fd : FuncData, (∀ (s : Shared) (v : Value), BindsTo s fd ⟨[v], []⟩ [("script", v)]) ∧ ∀ base : Heap, K.In base → base.Ns mainGlobals mg → FnOk l.prog w K mg base CX0 5 fa fd ["script"] (spLaw K) := by
  have e := hfa.symm.trans (PySem.W.mg_of X G a8)
  cases e
  have T : Txt l.prog K mg (fun i => [c0, c1, c2, c3, c4, c5, c6, c7, c8, c9, c10, c11, c12, c13, c14, c15, c16, c17, c18].getD i 0) fI cda cc :=
    { g_InvalidBound := PySem.W.mg_of X G g0, g_InvalidEnds := PySem.W.mg_of X G g1, g_InvalidEvent := PySem.W.mg_of X G g2, g_InvalidHistory := PySem.W.mg_of X G g3, g_InvalidNumber := PySem.W.mg_of X G g4, g_InvalidPair := PySem.W.mg_of X G g5, g_InvalidPlan := PySem.W.mg_of X G g6, g_InvalidRun := PySem.W.mg_of X G g7, g_InvalidText := PySem.W.mg_of X G g8, g_InvalidTimes := PySem.W.mg_of X G g9, g_NotDesign := PySem.W.mg_of X G g10, g_NotKept := PySem.W.mg_of X G g11, g_NotSafe := PySem.W.mg_of X G g12, g_NothingToUndo := PySem.W.mg_of X G g13, g_OtherTasks := PySem.W.mg_of X G g14, g_SameEvent := PySem.W.mg_of X G g15, g_Started := PySem.W.mg_of X G g16, g_TooLate := PySem.W.mg_of X G g17, g_PlanError := PySem.W.mg_of X G g18
      smp := fun i hi h11 => by
        have z := all_at fsmp i hi
        rw [decide_eq_false h11, Bool.false_or] at z
        exact z
      nk := ⟨PySem.W.mg_of X G g11, ⟨nm, q, N, bs, _, sn, sub, ab, col, dd, m0, m1, m2, m3, m5, xL, by first | rfl | kernel_rfl⟩, nei, nsa, nno, niC, ntI, nkC, nex, nve, nty, nown, nsup, nany, PySem.W.mg_none_of X G zsuper, ⟨cl, cld, csl, ncell⟩, ⟨ccl, cdd, vs, ccs, file, tf, ncode, nvs, nfile⟩, ⟨ocI, odI, kVI, dcI, pmI, anI, ctI, slI, nfn, nci⟩, ntop⟩
      is_ := fun i hi => all_at fis i hi
      kit := fun i j hi hj => of_decide_eq_true (all_at (all_at fkit i hi) j hj)
      ve := fun i hi => of_decide_eq_true (all_at fve i hi)
      pe := fun i hi => of_decide_eq_true (all_at fpe i hi)
      nn := fnn
      xf := fxf
      isinstance := PySem.W.mg_none_of X G zisinstance
      ValueError := PySem.W.mg_none_of X G zValueError
      len := PySem.W.mg_none_of X G zlen
      range := PySem.W.mg_none_of X G zrange
      int := PySem.W.mg_none_of X G zint
      tuple := PySem.W.mg_none_of X G ztuple }
  refine ⟨PySem.W.fnOf "law" "law" (defArgs s_law) (defBody s_law) (defScope s_law) .none kV8 dc8 pm8 an8 cd8 ct8, fun s v => .of_eq rfl, fun base _ _ => ?_⟩
  have F0 := fun_mk (st := s_is_plan) l0 c_0 k0
  have b0 := F0.binds (ps := ["value"]) fun _ _ _ _ _ _ us hl => match us, hl with | [_], _ => rfl
  have F1 := fun_mk (st := s_require_plan) l1 c_1 k1
  have b1 := F1.binds (ps := ["plan"]) fun _ _ _ _ _ _ us hl => match us, hl with | [_], _ => rfl
  have F2 := fun_mk (st := s_ours) l2 c_2 k2
  have b2 := F2.binds (ps := ["plan"]) fun _ _ _ _ _ _ us hl => match us, hl with | [_], _ => rfl
  have F3 := fun_mk (st := s_law_raised_more) l3 c_3 k3
  have b3 := F3.binds (ps := ["way"]) fun _ _ _ _ _ _ us hl => match us, hl with | [_], _ => rfl
  have F4 := fun_mk (st := s_law_raised_one) l4 c_4 k4
  have b4 := F4.binds (ps := ["way"]) fun _ _ _ _ _ _ us hl => match us, hl with | [_], _ => rfl
  have F5 := fun_mk (st := s_law_marks) l5 c_5 k5
  have b5 := F5.binds (ps := ["e"]) fun _ _ _ _ _ _ us hl => match us, hl with | [_], _ => rfl
  have F6 := fun_mk (st := s_law_way_right) l6 c_6 k6
  have b6 := F6.binds (ps := ["way", "many"]) fun _ _ _ _ _ _ us hl => match us, hl with | [_, _], _ => rfl
  have F7 := fun_mk (st := s_law_kept_right) l7 c_7 k7
  have b7 := F7.binds (ps := []) fun _ _ _ _ _ _ us hl => match us, hl with | [], _ => rfl
  have F8 := fun_mk (st := s_law) l8 c_8 k8
  have O0 := ok_is_plan0 (w := w) (base := base) F0 T
  have O1 := ok_require_plan0 F1 T ⟨⟨_, _, O0, PySem.W.mg_of X G a0, k0, b0⟩⟩
  have O2 := ok_ours0 F2 T O1 (PySem.W.mg_of X G a1) k1 b1
  have O3 := ok_law_raised_more (w := w) (base := base) F3 T
  have O4 := ok_law_raised_one F4 T O3 (PySem.W.mg_of X G a3) k3 b3
  have O5 := ok_law_marks (w := w) (base := base) F5 T
  have O6 := ok_law_way_right F6 T O4 (PySem.W.mg_of X G a4) k4 b4 O5 (PySem.W.mg_of X G a5) k5 b5
  have O7 := ok_law_kept_right F7 T O2 (PySem.W.mg_of X G a2) k2 b2 O5 (PySem.W.mg_of X G a5) k5 b5
  exact ok_law F8 T ⟨⟨_, _, O6, PySem.W.mg_of X G a6, k6, b6⟩⟩ O7 (PySem.W.mg_of X G a7) k7 b7
end Vf
end
section
set_option Elab.async false
set_option linter.all false
set_option maxRecDepth 100000
open PySem PySem.W PyProof.Rows in
set_option maxHeartbeats 0 in
theorem PySem.Challenge.cw_startnow_k00_error_classes_holds : PySem.Challenge.rw_startnow_k00_error_classes.Holds := by
  w_on; o_law; k_head; (case hw => w_witness2)
  k_fill
  refine L2.walk_of (l := PySem.Challenge.rw_startnow_k00_error_classes) (n := 63) (k := 5) (x := "script") (CX := fun _ => L2.CX0) (sp := fun w => Vf.spLaw _) rfl (by decide) rfl ⟨rfl, by decide, by decide⟩ (fun w h Y => PySem.W.kIn_of Y) ?F (fun _ _ a ns hl _ hS => ⟨a, ns, rfl, hS, hl, fun _ => rfl⟩) (fun _ _ _ _ _ z => z)
  case F =>
    intro w mg fa h KX G hmg
    refine' Vf.all_mk KX G hmg ?vf_g0 ?vf_g1 ?vf_g2 ?vf_g3 ?vf_g4 ?vf_g5 ?vf_g6 ?vf_g7 ?vf_g8 ?vf_g9 ?vf_g10 ?vf_g11 ?vf_g12 ?vf_g13 ?vf_g14 ?vf_g15 ?vf_g16 ?vf_g17 ?vf_g18 ?vf_zisinstance ?vf_zValueError ?vf_zlen ?vf_zrange ?vf_zint ?vf_ztuple ?vf_zsuper ?vf_xL ?vf_nei ?vf_nsa ?vf_nno ?vf_niC ?vf_ntI ?vf_nkC ?vf_nex ?vf_nve ?vf_nty ?vf_nown ?vf_nsup ?vf_nany ?vf_nfn ?vf_nci ?vf_ncell ?vf_ncode ?vf_nvs ?vf_nfile ?vf_ntop ?vf_fsmp ?vf_fis ?vf_fkit ?vf_fve ?vf_fpe ?vf_fnn ?vf_fxf ?vf_a0 ?vf_l0 ?vf_c_0 ?vf_k0 ?vf_a1 ?vf_l1 ?vf_c_1 ?vf_k1 ?vf_a2 ?vf_l2 ?vf_c_2 ?vf_k2 ?vf_a3 ?vf_l3 ?vf_c_3 ?vf_k3 ?vf_a4 ?vf_l4 ?vf_c_4 ?vf_k4 ?vf_a5 ?vf_l5 ?vf_c_5 ?vf_k5 ?vf_a6 ?vf_l6 ?vf_c_6 ?vf_k6 ?vf_a7 ?vf_l7 ?vf_c_7 ?vf_k7 ?vf_a8 ?vf_l8 ?vf_c_8 ?vf_k8
    (case vf_g0 => k_is)
    (case vf_g1 => k_is)
    (case vf_g2 => k_is)
    (case vf_g3 => k_is)
    (case vf_g4 => k_is)
    (case vf_g5 => k_is)
    (case vf_g6 => k_is)
    (case vf_g7 => k_is)
    (case vf_g8 => k_is)
    (case vf_g9 => k_is)
    (case vf_g10 => k_is)
    (case vf_g11 => k_is)
    (case vf_g12 => k_is)
    (case vf_g13 => k_is)
    (case vf_g14 => k_is)
    (case vf_g15 => k_is)
    (case vf_g16 => k_is)
    (case vf_g17 => k_is)
    (case vf_g18 => k_is)
    (case vf_zisinstance => k_is)
    (case vf_zValueError => k_is)
    (case vf_zlen => k_is)
    (case vf_zrange => k_is)
    (case vf_zint => k_is)
    (case vf_ztuple => k_is)
    (case vf_zsuper => k_is)
    (case vf_xL => k_is)
    (case vf_nei => kernel_rfl)
    (case vf_nsa => k_is)
    (case vf_nno => k_is)
    (case vf_niC => k_is)
    (case vf_ntI => k_is)
    (case vf_nkC => k_is)
    (case vf_nex => k_is)
    (case vf_nve => k_is)
    (case vf_nty => k_is)
    (case vf_nown => k_is)
    (case vf_nsup => kernel_rfl)
    (case vf_nany => k_is)
    (case vf_nfn => k_is)
    (case vf_nci => k_is)
    (case vf_ncell => k_is)
    (case vf_ncode => k_is)
    (case vf_nvs => rfl)
    (case vf_nfile => first | rfl | decide +kernel)
    (case vf_ntop => first | rfl | decide +kernel)
    (case vf_fsmp => kernel_rfl)
    (case vf_fis => kernel_rfl)
    (case vf_fkit => kernel_rfl)
    (case vf_fve => kernel_rfl)
    (case vf_fpe => kernel_rfl)
    (case vf_fnn => kernel_rfl)
    (case vf_fxf => kernel_rfl)
    (case vf_a0 => k_is)
    (case vf_l0 => k_is)
    (case vf_c_0 => k_is)
    (case vf_k0 => k_is)
    (case vf_a1 => k_is)
    (case vf_l1 => k_is)
    (case vf_c_1 => k_is)
    (case vf_k1 => k_is)
    (case vf_a2 => k_is)
    (case vf_l2 => k_is)
    (case vf_c_2 => k_is)
    (case vf_k2 => k_is)
    (case vf_a3 => k_is)
    (case vf_l3 => k_is)
    (case vf_c_3 => k_is)
    (case vf_k3 => k_is)
    (case vf_a4 => k_is)
    (case vf_l4 => k_is)
    (case vf_c_4 => k_is)
    (case vf_k4 => k_is)
    (case vf_a5 => k_is)
    (case vf_l5 => k_is)
    (case vf_c_5 => k_is)
    (case vf_k5 => k_is)
    (case vf_a6 => k_is)
    (case vf_l6 => k_is)
    (case vf_c_6 => k_is)
    (case vf_k6 => k_is)
    (case vf_a7 => k_is)
    (case vf_l7 => k_is)
    (case vf_c_7 => k_is)
    (case vf_k7 => k_is)
    (case vf_a8 => k_is)
    (case vf_l8 => k_is)
    (case vf_c_8 => k_is)
    (case vf_k8 => k_is)
#print axioms PySem.Challenge.cw_startnow_k00_error_classes_holds
end
