import PyProof.Rows.All
import Wide.All
import OpenK.AllK
import Wide.FinOn
import HandS.ForMost
import HandS.Evl
import HandS.IsInst
import HandS.DictComp
import HandS.Zip
import HandS.Wide
import HandS.Style
import HandS.TupAny
import KE.LtData
import PySem.Challenge.RW_startnow_k02_ours_and_broken_bounds
import OpenK.KMore
import HandS.Text
import KE.SortData
import HandS.Conv
import HandS.Strs
section
set_option Elab.async false
set_option linter.all false
set_option maxRecDepth 100000
set_option maxHeartbeats 2000000
/-! The general part: data in the heap, own rules. -/
namespace Vf
open PySem L2 Evl
/-! ### own rules -/
section
variable {X : Cx}
/-- a < b of data that are alike -/
def rLtD (K : PySem.W.Frag) : R2 := fun x y H Q => ∃ d e, Dp K H x d ∧ Dp K H y e ∧ PySem.W.alike d e = true ∧ d ≠ .none ∧ d.depth ≤ 64 ∧ Q (.bl (PySem.W.dataLt d e)) H
theorem op_ltD (hu : X.A.units + 64 < cLine) : OpR X (compareOp .Lt) (rLtD X.K) := by
  intro pins s σ H x y v u Q I rx ry h
  obtain ⟨d, e, hd, he, ha, hn, hz, q⟩ := h
  obtain ⟨as, r1⟩ := Dp.reads I d x v hd rx
  obtain ⟨bs, r2⟩ := Dp.reads I e y u he ry
  have hm : min d.depth e.depth ≤ d.depth := Nat.min_le_left _ _
  exact PySem.W.rcLt_alike d e X.A s v u as bs r1 r2 ha hn (by omega) X.prog X.w _ _ ⟨.bl _, H, I, rfl, q⟩
/-- a ** b of a great base and a small exponent -/
def CPowW (i j : Int) : Prop := 0 ≤ j ∧ (Builtin.Int.intBits i : Int) * j ≤ 2 ^ 27
theorem op_powW : OpR X (binaryOp .Pow) (rI CPowW fun i j => .int (i ^ j.toNat)) := opI fun _ _ _ _ _ _ _ hc q => PyProof.Rows.pow_int hc.1 hc.2 q
end
/-! ### data stay -/
section
variable {K : PySem.W.Frag} {H H' : Hp}
mutual
theorem dp_ex (e : Ex H H') : ∀ {v : V} {d : PyData}, Dp K H v d → Dp K H' v d
  | _, _, .non => .non
  | _, _, .bl b => .bl b
  | _, _, .int i => .int i
  | _, _, .str x => .str x
  | _, _, .lst hs ha => .lst (ex_l e hs) (dpa_ex e ha)
  | _, _, .tup hs ha => .tup (ex_t e hs) (dpa_ex e ha)
theorem dpa_ex (e : Ex H H') : ∀ {vs : List V} {ds : List PyData}, DpAll K H vs ds → DpAll K H' vs ds
  | _, _, .nil => .nil
  | _, _, .cons h t => .cons (dp_ex e h) (dpa_ex e t)
end
theorem dpa_len : ∀ {vs : List V} {ds : List PyData}, DpAll K H vs ds → vs.length = ds.length
  | _, _, .nil => rfl
  | _, _, .cons _ t => by rw [List.length_cons, List.length_cons, dpa_len t]
theorem dpa_get : ∀ {vs : List V} {ds : List PyData} {i : Nat} {v : V}, DpAll K H vs ds → vs[i]? = some v → ∃ d, ds[i]? = some d ∧ Dp K H v d
  | _, _, _, _, .nil, e => by simp at e
  | _, _, 0, _, .cons h _, e => by simp at e; subst e; exact ⟨_, rfl, h⟩
  | _, _, i + 1, v, .cons _ t, e => by
    obtain ⟨u, h1, h2⟩ := dpa_get (i := i) (v := v) t (by simpa using e)
    exact ⟨u, by simpa using h1, h2⟩
theorem dpa_at : ∀ {vs : List V} {ds : List PyData} {i : Nat} {d : PyData}, DpAll K H vs ds → ds[i]? = some d → ∃ v, vs[i]? = some v ∧ Dp K H v d
  | _, _, _, _, .nil, e => by simp at e
  | _, _, 0, _, .cons h _, e => by simp at e; subst e; exact ⟨_, rfl, h⟩
  | _, _, i + 1, d, .cons _ t, e => by
    obtain ⟨u, h1, h2⟩ := dpa_at (i := i) (d := d) t (by simpa using e)
    exact ⟨u, by simpa using h1, h2⟩
/-- the name of a datum's type -/
def tyN : PyData → String
  | .none => "NoneType" | .bool _ => "bool" | .int _ => "int" | .str _ => "str" | .list _ => "list" | .tuple _ => "tuple" | .dict _ => "dict"
theorem ty_lst {a : Addr} {xs : List V} (h : SqL K H a xs) : TyX K H (.ref a) (.type "list") := by
  rcases h with (h | ⟨o, h⟩) | ⟨o, its, n, hk, hc, _⟩
  · exact .base (.lst h)
  · exact .base (.frz h)
  · exact .kList hk hc
theorem ty_tup {a : Addr} {xs : List V} (h : SqT K H a xs) : TyX K H (.ref a) (.type "tuple") := by
  rcases h with (h | ⟨o, h⟩) | ⟨o, its, n, hk, hc, _⟩
  · exact .base (.tup h)
  · exact .fTuple h
  · exact .kTuple hk hc
theorem ty_dp {v : V} {d : PyData} (h : Dp K H v d) : TyX K H v (.type (tyN d)) := by
  cases h with
  | non => exact .base .non
  | bl b => exact .base (.bl b)
  | int i => exact .base (.int i)
  | str x => exact .base (.str x)
  | lst hs _ => exact ty_lst hs
  | tup hs _ => exact ty_tup hs
/-- isinstance(x, T) of a datum, T one of int, bool, str, list, tuple -/
def isT (n : String) (d : PyData) : Bool := (kitB (tyN d) n).getD false
def okT (n : String) : Bool := ["NoneType", "bool", "int", "str", "list", "tuple", "dict"].all fun t => (kitB t n).isSome
theorem okT_int : okT "int" = true := by decide +kernel
theorem okT_bool : okT "bool" = true := by decide +kernel
theorem okT_str : okT "str" = true := by decide +kernel
theorem okT_list : okT "list" = true := by decide +kernel
theorem okT_tuple : okT "tuple" = true := by decide +kernel
theorem kit_isT {n : String} {d : PyData} (h : okT n = true) : kitB (tyN d) n = some (isT n d) := by
  unfold okT at h
  rw [List.all_eq_true] at h
  have h2 := h (tyN d) (by cases d <;> simp [tyN])
  unfold isT
  cases e : kitB (tyN d) n with
  | none => rw [e] at h2; cases h2
  | some b => rfl
variable {σ : L2.St} {te : TE} {v : V} {d : PyData} {n : String}
theorem rc_isi (ok : okT n = true) (h : Dp K H v d) : RC (rIsi K) [v, .ty n] H (.bl (isT n d)) := fun H1 e Q q =>
  ⟨v, .ty n, .type (tyN d), .type n, isT n d, rfl, .ty n, ty_dp (dp_ex e h), kit_ty (kit_isT ok), q H1 (Ex.refl H1)⟩
theorem ev_isi (ok : okT n = true) (hv : Ev te σ H v) (h : Dp K H v d) : Ev (tCB (rIsi K) (tCons te (tCons (tC (.ty n)) tNil))) σ H (.bl (isT n d)) := ev_cb (ea_cons hv (ea_cons ev_c ea_nil)) (rc_isi ok h)
theorem isT_int : isT "int" d = (match d with | .int _ => true | .bool _ => true | _ => false) := by
  cases d <;> simp only [isT, tyN] <;> decide +kernel
theorem isT_bool : isT "bool" d = (match d with | .bool _ => true | _ => false) := by
  cases d <;> simp only [isT, tyN] <;> decide +kernel
theorem isT_str : isT "str" d = (match d with | .str _ => true | _ => false) := by
  cases d <;> simp only [isT, tyN] <;> decide +kernel
theorem isT_list : isT "list" d = (match d with | .list _ => true | _ => false) := by
  cases d <;> simp only [isT, tyN] <;> decide +kernel
theorem isT_tuple : isT "tuple" d = (match d with | .tuple _ => true | _ => false) := by
  cases d <;> simp only [isT, tyN] <;> decide +kernel
end

/-! ### either of two readings -/
section
variable {X : Cx} {e a b : Expr} {op : CmpOp} {t u : TE}
def tEi (t u : TE) : TE := fun σ H Q => t σ H Q ∨ u σ H Q
theorem pe_ei (h1 : PE X e t) (h2 : PE X e u) : PE X e (tEi t u) := ⟨fun pins s σ H Q I h => h.elim (h1.run pins s σ H Q I) (h2.run pins s σ H Q I)⟩
end
theorem hu64 {A : Around} {k : Nat} (hr : Room k A) : A.units + 64 < cLine := Nat.lt_of_le_of_lt (by omega) hr.un
/-! ### a def of the text that is called -/
structure Cal (P : Program) (w : World) (K : PySem.W.Frag) (mg : Str → Option Value) (base : Heap) (k : Nat) (x : Str) (ps : List Str) (sp : Sp) : Prop where
  ex : ∃ f fd, FnOk P w K mg base CX0 k f fd ps sp ∧ mg x = some (.ref f) ∧ PySem.W.keepIn K (.ref f) = true ∧ Binds K fd ps []
section
variable {X : Cx} {k : Nat} {x : Str} {ps : List Str} {sp : Sp} {p pos : Pos} {e : Expr} {es : List Expr} {t : TA}
theorem pe_cal (C : Cal X.prog X.w X.K X.mg X.base k x ps sp) (hr : Room k X.A) (hg : Gl X x) (ha : PA X (e :: es) t) (hdb : (x == ("__debug__" : Str)) = false := by decide)
    (he : starEach (e :: es) X.env = (false, eval e X.env) :: starEach es X.env := by rfl) (hpl : (backTo pos (starEach es X.env)).any (·.1) = false := by rfl) : PE X (.Call (.Name x p) (e :: es) [] pos) (tCall sp [] E0 t) := by
  obtain ⟨f, fd, F, hm, hk, hb⟩ := C.ex
  exact pe_call F hr hg hm hk hb .nil pass0 ha hdb he hpl
end
/-! ### what evaluates to a datum -/
section
variable {K : PySem.W.Frag} {σ σ2 : L2.St} {H H' : Hp} {ta tb te tx tl : TE} {t u : TT} {x y z v : V} {r : R2}
theorem ev_ei1 (h : Ev ta σ H v) : Ev (tEi ta tb) σ H v := fun H1 e Q q => .inl (h H1 e Q q)
theorem ev_ei2 (h : Ev tb σ H v) : Ev (tEi ta tb) σ H v := fun H1 e Q q => .inr (h H1 e Q q)
def EvD (K : PySem.W.Frag) (te : TE) (σ : L2.St) (H : Hp) (d : PyData) : Prop := ∀ H1, Ex H H1 → ∀ Q : VK, (∀ v H2, Ex H1 H2 → Dp K H2 v d → Q v H2) → te σ H1 Q
def EvDs (K : PySem.W.Frag) (ta : TA) (σ : L2.St) (H : Hp) (ds : List PyData) : Prop := ∀ H1, Ex H H1 → ∀ Q : List V → Hp → Prop, (∀ vs H2, Ex H1 H2 → DpAll K H2 vs ds → Q vs H2) → ta σ H1 Q
/-- a new list of data -/
def EvN (K : PySem.W.Frag) (te : TE) (σ : L2.St) (H : Hp) (ds : List PyData) : Prop := ∀ H1, Ex H H1 → ∀ Q : VK, (∀ p xs H2, H1 p = none → Ex H1 H2 → H2 p = some (.lst xs) → DpAll K H2 xs ds → Q (.ref p) H2) → te σ H1 Q
theorem EvD.mono {d : PyData} (e : Ex H H') (h : EvD K te σ H d) : EvD K te σ H' d := fun H1 a Q q => h H1 (e.trans a) Q q
theorem EvN.mono {ds : List PyData} (e : Ex H H') (h : EvN K te σ H ds) : EvN K te σ H' ds := fun H1 a Q q => h H1 (e.trans a) Q q
theorem ed_of {d : PyData} (h : Ev te σ H v) (hd : Dp K H v d) : EvD K te σ H d := fun H1 e Q q => h H1 e _ fun H2 e2 => q v H2 e2 (dp_ex (e.trans e2) hd)
theorem ed_n {ds : List PyData} (h : EvN K te σ H ds) : EvD K te σ H (.list ds) := fun H1 e Q q => h H1 e _ fun p xs H2 _ e2 h2 ha => q _ H2 e2 (.lst (sq_of h2) ha)
theorem ed_l {ds : List PyData} {xs : List V} (h : EvL te σ H xs) (ha : DpAll K H xs ds) : EvN K te σ H ds := fun H1 e Q q => h H1 e _ fun p H2 hp e2 h2 => q p xs H2 hp e2 h2 (dpa_ex (e.trans e2) ha)
theorem ev_bool {b : Bool} (h : EvD K te σ H (.bool b)) : Ev te σ H (.bl b) := fun H1 e Q q => h H1 e _ fun v H2 e2 hd => by
  cases hd
  exact q H2 e2
theorem ev_intD {i : Int} (h : EvD K te σ H (.int i)) : Ev te σ H (.int i) := fun H1 e Q q => h H1 e _ fun v H2 e2 hd => by
  cases hd
  exact q H2 e2
theorem ev_strD {i : Str} (h : EvD K te σ H (.str i)) : Ev te σ H (.str i) := fun H1 e Q q => h H1 e _ fun v H2 e2 hd => by
  cases hd
  exact q H2 e2
theorem eds_nil : EvDs K tNil σ H [] := fun H1 _ Q q => q [] H1 (Ex.refl H1) .nil
theorem eds_cons {tr : TA} {d : PyData} {ds : List PyData} (h : EvD K te σ H d) (hr : EvDs K tr σ H ds) : EvDs K (tCons te tr) σ H (d :: ds) := fun H1 e Q q =>
  h H1 e _ fun v H2 e2 hd => hr H2 (e.trans e2) _ fun vs H3 e3 hds => q (v :: vs) H3 (e2.trans e3) (.cons (dp_ex e3 hd) hds)
theorem ed_tup {tr : TA} {ds : List PyData} (h : EvDs K tr σ H ds) (hl : ds.length ≤ 100000) : EvD K (tTup tr) σ H (.tuple ds) := fun H1 e Q q =>
  h H1 e _ fun vs H2 e2 ha => ⟨sz_of (by rw [dpa_len ha]; exact hl), fun p hp => q _ _ (e2.trans (Ex.new hp)) (.tup (st_of upd_same) (dpa_ex (Ex.new hp) ha))⟩
theorem en_lst {tr : TA} {ds : List PyData} (h : EvDs K tr σ H ds) (hl : ds.length ≤ 100000) : EvN K (tLst tr) σ H ds := fun H1 e Q q =>
  h H1 e _ fun vs H2 e2 ha => ⟨sz_of (by rw [dpa_len ha]; exact hl), fun p hp => q _ vs _ (fresh_back e2 hp) (e2.trans (Ex.new hp)) upd_same (dpa_ex (Ex.new hp) ha)⟩
theorem edt_ite {d : PyData} {b : Bool} (h : EvT t σ H b) (h1 : b = true → EvD K ta σ H d) (h2 : b = false → EvD K tb σ H d) : EvD K (tIf t ta tb) σ H d := fun H1 e Q q => h H1 e _ fun H2 e2 => by
  cases b with
  | true =>
    show ta σ H2 Q
    exact h1 rfl H2 (e.trans e2) Q fun v H3 e3 hd => q v H3 (e2.trans e3) hd
  | false =>
    show tb σ H2 Q
    exact h2 rfl H2 (e.trans e2) Q fun v H3 e3 hd => q v H3 (e2.trans e3) hd
/-- an operation on two data -/
def RD (K : PySem.W.Frag) (r : R2) (d e : PyData) (H : Hp) (z : V) : Prop := ∀ H1, Ex H H1 → ∀ x y, Dp K H1 x d → Dp K H1 y e → ∀ Q : VK, Q z H1 → r x y H1 Q
theorem ev_opD {d d' : PyData} (ha : EvD K ta σ H d) (hb : EvD K tb σ H d') (hr : RD K r d d' H z) : Ev (tOp r ta tb) σ H z := fun H1 e Q q =>
  ha H1 e _ fun x H2 e2 hx => hb H2 (e.trans e2) _ fun y H3 e3 hy => hr H3 ((e.trans e2).trans e3) x y (dp_ex e3 hx) hy Q (q H3 (e2.trans e3))
theorem rd_ltD {d d' : PyData} (h : PySem.W.alike d d' = true) (hn : d ≠ .none) (hz : d.depth ≤ 64) : RD K (rLtD K) d d' H (.bl (PySem.W.dataLt d d')) := fun H1 _ x y hx hy Q q => ⟨d, d', hx, hy, h, hn, hz, q⟩
theorem rd_eqD {d d' : PyData} (h : SeqAt.shaped d = true) (h' : SeqAt.shaped d' = true) : RD K (rEqD K) d d' H (.bl (PyData.eqv d d')) := fun H1 _ x y hx hy Q q => ⟨d, d', hx, hy, h, h', q⟩
theorem rd_neD {d d' : PyData} (h : SeqAt.shaped d = true) (h' : SeqAt.shaped d' = true) : RD K (rNeD K) d d' H (.bl (!PyData.eqv d d')) := fun H1 _ x y hx hy Q q => ⟨d, d', hx, hy, h, h', q⟩
theorem rd_eqS {a b : Str} : RD K rEq (.str a) (.str b) H (.bl (decide (a = b))) := fun H1 _ x y hx hy Q q => by
  cases hx
  cases hy
  refine ⟨rfl, ?_⟩
  have e : decide (V.str a = V.str b) = decide (a = b) := by
    by_cases h : a = b
    · subst h; simp
    · rw [decide_eq_false h]; exact decide_eq_false fun z => h (V.str.inj z)
  rw [e]
  exact q
theorem rd_neS {a b : Str} : RD K rNe (.str a) (.str b) H (.bl (!decide (a = b))) := fun H1 _ x y hx hy Q q => by
  cases hx
  cases hy
  refine ⟨rfl, ?_⟩
  have e : decide (V.str a = V.str b) = decide (a = b) := by
    by_cases h : a = b
    · subst h; simp
    · rw [decide_eq_false h]; exact decide_eq_false fun z => h (V.str.inj z)
  rw [e]
  exact q
theorem rd_I0 {g : Int → Int → V} {i j : Int} : RD K (rI0 g) (.int i) (.int j) H (g i j) := fun H1 _ x y hx hy Q q => by
  cases hx
  cases hy
  exact ⟨i, j, rfl, rfl, q⟩
/-- len of a list or tuple -/
theorem ev_lenT {p : Addr} {xs : List V} (ha : Ev ta σ H (.ref p)) (h : SqT K H p xs) : Ev (tCB (rLenS K) (tCons ta tNil)) σ H (.int (xs.length : Int)) := fun H1 e Q q =>
  ha H1 e _ fun H2 e2 => ⟨p, xs, rfl, Or.inr (ex_t (e.trans e2) h), q H2 e2⟩
theorem ev_lenD {ds : List PyData} (ha : EvD K ta σ H (.tuple ds)) : Ev (tCB (rLenS K) (tCons ta tNil)) σ H (.int (ds.length : Int)) := fun H1 e Q q =>
  ha H1 e _ fun v H2 e2 hd => by
    cases hd with
    | tup hs hall =>
      refine ⟨_, _, rfl, Or.inr hs, ?_⟩
      rw [dpa_len hall]
      exact q H2 e2
theorem ev_lenL {ds : List PyData} (ha : EvD K ta σ H (.list ds)) : Ev (tCB (rLenS K) (tCons ta tNil)) σ H (.int (ds.length : Int)) := fun H1 e Q q =>
  ha H1 e _ fun v H2 e2 hd => by
    cases hd with
    | lst hs hall =>
      refine ⟨_, _, rfl, Or.inl hs, ?_⟩
      rw [dpa_len hall]
      exact q H2 e2
def rLenStr : List V → Hp → VK → Prop := fun xs H Q => ∃ z, xs = [.str z] ∧ z.length ≤ sizeLine ∧ Q (.int z.length) H
theorem ev_lenStr {s : Str} (ha : Ev ta σ H (.str s)) (h : s.length ≤ 100000) : Ev (tCB rLenStr (tCons ta tNil)) σ H (.int (s.length : Int)) := fun H1 e Q q =>
  ha H1 e _ fun H2 e2 => ⟨s, rfl, sz_of h, q H2 e2⟩
/-- xs[i] -/
theorem atI_of {ds : List PyData} {vs : List V} {i : Int} {j : Nat} {d : PyData} (h : DpAll K H vs ds) (hi : i = (j : Int)) (hd : ds[j]? = some d) : ∃ v, atI vs i = some v ∧ Dp K H v d := by
  obtain ⟨v, h1, h2⟩ := dpa_at h hd
  exact ⟨v, at_of hi h1, h2⟩
theorem ed_ixT {ds : List PyData} {i : Int} {d : PyData} (j : Nat) (ha : EvD K ta σ H (.tuple ds)) (hb : Ev tb σ H (.int i)) (hi : i = (j : Int)) (hd : ds[j]? = some d) : EvD K (tOp (rIxT K) ta tb) σ H d := fun H1 e Q q =>
  ha H1 e _ fun v H2 e2 h2 => hb H2 (e.trans e2) _ fun H3 e3 => by
    cases h2 with
    | tup hs hall =>
      obtain ⟨w, h4, h5⟩ := atI_of (dpa_ex e3 hall) hi hd
      exact ⟨_, _, i, w, rfl, rfl, ex_t e3 hs, h4, q w H3 (e2.trans e3) h5⟩
theorem ed_ixL {ds : List PyData} {i : Int} {d : PyData} (j : Nat) (ha : EvD K ta σ H (.list ds)) (hb : Ev tb σ H (.int i)) (hi : i = (j : Int)) (hd : ds[j]? = some d) : EvD K (tOp (rIxL K) ta tb) σ H d := fun H1 e Q q =>
  ha H1 e _ fun v H2 e2 h2 => hb H2 (e.trans e2) _ fun H3 e3 => by
    cases h2 with
    | lst hs hall =>
      obtain ⟨w, h4, h5⟩ := atI_of (dpa_ex e3 hall) hi hd
      exact ⟨_, _, i, w, rfl, rfl, ex_l e3 hs, h4, q w H3 (e2.trans e3) h5⟩
/-- of a list or a tuple -/
def seqD (b : Bool) (ds : List PyData) : PyData := if b = true then .list ds else .tuple ds
theorem ed_ixS {b : Bool} {ds : List PyData} {i : Int} {d : PyData} (j : Nat) (ha : EvD K ta σ H (seqD b ds)) (hb : Ev tb σ H (.int i)) (hi : i = (j : Int)) (hd : ds[j]? = some d) : EvD K (tOp (rIx K) ta tb) σ H d := fun H1 e Q q =>
  ha H1 e _ fun v H2 e2 h2 => hb H2 (e.trans e2) _ fun H3 e3 => by
    cases b with
    | true =>
      cases h2 with
      | lst hs hall =>
        obtain ⟨w, h4, h5⟩ := atI_of (dpa_ex e3 hall) hi hd
        exact .inl ⟨_, _, i, w, rfl, rfl, ex_l e3 hs, h4, q w H3 (e2.trans e3) h5⟩
    | false =>
      cases h2 with
      | tup hs hall =>
        obtain ⟨w, h4, h5⟩ := atI_of (dpa_ex e3 hall) hi hd
        exact .inr (.inl ⟨_, _, i, w, rfl, rfl, ex_t e3 hs, h4, q w H3 (e2.trans e3) h5⟩)
theorem ev_lenSeq {b : Bool} {ds : List PyData} (ha : EvD K ta σ H (seqD b ds)) : Ev (tCB (rLenS K) (tCons ta tNil)) σ H (.int (ds.length : Int)) := by
  cases b with
  | true => exact ev_lenL ha
  | false => exact ev_lenD ha
/-- all(a list of bools) -/
theorem dpa_bools : ∀ {vs : List V} {bs : List Bool}, DpAll K H vs (bs.map PyData.bool) → vs = bs.map V.bl
  | [], [], _ => rfl
  | [], _ :: _, h => by cases h
  | _ :: _, [], h => by cases h
  | v :: vs, b :: bs, h => by
    cases h with
    | cons h1 h2 =>
      cases h1
      rw [dpa_bools h2, List.map_cons]
theorem ev_all {bs : List Bool} (h : EvD K tl σ H (.list (bs.map PyData.bool))) : Ev (tCB (rAll K) (tCons tl tNil)) σ H (.bl (bs.all id)) := fun H1 e Q q =>
  h H1 e _ fun v H2 e2 hd => by
    cases hd with
    | lst hs hall =>
      rw [dpa_bools hall] at hs
      exact ⟨_, bs, rfl, hs, q H2 e2⟩
/-- a < b < c -/
theorem ev_chain {r' : R2} {tc : TE} {b c : Bool} {d d' d2 : PyData} (ha : EvD K ta σ H d) (hb : EvD K tb σ H d') (hr : RD K r d d' H (.bl b)) (hc : b = true → EvD K tc σ H d2) (hr' : b = true → RD K r' d' d2 H (.bl c)) :
    Ev (tChain r r' ta tb tc) σ H (.bl (b && c)) := fun H1 e Q q =>
  ha H1 e _ fun x H2 e2 hx => hb H2 (e.trans e2) _ fun y H3 e3 hy => hr H3 ((e.trans e2).trans e3) x y (dp_ex e3 hx) hy _ ⟨b, rfl, by
    cases b with
    | true =>
      show tc σ H3 fun w' H4 => r' y w' H4 Q
      exact hc rfl H3 ((e.trans e2).trans e3) _ fun z H4 e4 hz => hr' rfl H4 (((e.trans e2).trans e3).trans e4) y z (dp_ex e4 hy) hz Q (q H4 ((e2.trans e3).trans e4))
    | false =>
      show Q (.bl false) H3
      exact q H3 (e2.trans e3)⟩
/-- a dict told by texts -/
theorem ev_dget {a : Addr} {kvs : List (Key × V)} {k : Key} {d : PyData} (ha : Ev ta σ H (.ref a)) (hd : H a = some (.dK kvs)) (hk : Ev tb σ H (kV k)) (hv : valV kvs k = some v) : Ev (tDGet ta tb) σ H v := fun H1 e Q q =>
  ha H1 e _ fun H2 e2 => hk H2 (e.trans e2) _ fun H3 e3 => ⟨a, v, rfl, by
    have g := DGet.k (k := k) (((e.trans e2).trans e3) a _ hd)
    rw [hv] at g
    exact g, q H3 (e2.trans e3)⟩
theorem ev_din {a : Addr} {kvs : List (Key × V)} {k : Key} {b : Bool} (hk : Ev tb σ H (kV k)) (ha : Ev ta σ H (.ref a)) (hd : H a = some (.dK kvs)) (hb : (valV kvs k).isSome = b) : Ev (tDIn tb ta) σ H (.bl b) := fun H1 e Q q =>
  hk H1 e _ fun H2 e2 => ha H2 (e.trans e2) _ fun H3 e3 => ⟨a, valV kvs k, rfl, DGet.k (((e.trans e2).trans e3) a _ hd), by
    rw [hb]
    exact q H3 (e2.trans e3)⟩
theorem ev_dnin {a : Addr} {kvs : List (Key × V)} {k : Key} {b : Bool} (hk : Ev tb σ H (kV k)) (ha : Ev ta σ H (.ref a)) (hd : H a = some (.dK kvs)) (hb : (valV kvs k).isSome = b) : Ev (tDNotIn tb ta) σ H (.bl (!b)) := fun H1 e Q q =>
  hk H1 e _ fun H2 e2 => ha H2 (e.trans e2) _ fun H3 e3 => ⟨a, valV kvs k, rfl, DGet.k (((e.trans e2).trans e3) a _ hd), by
    rw [hb]
    exact q H3 (e2.trans e3)⟩
/-- a promise that takes a datum and gives a value -/
theorem ev_callD {sp : Sp} {tr : TA} {E : XK} {ds : List PyData} (h : EvDs K tr σ H ds) (hs : ∀ H1 vs, Ex H H1 → DpAll K H1 vs ds → SpV sp (vs ++ []) H1 z) : Ev (tCall sp [] E tr) σ H z := fun H1 e Q q =>
  h H1 e _ fun vs H2 e2 ha => hs H2 vs (e.trans e2) ha H2 (Ex.refl H2) Q (fun H3 e3 => q H3 (e2.trans e3)) E
/-! ### comprehensions -/
def givenD (n : Nat) (f : Nat → Bool) (v : Nat → PyData) : List PyData := ((List.range n).filter f).map v
theorem givenD_yes {n : Nat} {f : Nat → Bool} {v : Nat → PyData} (h : f n = true) : givenD (n + 1) f v = givenD n f v ++ [v n] := by
  unfold givenD
  rw [List.range_succ, List.filter_append, List.map_append, List.filter_cons, if_pos h] <;> rfl
theorem givenD_no {n : Nat} {f : Nat → Bool} {v : Nat → PyData} (h : f n = false) : givenD (n + 1) f v = givenD n f v := by
  unfold givenD
  rw [List.range_succ, List.filter_append, List.map_append, List.filter_cons, if_neg (by rw [h]; decide)]
  show _ ++ [] = _
  rw [List.append_nil]
theorem givenD_len (n : Nat) (f : Nat → Bool) (v : Nat → PyData) : (givenD n f v).length ≤ n := by
  unfold givenD
  rw [List.length_map]
  have h := List.length_filter_le f (List.range n)
  rw [List.length_range] at h
  exact h
theorem dpa_snoc : ∀ {vs : List V} {ds : List PyData} {v : V} {d : PyData}, DpAll K H vs ds → Dp K H v d → DpAll K H (vs ++ [v]) (ds ++ [d])
  | _, _, _, _, .nil, h => .cons h .nil
  | _, _, _, _, .cons h t, h' => .cons h (dpa_snoc t h')
/-- the heap without one place -/
def but (H : Hp) (p : Addr) : Hp := fun b => if b = p then none else H b
theorem but_ex (H : Hp) (p : Addr) : Ex (but H p) H := fun b o h => by
  unfold but at h
  split at h
  · cases h
  · exact h
theorem but_same {p : Addr} : but H p p = none := by unfold but; rw [if_pos rfl]
theorem ex_but {p : Addr} (e : Ex H H') (h : H p = none) : Ex H (but H' p) := fun b o hb => by
  unfold but
  rw [if_neg (ne_of_none hb h)]
  exact e b o hb
theorem but_upd {p : Addr} {o : HO} (e : Ex H H') : Ex (but H p) (upd H' p o) := fun b u hb => by
  unfold but at hb
  split at hb
  · cases hb
  · rename_i hn
    rw [upd_ne hn]
    exact e b u hb
theorem but_mono {p : Addr} (e : Ex H H') : Ex (but H p) (but H' p) := fun b u hb => by
  unfold but at hb ⊢
  split at hb
  · cases hb
  · rename_i hn
    rw [if_neg hn]
    exact e b u hb
theorem but_put {p : Addr} {o : HO} : but (upd H p o) p = but H p := by
  funext b
  unfold but upd
  split <;> rfl
mutual
/-- no list, no dict in it -/
def noL : PyData → Bool
  | .list _ => false
  | .dict _ => false
  | .tuple xs => noLs xs
  | _ => true
def noLs : List PyData → Bool
  | [] => true
  | x :: xs => noL x && noLs xs
end
theorem sqt_but {p a : Addr} {xs ys : List V} (hp : H p = some (.lst ys)) (h : SqT K H a xs) : SqT K (but H p) a xs := by
  have ne : ∀ o, H a = some o → (∀ zs, o ≠ .lst zs) → a ≠ p := fun o e n z => by
    subst z
    rw [e] at hp
    exact n ys (Option.some.inj hp)
  rcases h with (h | ⟨o, h⟩) | h
  · refine .inl (.inl ?_)
    unfold but
    rw [if_neg (ne _ h fun zs z => nomatch z)]
    exact h
  · refine .inl (.inr ⟨o, ?_⟩)
    unfold but
    rw [if_neg (ne _ h fun zs z => nomatch z)]
    exact h
  · exact .inr h
mutual
theorem dp_but {p : Addr} {ys : List V} : ∀ {v : V} {d : PyData}, noL d = true → Dp K H v d → H p = some (.lst ys) → Dp K (but H p) v d
  | _, _, _, .non, _ => .non
  | _, _, _, .bl b, _ => .bl b
  | _, _, _, .int i, _ => .int i
  | _, _, _, .str x, _ => .str x
  | _, _, n, .lst hs ha, _ => nomatch n
  | _, _, n, .tup hs ha, hp => .tup (sqt_but hp hs) (dpa_but n ha hp)
theorem dpa_but {p : Addr} {ys : List V} : ∀ {vs : List V} {ds : List PyData}, noLs ds = true → DpAll K H vs ds → H p = some (.lst ys) → DpAll K (but H p) vs ds
  | _, _, _, .nil, _ => .nil
  | _, _, n, .cons h t, hp => .cons (dp_but (Bool.and_eq_true_iff.mp n).1 h hp) (dpa_but (Bool.and_eq_true_iff.mp n).2 t hp)
end
/-- the list being made stands at Dl; its items are data that don't lean on Dl -/
def Cd (K : PySem.W.Frag) (H : Hp) (f : Nat → Bool) (v : Nat → PyData) (Dl : Addr) (i : Nat) (H' : Hp) : Prop := H Dl = none ∧ Ex H H' ∧ ∃ xs, H' Dl = some (.lst xs) ∧ DpAll K (but H' Dl) xs (givenD i f v)
/-- evaluates, and what comes doesn't lean on a place that is not known yet -/
theorem cd_turn {f : Nat → Bool} {v : Nat → PyData} {Dl : Addr} {i : Nat} (p : Cd K H f v Dl i H') (hi : i < 50000) (ht : EvT t σ2 H (f i)) (he : f i = true → EvD K te σ2 H (v i)) (hf : f i = true → noL (v i) = true) :
    t σ2 H' fun b H3 => if b = true then te σ2 H3 fun y H4 => ∃ acc, H4 Dl = some (.lst acc) ∧ acc.length < sizeLine ∧ Cd K H f v Dl (i + 1) (upd H4 Dl (.lst (acc ++ [y]))) else Cd K H f v Dl (i + 1) H3 := by
  obtain ⟨p1, p2, xs, p3, p4⟩ := p
  refine ht H' p2 _ fun H3 e3 => ?_
  cases hfi : f i with
  | true =>
    show te σ2 H3 fun y H4 => ∃ acc, H4 Dl = some (.lst acc) ∧ acc.length < sizeLine ∧ Cd K H f v Dl (i + 1) (upd H4 Dl (.lst (acc ++ [y])))
    refine he hfi H3 (p2.trans e3) _ fun y H4 e4 hd => ⟨xs, e4 Dl _ (e3 Dl _ p3), sz_lt ?_, p1, Ex.mut ((p2.trans e3).trans e4) p1, xs ++ [y], upd_same, ?_⟩
    · rw [dpa_len p4]
      have := givenD_len i f v
      omega
    · rw [givenD_yes hfi, but_put]
      exact dpa_snoc (dpa_ex (but_mono (e3.trans e4)) p4) (dp_but (hf hfi) hd (e4 Dl _ (e3 Dl _ p3)))
  | false =>
    show Cd K H f v Dl (i + 1) H3
    refine ⟨p1, p2.trans e3, xs, e3 Dl _ p3, ?_⟩
    rw [givenD_no hfi]
    exact dpa_ex (but_mono e3) p4
end
end Vf
end
section
set_option Elab.async false
set_option linter.all false
set_option maxRecDepth 100000
set_option maxHeartbeats 2000000
namespace Vf
open PySem L2 Evl
section
variable {K : PySem.W.Frag} {σ σ2 : L2.St} {H H' : Hp} {ta tb te tx tl tk tv : TE} {t u : TT} {x y z v : V} {r : R2} {D : Ends} {tu tw tz : TS} {g : TG}
/-! ### comprehensions over a tuple, a list, a range, a text -/
/-- one turn's target: from what is drawn the slots σ2 come, the block's own ones alone changed -/
def GoesTo (g : TG) (x : V) (σ σ2 : L2.St) (H : Hp) : Prop := ∀ (R : L2.St → Hp → Prop) (H2 : Hp), Ex H H2 → R σ2 H2 → g x σ H2 R
theorem goes_name {i : Nat} : GoesTo (gName i) x σ (σ.set i (some x)) H := fun R H2 _ h => h
theorem goes_tup2 {i j : Nat} {a : Addr} (h : SqT K H a [x, y]) : GoesTo (gTup K 2 (gCons (gName i) (gCons (gName j) gNil))) (.ref a) σ ((σ.set i (some x)).set j (some y)) H := fun R H2 e q =>
  ⟨a, [x, y], rfl, ex_t e h, rfl, x, [y], rfl, y, [], rfl, rfl, q⟩
theorem goes_tup3 {i j k : Nat} {a : Addr} (h : SqT K H a [x, y, z]) : GoesTo (gTup K 3 (gCons (gName i) (gCons (gName j) (gCons (gName k) gNil)))) (.ref a) σ (((σ.set i (some x)).set j (some y)).set k (some z)) H := fun R H2 e q =>
  ⟨a, [x, y, z], rfl, ex_t e h, rfl, x, [y, z], rfl, y, [z], rfl, z, [], rfl, rfl, q⟩
theorem goes_tup4 {i j k l : Nat} {a : Addr} (h : SqT K H a [x, y, z, v]) : GoesTo (gTup K 4 (gCons (gName i) (gCons (gName j) (gCons (gName k) (gCons (gName l) gNil))))) (.ref a) σ ((((σ.set i (some x)).set j (some y)).set k (some z)).set l (some v)) H := fun R H2 e q =>
  ⟨a, [x, y, z, v], rfl, ex_t e h, rfl, x, [y, z, v], rfl, y, [z, v], rfl, z, [v], rfl, v, [], rfl, rfl, q⟩
variable {vs : List Nat}
theorem en_lcT {ds : List PyData} (f : Nat → Bool) (w : Nat → PyData) (h : EvD K tl σ H (.tuple ds)) (hz : ds.length ≤ 40000) (hn : ∀ i, f i = true → noL (w i) = true)
    (hg : ∀ (i : Nat) (x : V) (d : PyData) H1, Ex H H1 → ds[i]? = some d → Dp K H1 x d → ∃ σ2, wipe σ2 vs = wipe σ vs ∧ GoesTo g x (wipe σ vs) σ2 H1 ∧ EvT t σ2 H1 (f i) ∧ (f i = true → EvD K te σ2 H1 (w i))) :
    EvN K (tLc (iTup K tl) g t te vs) σ H (givenD ds.length f w) := fun H0 e Q q => h H0 e _ fun a0 H1 e1 hd => by
  cases hd with
  | @tup a xs _ hs hall =>
    refine ⟨a, rfl, ⟨xs, hs⟩, fun Dl hD => lc_tup (xs := xs) (Cd K H1 f w Dl) ⟨hD, Ex.new hD, [], upd_same, .nil⟩ (fun i H' _ p => ex_t p.2.1 hs) (fun i x H' hi p => ?_) (fun H' p => ?_)⟩
    · obtain ⟨d, hi2, hxd⟩ := dpa_get hall hi
      obtain ⟨σ2, w1, w2, w3, w4⟩ := hg i x d H1 (e.trans e1) hi2 hxd
      exact w2 _ H' p.2.1 ⟨w1, cd_turn p (by have := (List.getElem?_eq_some_iff.mp hi2).1; omega) w3 w4 (hn i)⟩
    · obtain ⟨p1, p2, ys, p3, p4⟩ := p
      rw [dpa_len hall] at p4
      exact q Dl ys H' (fresh_back e1 p1) (e1.trans p2) p3 (dpa_ex (but_ex _ _) p4)
theorem en_lcL {ds : List PyData} (f : Nat → Bool) (w : Nat → PyData) (h : EvD K tl σ H (.list ds)) (hz : ds.length ≤ 40000) (hn : ∀ i, f i = true → noL (w i) = true)
    (hg : ∀ (i : Nat) (x : V) (d : PyData) H1, Ex H H1 → ds[i]? = some d → Dp K H1 x d → ∃ σ2, wipe σ2 vs = wipe σ vs ∧ GoesTo g x (wipe σ vs) σ2 H1 ∧ EvT t σ2 H1 (f i) ∧ (f i = true → EvD K te σ2 H1 (w i))) :
    EvN K (tLc (iList K tl) g t te vs) σ H (givenD ds.length f w) := fun H0 e Q q => h H0 e _ fun a0 H1 e1 hd => by
  cases hd with
  | @lst a xs _ hs hall =>
    refine ⟨a, rfl, ⟨xs, hs⟩, fun Dl hD => lc_list (xs := xs) (Cd K H1 f w Dl) ⟨hD, Ex.new hD, [], upd_same, .nil⟩ (fun i H' _ p => ex_l p.2.1 hs) (fun i x H' hi p => ?_) (fun H' p => ?_)⟩
    · obtain ⟨d, hi2, hxd⟩ := dpa_get hall hi
      obtain ⟨σ2, w1, w2, w3, w4⟩ := hg i x d H1 (e.trans e1) hi2 hxd
      exact w2 _ H' p.2.1 ⟨w1, cd_turn p (by have := (List.getElem?_eq_some_iff.mp hi2).1; omega) w3 w4 (hn i)⟩
    · obtain ⟨p1, p2, ys, p3, p4⟩ := p
      rw [dpa_len hall] at p4
      exact q Dl ys H' (fresh_back e1 p1) (e1.trans p2) p3 (dpa_ex (but_ex _ _) p4)
theorem en_lcR {ta : TA} {n : Int} (m : Nat) (f : Nat → Bool) (w : Nat → PyData) (h : EvA ta σ H [.int n]) (hm : n.toNat = m) (hz : -40000 ≤ n ∧ n ≤ 40000) (hn : ∀ i, f i = true → noL (w i) = true)
    (hg : ∀ (i : Nat) H1, Ex H H1 → i < m → ∃ σ2, wipe σ2 vs = wipe σ vs ∧ GoesTo g (.int (i : Int)) (wipe σ vs) σ2 H1 ∧ EvT t σ2 H1 (f i) ∧ (f i = true → EvD K te σ2 H1 (w i))) :
    EvN K (tLc (iRng1 ta) g t te vs) σ H (givenD m f w) := fun H0 e Q q => h H0 e _ fun H1 e1 => ⟨n, rfl, by omega, by omega, fun Dl hD => by
  subst hm
  refine lc_range (lo := 0) (n := n.toNat) (Cd K H1 f w Dl) ⟨hD, Ex.new hD, [], upd_same, .nil⟩ (fun i H' hi p => ?_) (fun H' p => ?_)
  · rw [Int.zero_add]
    obtain ⟨σ2, w1, w2, w3, w4⟩ := hg i H1 (e.trans e1) hi
    exact w2 _ H' p.2.1 ⟨w1, cd_turn p (by omega) w3 w4 (hn i)⟩
  · obtain ⟨p1, p2, ys, p3, p4⟩ := p
    exact q Dl ys H' (fresh_back e1 p1) (e1.trans p2) p3 (dpa_ex (but_ex _ _) p4)⟩
theorem en_lcS {s : Str} (f : Nat → Bool) (w : Nat → PyData) (h : Ev tl σ H (.str s)) (hz : s.cps.size ≤ 40000) (hn : ∀ i, f i = true → noL (w i) = true)
    (hg : ∀ (i c : Nat) H1, Ex H H1 → s.cps[i]? = some c → ∃ σ2, wipe σ2 vs = wipe σ vs ∧ GoesTo g (.str ⟨#[c]⟩) (wipe σ vs) σ2 H1 ∧ EvT t σ2 H1 (f i) ∧ (f i = true → EvD K te σ2 H1 (w i))) :
    EvN K (tLc (iStr tl) g t te vs) σ H (givenD s.cps.size f w) := fun H0 e Q q => h H0 e _ fun H1 e1 => ⟨s, rfl, fun Dl hD => by
  refine ⟨fun i m H => m = s.cps.size - i ∧ i ≤ s.cps.size ∧ Cd K H1 f w Dl i H, ⟨s.cps.size, by simp, Nat.zero_le _, hD, Ex.new hD, [], upd_same, .nil⟩, ?_⟩
  rintro i m H2 ⟨rfl, hi, p⟩
  by_cases hlt : i < s.cps.size
  · refine .inr ⟨hlt, Cd K H1 f w Dl (i + 1), fun H' p' => ⟨s.cps.size - (i + 1), by omega, rfl, hlt, p'⟩, fun x H' y => ?_⟩
    obtain ⟨e2, c, hc, rfl⟩ := y
    subst e2
    obtain ⟨σ2, w1, w2, w3, w4⟩ := hg i c H1 (e.trans e1) hc
    exact w2 _ _ p.2.1 ⟨w1, cd_turn p (by omega) w3 w4 (hn i)⟩
  · have e3 : i = s.cps.size := by omega
    subst e3
    obtain ⟨p1, p2, ys, p3, p4⟩ := p
    exact .inl ⟨Nat.le_refl _, q Dl ys H2 (fresh_back e1 p1) (e1.trans p2) p3 (dpa_ex (but_ex _ _) p4)⟩⟩
/-! ### dict comprehensions over a tuple -/
/-- the pairs put, one after another -/
def putAll (n : Nat) (k : Nat → Key) (w : Nat → V) : List (Key × V) := (List.range n).foldl (fun acc i => putK acc (k i) (w i)) []
theorem putAll_succ {n : Nat} {k : Nat → Key} {w : Nat → V} : putAll (n + 1) k w = putK (putAll n k w) (k n) (w n) := by
  unfold putAll
  rw [List.range_succ, List.foldl_append]
  rfl
theorem putAll_len (k : Nat → Key) (w : Nat → V) : ∀ n, (putAll n k w).length ≤ n
  | 0 => Nat.le_refl _
  | n + 1 => by
    rw [putAll_succ]
    have h1 := length_putK (putAll n k w) (k n) (w n)
    have h2 := putAll_len k w n
    omega
/-- a new dict -/
def EvK (te : TE) (σ : L2.St) (H : Hp) (kvs : List (Key × V)) : Prop := ∀ H1, Ex H H1 → ∀ Q : VK, (∀ p H2, H1 p = none → Ex H1 H2 → H2 p = some (.dK kvs) → Q (.ref p) H2) → te σ H1 Q
theorem ek_dcT {ds : List PyData} (k : Nat → Key) (w : Nat → V) (h : EvD K tl σ H (.tuple ds)) (hz : ds.length ≤ 40000)
    (hg : ∀ (i : Nat) (x : V) (d : PyData) H1, Ex H H1 → ds[i]? = some d → Dp K H1 x d → ∃ σ2, wipe σ2 vs = wipe σ vs ∧ GoesTo g x (wipe σ vs) σ2 H1 ∧ EvT t σ2 H1 true ∧ Ev tk σ2 H1 (kV (k i)) ∧ Ev tv σ2 H1 (w i)) :
    EvK (tDc (iTup K tl) g t tk tv vs) σ H (putAll ds.length k w) := fun H0 e Q q => h H0 e _ fun a0 H1 e1 hd => by
  cases hd with
  | @tup a xs _ hs hall =>
    refine ⟨a, rfl, ⟨xs, hs⟩, fun Dl hD => ?_⟩
    refine ⟨fun i m H => m = xs.length - i ∧ i ≤ xs.length ∧ Ex H1 H ∧ H Dl = some (.dK (putAll i k w)), ⟨xs.length, by simp, Nat.zero_le _, Ex.new hD, upd_same⟩, ?_⟩
    rintro i m H2 ⟨rfl, hi, p1, p2⟩
    by_cases hlt : i < xs.length
    · refine .inr ⟨⟨xs, xs[i], ex_t p1 hs, by simp [hlt]⟩, fun H' => Ex H1 H' ∧ H' Dl = some (.dK (putAll (i + 1) k w)), fun H' p' => ⟨xs.length - (i + 1), by omega, rfl, hlt, p'.1, p'.2⟩, fun x H' y => ?_⟩
      obtain ⟨e2, y⟩ := y
      subst e2
      have hx : xs[i]? = some x := y xs (ex_t p1 hs)
      obtain ⟨d, hi2, hxd⟩ := dpa_get hall hx
      obtain ⟨σ2, w1, w2, w3, w4, w5⟩ := hg i x d H1 (e.trans e1) hi2 hxd
      refine w2 _ _ p1 ⟨w1, w3 _ p1 _ fun H3 e3 => ?_⟩
      show tk σ2 H3 _
      refine w4 H3 (p1.trans e3) _ fun H4 e4 => w5 H4 ((p1.trans e3).trans e4) _ fun H5 e5 => ⟨putAll i k w, k i, rfl, e5 _ _ (e4 _ _ (e3 _ _ p2)), sz_lt ?_, Ex.mut (((p1.trans e3).trans e4).trans e5) hD, ?_⟩
      · have h1 := putAll_len k w i
        have h2 := dpa_len hall
        omega
      · rw [putAll_succ]
        exact upd_same
    · have e3 : i = xs.length := by omega
      subst e3
      rw [dpa_len hall] at p2
      exact .inl ⟨⟨xs, ex_t p1 hs, Nat.le_refl _⟩, q Dl H2 (fresh_back e1 hD) (e1.trans p1) p2⟩
/-! ### statements -/
theorem q_asgD {i : Nat} {d : PyData} (h : EvD K te σ H d) (k : ∀ v H1, Ex H H1 → Dp K H1 v d → tz D (σ.set i (some v)) H1) : tSeq (tAsg te (gName i)) tz D σ H := h H (Ex.refl H) _ fun v H1 e hd => k v H1 e hd
theorem q_asgK {i : Nat} {kvs : List (Key × V)} (h : EvK te σ H kvs) (k : ∀ p H1, H p = none → Ex H H1 → H1 p = some (.dK kvs) → tz D (σ.set i (some (.ref p))) H1) : tSeq (tAsg te (gName i)) tz D σ H := h H (Ex.refl H) _ fun p H1 hp e hd => k p H1 hp e hd
theorem q_asgN {i : Nat} {ds : List PyData} (h : EvN K te σ H ds) (k : ∀ p xs H1, H p = none → Ex H H1 → H1 p = some (.lst xs) → DpAll K H1 xs ds → tz D (σ.set i (some (.ref p))) H1) : tSeq (tAsg te (gName i)) tz D σ H := h H (Ex.refl H) _ fun p xs H1 hp e hd ha => k p xs H1 hp e hd ha
theorem q_unp3 {i j l : Nat} {d1 d2 d3 : PyData} (h : EvD K te σ H (.tuple [d1, d2, d3])) (k : ∀ v1 v2 v3 H1, Ex H H1 → Dp K H1 v1 d1 → Dp K H1 v2 d2 → Dp K H1 v3 d3 → tz D (((σ.set i (some v1)).set j (some v2)).set l (some v3)) H1) :
    tSeq (tAsg te (gTup K 3 (gCons (gName i) (gCons (gName j) (gCons (gName l) gNil))))) tz D σ H := h H (Ex.refl H) _ fun v H1 e hd => by
  cases hd with
  | tup hs ha =>
    cases ha with
    | cons h1 ha => cases ha with
      | cons h2 ha => cases ha with
        | cons h3 ha => cases ha; exact goes_tup3 hs _ H1 (Ex.refl H1) (k _ _ _ H1 e h1 h2 h3)
theorem q_unp4 {i j l m : Nat} {d1 d2 d3 d4 : PyData} (h : EvD K te σ H (.tuple [d1, d2, d3, d4])) (k : ∀ v1 v2 v3 v4 H1, Ex H H1 → Dp K H1 v1 d1 → Dp K H1 v2 d2 → Dp K H1 v3 d3 → Dp K H1 v4 d4 → tz D ((((σ.set i (some v1)).set j (some v2)).set l (some v3)).set m (some v4)) H1) :
    tSeq (tAsg te (gTup K 4 (gCons (gName i) (gCons (gName j) (gCons (gName l) (gCons (gName m) gNil)))))) tz D σ H := h H (Ex.refl H) _ fun v H1 e hd => by
  cases hd with
  | tup hs ha =>
    cases ha with
    | cons h1 ha => cases ha with
      | cons h2 ha => cases ha with
        | cons h3 ha => cases ha with
          | cons h4 ha => cases ha; exact goes_tup4 hs _ H1 (Ex.refl H1) (k _ _ _ _ H1 e h1 h2 h3 h4)
/-- d[k] = v -/
theorem s_dput {a : Addr} {kvs : List (Key × V)} {k : Key} (hd : H a = some (.dK kvs)) (hv : Ev tv σ H v) (ha : Ev ta σ H (.ref a)) (hk : Ev tk σ H (kV k)) (hl : kvs.length < 100000)
    (q : ∀ H1, Ex H H1 → D.nx σ (upd H1 a (.dK (putK kvs k v)))) : sDPut ta tk tv D σ H := hv H (Ex.refl H) _ fun H1 e1 => ha H1 e1 _ fun H2 e2 => hk H2 (e1.trans e2) _ fun H3 e3 =>
  ⟨a, _, rfl, DPut.k (((e1.trans e2).trans e3) a _ hd) (sz_lt hl), q H3 ((e1.trans e2).trans e3)⟩
theorem q_dput {a : Addr} {kvs : List (Key × V)} {k : Key} (hd : H a = some (.dK kvs)) (hv : Ev tv σ H v) (ha : Ev ta σ H (.ref a)) (hk : Ev tk σ H (kV k)) (hl : kvs.length < 100000)
    (q : ∀ H1, Ex H H1 → tz D σ (upd H1 a (.dK (putK kvs k v)))) : tSeq (sDPut ta tk tv) tz D σ H := s_dput (D := { D with nx := tz D }) hd hv ha hk hl q
/-- t[:2], xs[a:b] of a tuple -/
theorem ed_slT {lo hi : Option Int} {to th : TO} {ds : List PyData} (h : EvD K te σ H (.tuple ds)) (h1 : EvO to σ H lo) (h2 : EvO th σ H hi) (hn : ¬ (HT.sIx ds.length 0 lo = 0 ∧ HT.sIx ds.length ds.length hi = ds.length)) :
    EvD K (tSl (rSlT K) te to th) σ H (.tuple ((ds.drop (HT.sIx ds.length 0 lo)).take (HT.sIx ds.length ds.length hi - HT.sIx ds.length 0 lo))) := fun H0 e Q q => h H0 e _ fun v H1 e1 hd => by
  cases hd with
  | @tup a xs _ hs ha =>
    have el := dpa_len ha
    refine h1 H1 (e.trans e1) _ fun H2 e2 => h2 H2 ((e.trans e1).trans e2) _ fun H3 e3 => ⟨a, xs, rfl, ex_t (e2.trans e3) hs, by rw [el]; exact hn, fun p hp => ?_⟩
    refine q (.ref p) _ (((e1.trans e2).trans e3).trans (Ex.new hp)) (.tup (st_of upd_same) ?_)
    unfold cutV
    rw [el]
    have cut : ∀ {H : Hp} {vs : List V} {ds : List PyData}, DpAll K H vs ds → ∀ i j, DpAll K H ((vs.drop i).take j) ((ds.drop i).take j) := by
      intro H vs ds h
      have dr : ∀ (i : Nat) {vs : List V} {ds : List PyData}, DpAll K H vs ds → DpAll K H (vs.drop i) (ds.drop i) := by
        intro i
        induction i with
        | zero => exact fun h => h
        | succ i ih =>
          intro vs ds h
          cases h with
          | nil => exact .nil
          | cons _ t => exact ih t
      have tk : ∀ (j : Nat) {vs : List V} {ds : List PyData}, DpAll K H vs ds → DpAll K H (vs.take j) (ds.take j) := by
        intro j
        induction j with
        | zero => exact fun _ => .nil
        | succ j ih =>
          intro vs ds h
          cases h with
          | nil => exact .nil
          | cons a t => exact .cons a (ih t)
      exact fun i j => tk j (dr i h)
    exact cut (dpa_ex (((e2.trans e3)).trans (Ex.new hp)) ha) _ _
end
/-! ### the rules with the written part named -/
section
variable {X : Cx} {K : PySem.W.Frag}
theorem ix_seqK (h : X.K = K) : IxR X (rIx K) := h ▸ ix_seq
theorem ix_tupK (h : X.K = K) : IxR X (rIxT K) := h ▸ ix_tup
theorem ix_listK (h : X.K = K) : IxR X (rIxL K) := h ▸ ix_list
theorem op_ltDK (h : X.K = K) (hu : X.A.units + 64 < cLine) : OpR X (compareOp .Lt) (rLtD K) := h ▸ op_ltD hu
theorem op_eqDK (h : X.K = K) (hu : X.A.units + 64 < cLine) : OpR X (compareOp .Eq) (rEqD K) := h ▸ op_eqD hu
theorem op_neDK (h : X.K = K) (hu : X.A.units + 64 < cLine) : OpR X (compareOp .NotEq) (rNeD K) := h ▸ op_neD hu
theorem op_in_seqK (h : X.K = K) : OpR X (compareOp .In) (rIn K false) := h ▸ op_in_seq
theorem op_notIn_seqK (h : X.K = K) : OpR X (compareOp .NotIn) (rIn K true) := h ▸ op_notIn_seq
theorem sl_tupK (h : X.K = K) : SlR X (rSlT K) := h ▸ sl_tup
theorem sl_listK (h : X.K = K) : SlR X (rSlL K) := h ▸ sl_list
theorem call_isiK' (h : X.K = K) : CallR X (.builtin "isinstance") (rIsi K) := h ▸ call_isi
theorem call_isiTK (h : X.K = K) : CallR X (.builtin "isinstance") (rIsiT K) := h ▸ call_isiT
theorem call_len_seqK (h : X.K = K) : CallR X (.builtin "len") (rLenS K) := h ▸ call_len_seq
theorem cr_allK (h : X.K = K) (hc : X.calm = true) : CallR X (.builtin "all") (rAll K) := h ▸ cr_all hc
theorem pg_tupK (h : X.K = K) {es : List Expr} {k : Nat} {t : TGs} {n : Nat} {pos : Pos} (hc : X.calm = true) (hg : PGs X es t)
    (hn : (assignEach es X.env).length = n := by rfl) (hst : (assignEach es X.env).findIdx? (·.1) = none := by rfl) : PG X (.Tuple es k pos) (gTup K n t) := h ▸ pg_tup hc hg hn hst
theorem pi_tupK (h : X.K = K) {tg l : Expr} {tl : TE} (hl : PE X l tl) : PI X tg l (iTup K tl) := h ▸ pi_tup hl
theorem pi_listK (h : X.K = K) {tg l : Expr} {tl : TE} (hl : PE X l tl) : PI X tg l (iList K tl) := h ▸ pi_list hl
end
/-! ### more operations on data -/
section
variable {K : PySem.W.Frag} {H : Hp}
theorem dec_vint (a b : Int) : decide (V.int a = V.int b) = decide (a = b) := by
  by_cases h : a = b
  · subst h; simp
  · rw [decide_eq_false h]; exact decide_eq_false fun z => h (V.int.inj z)
theorem rd_eqI {a b : Int} : RD K rEq (.int a) (.int b) H (.bl (decide (a = b))) := fun H1 _ x y hx hy Q q => by
  cases hx
  cases hy
  refine ⟨rfl, ?_⟩
  rw [dec_vint]
  exact q
theorem rd_neI {a b : Int} : RD K rNe (.int a) (.int b) H (.bl (!decide (a = b))) := fun H1 _ x y hx hy Q q => by
  cases hx
  cases hy
  refine ⟨rfl, ?_⟩
  rw [dec_vint]
  exact q
def rLeStr : R2 := fun x y H Q => ∃ i j, x = .str i ∧ y = .str j ∧ Q (.bl (!decide (j.cps.toList < i.cps.toList))) H
theorem op_leStr {X : Cx} : OpR X (compareOp .LtE) rLeStr := op_le_str
theorem rd_leS {a b : Str} : RD K rLeStr (.str a) (.str b) H (.bl (!decide (b.cps.toList < a.cps.toList))) := fun H1 _ x y hx hy Q q => by
  cases hx
  cases hy
  exact ⟨a, b, rfl, rfl, q⟩
theorem getD_of {ds : List PyData} {i : Nat} {d : PyData} (h : ds[i]? = some d) : ds.getD i .none = d := by
  rw [List.getD_eq_getElem?_getD, h]
  rfl
end
/-! ### y = {k: v for ..} on one line, y a local that no block reads -/
section
variable {X : Cx}
/-- what holds in each block of the comprehension -/
abbrev InBlk (X : Cx) (scope : Scope) (p : Cx → Prop) : Prop := ∀ (s : Shared) (H : Hp) (C : Addr) (cl : List (Str × Addr)) (fp : List Addr), p (X.blk s H scope (compEnvC scope cl C X.env) fp)
theorem ps_setDc {i : Nat} {y : Str} {py pos spos : Pos} {kx vx tg iter : Expr} {ifs : List Expr} {scope : Scope} {own : List (Str × Nat)} {wi : TI} {g : TG} {tt : TT} {tk tv : TE} (hc : X.calm = true) (hN : X.N.Nodup)
    (hy : X.N[i]? = some y) (hyl : X.env.scope.names.lookup y = some .local) (hsw : swapsWith (.DictComp kx vx [⟨tg, iter, ifs, 0⟩] scope pos) (some (.Name y py)) spos.line X.env = pure true)
    (hi : PI X tg iter wi) (ok : BlkOk X.N X.env.scope scope own) (hg : InBlk X scope fun B => PG B tg g) (ht : InBlk X scope fun B => PTs B ifs tt) (hk : InBlk X scope fun B => PE B kx tk) (he : InBlk X scope fun B => PE B vx tv)
    (hs : ∀ x, foldedSetIterable iter X.env x = pure x := by intro _; rfl) : PS X (.Assign [.Name y py] (.DictComp kx vx [⟨tg, iter, ifs, 0⟩] scope pos) spos) (tAsg (tDc wi g tt tk tv (own.map (·.2))) (gName i)) := by
  refine ⟨fun pins s σ H D I h => ?_⟩
  rw [exec_Assign_Name_used _ _ _ _ hsw]
  refine wpAny_bind (wpAny_standAt (wpAny_bind ?_))
  have h2 : tDc wi g tt tk tv (own.map (·.2)) σ H (fun x H1 => gName i x σ H1 D.nx) := h
  show wpAny _ X.A (do let _ ← comprehension (.DictComp kx vx [⟨tg, iter, ifs, 0⟩] scope pos) scope X.env (firstIterPos [⟨tg, iter, ifs, 0⟩] pos) newDict false (eval iter X.env) (some (assign (.Name y py) X.env))) _ _ s
  refine wpAny_bind (thn (dc_core (Qf := fun _ s' => SP X pins D .next s') hc hN I hi ok hg ht hk he hs h2 fun L C s' m H' I' q hn fo => ?_) fun _ s' hq => wpAny_pure (wpAny_pure hq))
  show wpAny _ _ (assign (.Name y py) X.env (.ref L)) _ _ _
  refine wpAny_assign_Name (store_ok2 (v := V.ref L) I' hN hy (.inl hyl) rfl (fun s2 I2 ⟨a, sb, ha⟩ => ?_) (.inr hyl))
  have hCa : C ≠ a := by
    cases ha with
    | inl z => exact fun e => fo.2.1 (e.trans z)
    | inr z => exact fun e => fo.2.2.2.2.1 y a z e.symm
  refine ⟨m, hn.sameBut sb hCa, fun h3 sb3 => ⟨_, H', ?_, q⟩⟩
  exact I2.turned (t' := s2.toks) (fun b o hb e => (sb3.2 b hb).trans e) fo.1 fo.2.1 fo.2.2.2.1 fo.2.2.2.2.1 fo.2.2.2.2.2
theorem sw_dc {kx vx : Expr} {gs : List Comprehension} {scope : Scope} {pos py : Pos} {y : Str} {l : Nat} {env : Env} (h1 : env.scope.kind = .function) (h2 : env.scope.names.lookup y = some .local) (h3 : (py.line == pos.line) = true)
    (h4 : (scope.names.any fun (n, k) => n == y && (k == .local || k == .cell)) = false) : swapsWith (.DictComp kx vx gs scope pos) (some (.Name y py)) l env = pure true := by
  have e1 : env.kindOf y = some .local := h2
  have e2 : env.blockKind = .function := by unfold Env.blockKind; rw [h1]; rfl
  unfold swapsWith
  simp only [e2, e1, h4, Expr.pos, h3]
  rfl
end
/-! ### the first look at a tuple of n -/
section
variable {K : PySem.W.Frag} {σ : L2.St} {H : Hp} {te : TE} {v : V} {d : PyData}
def isTupN (n : Nat) : PyData → Bool | .tuple ds => decide (ds.length = n) | _ => false
theorem et_tupN {n : Nat} {i : Int} (hi : i = (n : Int)) (hv : Ev te σ H v) (hd : Dp K H v d) : EvT (tOr (tNot (tB (tCB (rIsi K) (tCons te (tCons (tC (.ty "tuple")) tNil))))) (tTest (tOp rNe (tCB (rLenS K) (tCons te tNil)) (tC (.int i))))) σ H (!isTupN n d) := by
  have h1 := et_not (et_B (ev_isi (n := "tuple") okT_tuple hv hd))
  rw [isT_tuple] at h1
  cases d with
  | tuple ds =>
    refine et_is (et_or h1 fun _ => et_test (ev_opD (K := K) (ed_of (ev_lenD (ed_of hv hd)) (.int _)) (ed_of ev_c (.int i)) rd_neI)) ?_
    show (!true || !decide ((ds.length : Int) = i)) = !decide (ds.length = n)
    subst hi
    by_cases h : ds.length = n
    · subst h; simp
    · have h' : ¬ ((ds.length : Int) = (n : Int)) := by omega
      rw [decide_eq_false h, decide_eq_false h']
      rfl
  | _ => exact et_is (et_or (b := true) h1 fun z => nomatch z) rfl
theorem isTupN_3 {d : PyData} (h : isTupN 3 d = true) : ∃ x y z, d = .tuple [x, y, z] := by
  cases d <;> first | (cases h; done) | skip
  rename_i ds
  match ds, h with
  | [x, y, z], _ => exact ⟨x, y, z, rfl⟩
theorem isTupN_4 {d : PyData} (h : isTupN 4 d = true) : ∃ x y z u, d = .tuple [x, y, z, u] := by
  cases d <;> first | (cases h; done) | skip
  rename_i ds
  match ds, h with
  | [x, y, z, u], _ => exact ⟨x, y, z, u, rfl⟩
end
/-! ### dicts, locked or not; a walk over a dict's keys -/
section
variable {K : PySem.W.Frag} {σ : L2.St} {H H' : Hp} {ta tb td : TE} {v : V} {D : Ends} {g : TG} {tu : TS}
theorem ev_dgetR {a : Addr} {kvs : List (Key × V)} {k : Key} (ha : Ev ta σ H (.ref a)) (hd : Rd H a (.dK kvs)) (hk : Ev tb σ H (kV k)) (hv : valV kvs k = some v) : Ev (tDGet ta tb) σ H v := fun H1 e Q q =>
  ha H1 e _ fun H2 e2 => hk H2 (e.trans e2) _ fun H3 e3 => ⟨a, v, rfl, .inl ⟨kvs, k, ex_rd ((e.trans e2).trans e3) hd, rfl, hv.symm⟩, q H3 (e2.trans e3)⟩
theorem ev_dinR {a : Addr} {kvs : List (Key × V)} {k : Key} {b : Bool} (hk : Ev tb σ H (kV k)) (ha : Ev ta σ H (.ref a)) (hd : Rd H a (.dK kvs)) (hb : (valV kvs k).isSome = b) : Ev (tDIn tb ta) σ H (.bl b) := fun H1 e Q q =>
  hk H1 e _ fun H2 e2 => ha H2 (e.trans e2) _ fun H3 e3 => ⟨a, valV kvs k, rfl, .inl ⟨kvs, k, ex_rd ((e.trans e2).trans e3) hd, rfl, rfl⟩, by
    rw [hb]
    exact q H3 (e2.trans e3)⟩
theorem s_forKeys {d : Addr} {o : Obj} {kvs : List (Key × V)} (h : Ev td σ H (.ref d)) (hd : H d = some (.frz o (.dK kvs))) (Pv : Nat → L2.St → Hp → Prop) (h0 : ∀ H1, Ex H H1 → Pv 0 σ H1) (hl : ∀ i σ' H', Pv i σ' H' → H' d = some (.frz o (.dK kvs)))
    (hs : ∀ i k v σ' H', kvs[i]? = some (k, v) → Pv i σ' H' → g (kV k) σ' H' fun σ2 H2 => tu { D with nx := Pv (i + 1), ct := Pv (i + 1), bk := D.nx } σ2 H2) (he : ∀ σ' H', Pv kvs.length σ' H' → D.nx σ' H') : tFor (iKeys td) g tu D σ H :=
  h H (Ex.refl H) _ fun H1 e => ⟨d, o, rfl, .inl ⟨kvs, e _ _ hd, fun i m σ' H' => m = kvs.length - i ∧ i ≤ kvs.length ∧ Pv i σ' H', ⟨kvs.length, rfl, Nat.zero_le _, h0 H1 e⟩, by
    rintro i m σ' H' ⟨rfl, hi, p⟩
    have q := hl i σ' H' p
    by_cases hlt : i < kvs.length
    · refine .inr ⟨⟨q, hlt⟩, Pv (i + 1), fun σ2 H2 p2 => ⟨kvs.length - (i + 1), by omega, rfl, hlt, p2⟩, fun x H2 y => ?_⟩
      obtain ⟨e2, k, w, hk, rfl⟩ := y
      subst e2
      exact hs i k w σ' _ hk p
    · have e2 : i = kvs.length := by omega
      subst e2
      exact .inl ⟨⟨q, Nat.le_refl _⟩, he σ' H' p⟩⟩⟩
end
end Vf
end
section
set_option Elab.async false
set_option linter.all false
set_option maxRecDepth 100000
set_option maxHeartbeats 4000000
namespace Vf
open PySem PySem.Spec PyProof.Rows L2 Evl
/-! ### the text by places -/
def topS (i : Nat) : Stmt := PySem.Challenge.pw_startnow_k02_ours_and_broken_bounds.main.body.getD i (.Pass ⟨0, 0, 0, 0⟩)
/-- what the module's names hold that no def is -/
structure Txt (mg : Str → Option Value) (tg : Tok) : Prop where
  GO : mg "GO" = some (.str "go" tg)
  len : mg "len" = none
  isinstance : mg "isinstance" = none
  all : mg "all" = none
  range : mg "range" = none
  zip : mg "zip" = none
  int : mg "int" = none
  bool : mg "bool" = none
  str : mg "str" = none
  tuple : mg "tuple" = none
  list : mg "list" = none
  abs : mg "abs" = none
  max : mg "max" = none
  min : mg "min" = none
  sorted : mg "sorted" = none
  dict : mg "dict" = none
/-! ### the mathematics: what the program says of data -/
def isInt : PyData → Bool | .int _ => true | _ => false
def isMom : PyData → Bool | .int i => decide (0 ≤ i) | _ => false
def isPlace (es : List Str) : PyData → Bool | .str x => decide (x = "go") || decide (x ∈ es) | _ => false
def ascD : List PyData → Bool
  | a :: b :: r => PySem.W.dataLt a b && ascD (b :: r)
  | _ => true
def letters (x : Str) : Bool := x.cps.toList.all fun c => decide (97 ≤ c) && decide (c ≤ 122)
def isName : PyData → Bool
  | .str x => !decide (x = "go") && ((decide (1 ≤ (x.length : Int)) && decide ((x.length : Int) ≤ 8)) && letters x)
  | _ => false
def isEvents : PyData → Bool | .tuple ds => ds.all isName && ascD ds | _ => false
theorem asc_eq : ∀ ds : List PyData, (((List.range (ds.length - 1)).map fun i => PySem.W.dataLt (ds.getD i .none) (ds.getD (i + 1) .none)).all id) = ascD ds
  | [] => rfl
  | [_] => rfl
  | a :: b :: r => by
    have ih := asc_eq (b :: r)
    show (((List.range (r.length + 1)).map fun i => PySem.W.dataLt ((a :: b :: r).getD i .none) ((a :: b :: r).getD (i + 1) .none)).all id) = (PySem.W.dataLt a b && ascD (b :: r))
    rw [List.range_succ_eq_map, List.map_cons, List.all_cons, List.map_map, ← ih]
    rfl
theorem givenD_bools (n : Nat) (b : Nat → Bool) : givenD n (fun _ => true) (fun i => .bool (b i)) = ((List.range n).map b).map PyData.bool := by
  unfold givenD
  rw [List.filter_eq_self.mpr (fun _ _ => rfl), List.map_map]
  rfl
theorem givenD_all (ds : List PyData) (f : PyData → Bool) : givenD ds.length (fun _ => true) (fun i => .bool (f (ds.getD i .none))) = (ds.map f).map PyData.bool := by
  rw [givenD_bools]
  congr 1
  refine List.ext_getElem (by simp) fun i h1 h2 => ?_
  have h3 : i < ds.length := by simpa using h2
  simp [List.getD, h3]
theorem all_id (ds : List PyData) (f : PyData → Bool) : (ds.map f).all id = ds.all f := by
  rw [List.all_map]
  rfl
/-- what `ascends` asks of its rows -/
def AscOk (ds : List PyData) : Prop := ds.length ≤ 30000 ∧ ∀ x ∈ ds, ∀ y ∈ ds, PySem.W.alike x y = true ∧ x ≠ .none ∧ x.depth ≤ 64
/-- the texts of names -/
def Knows (K : PySem.W.Frag) (H : Hp) (v : V) (es : List Str) : Prop := ∃ a, v = .ref a ∧ ((∃ kvs, H a = some (.dK kvs) ∧ ∀ x : Str, (valV kvs (.inr x)).isSome = decide (x ∈ es)) ∨ SqT K H a (es.map V.str))
theorem knows_ex {K : PySem.W.Frag} {H H' : Hp} {v : V} {es : List Str} (e : Ex H H') (h : Knows K H v es) : Knows K H' v es := by
  obtain ⟨a, rfl, h⟩ := h
  refine ⟨a, rfl, ?_⟩
  rcases h with ⟨kvs, h1, h2⟩ | h
  · exact .inl ⟨kvs, e _ _ h1, h2⟩
  · exact .inr (ex_t e h)
theorem inV_strs (x : Str) : ∀ es : List Str, inV (.str x) (es.map V.str) = decide (x ∈ es)
  | [] => rfl
  | y :: r => by
    have ih := inV_strs x r
    unfold inV at ih ⊢
    rw [List.map_cons, List.any_cons, ih]
    have e1 : eqV (.str y) (.str x) = decide (y = x) := by
      show (y == x) = decide (y = x)
      by_cases h : y = x
      · subst h; simp
      · rw [decide_eq_false h]; exact beq_eq_false_iff_ne.mpr h
    rw [e1]
    by_cases h : y = x
    · subst h; simp
    · have h' : ¬ x = y := fun z => h z.symm
      by_cases h2 : x ∈ r <;> simp [h, h', h2]
theorem flat_strs : ∀ es : List Str, (es.map V.str).all flatV = true
  | [] => rfl
  | _ :: r => by rw [List.map_cons, List.all_cons, flat_strs r]; rfl
/-! ### promises -/
abbrev D1 (K : PySem.W.Frag) (ok : PyData → Prop) (f : PyData → Bool) : Sp := fun vs H Q _ => ∃ v d, vs = [v] ∧ Dp K H v d ∧ ok d ∧ RetV (.bl (f d)) H Q
abbrev D2 (K : PySem.W.Frag) (ok : List Str → PyData → Prop) (f : List Str → PyData → Bool) : Sp := fun vs H Q _ => ∃ u v es d, vs = [u, v] ∧ Knows K H u es ∧ Dp K H v d ∧ ok es d ∧ RetV (.bl (f es d)) H Q
abbrev spAsc (K : PySem.W.Frag) : Sp := fun vs H Q _ => ∃ v b ds, vs = [v] ∧ Dp K H v (seqD b ds) ∧ AscOk ds ∧ RetV (.bl (ascD ds)) H Q
theorem spv1 {K : PySem.W.Frag} {ok : PyData → Prop} {f : PyData → Bool} {v : V} {d : PyData} {H : Hp} (h : Dp K H v d) (hk : ok d) : SpV (D1 K ok f) [v] H (.bl (f d)) := fun H1 e Q q E => ⟨v, d, rfl, dp_ex e h, hk, q⟩
theorem spv2 {K : PySem.W.Frag} {ok : List Str → PyData → Prop} {f : List Str → PyData → Bool} {u v : V} {es : List Str} {d : PyData} {H : Hp} (hu : Knows K H u es) (h : Dp K H v d) (hk : ok es d) : SpV (D2 K ok f) [u, v] H (.bl (f es d)) := fun H1 e Q q E => ⟨u, v, es, d, rfl, knows_ex e hu, dp_ex e h, hk, q⟩
theorem spvA {K : PySem.W.Frag} {v : V} {b : Bool} {ds : List PyData} {H : Hp} (h : Dp K H v (seqD b ds)) (hk : AscOk ds) : SpV (spAsc K) [v] H (.bl (ascD ds)) := fun H1 e Q q E => ⟨v, b, ds, rfl, dp_ex e h, hk, q⟩
abbrev any : PyData → Prop := fun _ => True
abbrev any2 : List Str → PyData → Prop := fun _ _ => True
section
variable {P : Program} {w : World} {K : PySem.W.Frag} {mg : Str → Option Value} {base : Heap} {tg : Tok} {f : Addr} {fd : FuncData}
/-! ### is_integer, is_moment, is_place -/
abbrev s_is_integer : Stmt := topS 6
theorem sc_is_integer : FnScope ["value"] ["value"] (defScope s_is_integer) := ⟨rfl, rfl, rfl, by decide +kernel, rfl, by decide +kernel, by decide +kernel⟩
theorem ok_is_integer (F : Fun K "is_integer" "is_integer" s_is_integer f fd) (T : Txt mg tg) : FnOk P w K mg base CX0 1 f fd ["value"] (D1 K any isInt) := by
  refine F.ok sc_is_integer (fun vs H Q E h => ?_) (fun cdv A outer s H vs Q E hr h => ?_)
  · obtain ⟨v, d, rfl, _⟩ := h
    rfl
  · obtain ⟨v, d, rfl, hd, _, q⟩ := h
    refine ⟨_, (pss_one (ps_ret (pe_and (pe_callB (call_isiK' (K := K) rfl) (by rfl) T.isinstance (by decide +kernel) (pa_cons (pv 0) (pa_cons (pe_bltn (v := .ty "int") (u := .type "int") (by rfl) T.int (by decide +kernel) rfl) pa_nil))) (pe_one (pe_not (pe_callB (call_isiK' (K := K) rfl) (by rfl) T.isinstance (by decide +kernel) (pa_cons (pv 0) (pa_cons (pe_bltn (v := .ty "bool") (u := .type "bool") (by rfl) T.bool (by decide +kernel) rfl) pa_nil)))))))), ?_⟩
    refine s_ret (ev_is (ev_andV (ev_isi okT_int (ev_var rfl) hd) fun _ => ev_notV (ev_isi okT_bool (ev_var rfl) hd)) ?_) q
    rw [isT_int, isT_bool]
    cases d <;> rfl
abbrev s_is_moment : Stmt := topS 7
theorem sc_is_moment : FnScope ["value"] ["value"] (defScope s_is_moment) := ⟨rfl, rfl, rfl, by decide +kernel, rfl, by decide +kernel, by decide +kernel⟩
theorem ok_is_moment (F : Fun K "is_moment" "is_moment" s_is_moment f fd) (T : Txt mg tg) (C_is_integer : Cal P w K mg base 1 "is_integer" ["value"] (D1 K any isInt)) : FnOk P w K mg base CX0 2 f fd ["value"] (D1 K any isMom) := by
  refine F.ok sc_is_moment (fun vs H Q E h => ?_) (fun cdv A outer s H vs Q E hr h => ?_)
  · obtain ⟨v, d, rfl, _⟩ := h
    rfl
  · obtain ⟨v, d, rfl, hd, _, q⟩ := h
    refine ⟨_, (pss_one (ps_ret (pe_and (pe_cal C_is_integer (by first | exact hr | exact hr.mono (by decide)) (by rfl) (pa_cons (pv 0) pa_nil)) (pe_one (pe_cmpR op_ge (pv 0) pe_int (nomark _)))))), ?_⟩
    refine s_ret (ev_is (ev_andV (b := isMom d) (ev_call (ea_cons (ev_var rfl) ea_nil) (spv1 hd trivial)) fun e => ?_) ?_) q
    · cases d <;> cases e
      cases hd
      exact ev_op (ev_var rfl) ev_c rv_I0
    · cases d <;> rfl
abbrev s_is_place : Stmt := topS 8
theorem sc_is_place : FnScope ["events", "value"] ["events", "value"] (defScope s_is_place) := ⟨rfl, rfl, rfl, by decide +kernel, rfl, by decide +kernel, by decide +kernel⟩
theorem ev_knows {tb te : TE} {σ : L2.St} {H : Hp} {u : V} {x : Str} {es : List Str} (ha : Ev te σ H u) (hx : Ev tb σ H (.str x)) (h : Knows K H u es) : Ev (tEi (tDIn tb te) (tOp (rIn K false) tb te)) σ H (.bl (decide (x ∈ es))) := by
  obtain ⟨a, rfl, h⟩ := h
  rcases h with ⟨kvs, h1, h2⟩ | h
  · exact ev_ei1 (ev_din (k := .inr x) hx ha h1 (h2 x))
  · refine ev_ei2 (ev_is (ev_op hx ha (rv_isT h rfl (flat_strs es))) ?_)
    rw [inV_strs]
theorem ok_is_place (F : Fun K "is_place" "is_place" s_is_place f fd) (T : Txt mg tg) : FnOk P w K mg base CX0 1 f fd ["events", "value"] (D2 K any2 isPlace) := by
  refine F.ok sc_is_place (fun vs H Q E h => ?_) (fun cdv A outer s H vs Q E hr h => ?_)
  · obtain ⟨u, v, es, d, rfl, _⟩ := h
    rfl
  · obtain ⟨u, v, es, d, rfl, hu, hd, _, q⟩ := h
    refine ⟨_, (pss_one (ps_ret (pe_and (pe_callB (call_isiK' (K := K) rfl) (by rfl) T.isinstance (by decide +kernel) (pa_cons (pv 1) (pa_cons (pe_bltn (v := .ty "str") (u := .type "str") (by rfl) T.str (by decide +kernel) rfl) pa_nil))) (pe_one (pe_or (pe_cmpR op_eq (pv 1) (pe_glob (v := .str "go") (by rfl) T.GO ⟨_, rfl⟩) (nomark _)) (pe_one (pe_ei (pe_cmp (pc_din (hu_of hr) (pv 1) (pv 0)) rfl) (pe_cmpR (op_in_seqK (K := K) rfl) (pv 1) (pv 0) (by rfl))))))))), ?_⟩
    refine s_ret (ev_is (ev_andV (b := isPlace es d) (ev_isi okT_str (ev_var rfl) hd) fun e => ?_) ?_) q
    · rw [isT_str] at e
      cases d <;> cases e
      cases hd
      refine ev_orV (ev_opD (K := K) (ed_of (ev_var rfl) (.str _)) (ed_of ev_c (.str _)) rd_eqS) fun _ => ?_
      exact ev_knows (ev_var rfl) (ev_var rfl) hu
    · rw [isT_str]
      cases d <;> rfl
/-! ### ascends, is_name, are_events -/
abbrev s_ascends : Stmt := topS 9
theorem sc_ascends : FnScope ["rows", "k"] ["rows"] (defScope s_ascends) := ⟨rfl, rfl, rfl, by decide +kernel, rfl, by decide +kernel, by decide +kernel⟩
theorem ok_ascends (F : Fun K "ascends" "ascends" s_ascends f fd) (T : Txt mg tg) : FnOk P w K mg base CX0 1 f fd ["rows"] (spAsc K) := by
  refine F.ok sc_ascends (fun vs H Q E h => ?_) (fun cdv A outer s H vs Q E hr h => ?_)
  · obtain ⟨v, b, ds, rfl, _⟩ := h
    rfl
  · obtain ⟨v, b, ds, rfl, hd, ⟨hz, ho⟩, q⟩ := h
    refine ⟨_, (pss_one (ps_ret (pe_callB (cr_allK (K := K) rfl rfl) (by rfl) T.all (by decide +kernel) (pa_cons (pe_lc (own := [("k", 1)]) rfl sc_ascends.nd (pi_range1 rfl T.range (pa_cons (pe_op op_sub (pe_callB (call_len_seqK (K := K) rfl) (by rfl) T.len (by decide +kernel) (pa_cons (pv 0) pa_nil)) pe_int) pa_nil)) (blkOk_by (own := [("k", 1)]) (N := ["rows", "k"]) (sc := defScope s_ascends) (by decide +kernel)) (fun _ _ _ _ _ => (pg_name (i := 1) sc_ascends.nd rfl (Or.inl rfl))) (fun _ _ _ _ _ => pts_nil) (fun _ _ _ _ _ => (pe_cmpR (op_ltDK (K := K) rfl (hu64 hr)) (pe_ix (ix_seqK (K := K) rfl) (pv 0) (pv 1) (fun _ _ => rfl)) (pe_ix (ix_seqK (K := K) rfl) (pv 0) (pe_op op_add (pv 1) pe_int) (fun _ _ => rfl)) (nomark _)))) pa_nil)))), ?_⟩
    have hn : ((ds.length : Int) - 1).toNat = ds.length - 1 := by omega
    refine s_ret (ev_is (ev_all (bs := ((List.range (ds.length - 1)).map fun i => PySem.W.dataLt (ds.getD i .none) (ds.getD (i + 1) .none))) ?_) (by rw [asc_eq])) q
    rw [← givenD_bools]
    refine ed_n (en_lcR (ds.length - 1) (fun _ => true) (fun i => .bool (PySem.W.dataLt (ds.getD i .none) (ds.getD (i + 1) .none))) (ea_cons (ev_op (ev_lenSeq (ed_of (ev_var rfl) hd)) ev_c rv_I0) ea_nil) hn (by omega) (fun _ _ => rfl) fun i H1 e1 hi => ?_)
    refine ⟨_, ?_, goes_name, fun H1 e Q q => q H1 (Ex.refl H1), fun _ => ?_⟩
    · rfl
    have g1 : ds[i]? = some (ds.getD i .none) := by simp [List.getD, show i < ds.length by omega]
    have g2 : ds[i + 1]? = some (ds.getD (i + 1) .none) := by simp [List.getD, show i + 1 < ds.length by omega]
    have m1 := List.mem_of_getElem? g1
    have m2 := List.mem_of_getElem? g2
    obtain ⟨o1, o2, o3⟩ := ho _ m1 _ m2
    refine ed_of (ev_opD (ed_ixS i (ed_of (ev_var rfl) (dp_ex e1 hd)) (ev_var rfl) rfl g1) (ed_ixS (i + 1) (ed_of (ev_var rfl) (dp_ex e1 hd)) (ev_op (ev_var rfl) ev_c rv_I0) (by simp) g2) (rd_ltD o1 o2 o3)) (.bl _)
end
end Vf
end
section
set_option Elab.async false
set_option linter.all false
set_option maxRecDepth 100000
set_option maxHeartbeats 4000000
namespace Vf
open PySem PySem.Spec PyProof.Rows L2 Evl
/-! ### is_name -/
def nmOk : PyData → Prop := fun d => ∀ x, d = .str x → x.cps.size ≤ 30000
theorem lt_one (a b : Nat) : decide (([a] : List Nat) < [b]) = decide (a < b) := by
  by_cases h : a < b
  · rw [decide_eq_true h]; exact decide_eq_true (List.Lex.rel h)
  · rw [decide_eq_false h]
    refine decide_eq_false fun z => ?_
    cases z with
    | rel h2 => exact h h2
    | cons h2 => cases h2
theorem cps_a : ("a" : Str).cps.toList = [97] := by decide +kernel
theorem cps_z : ("z" : Str).cps.toList = [122] := by decide +kernel
theorem letters_eq (x : Str) : (((List.range x.cps.size).map fun i => decide (97 ≤ x.cps.getD i 0) && decide (x.cps.getD i 0 ≤ 122)).all id) = letters x := by
  unfold letters
  rw [Bool.eq_iff_iff]
  simp only [List.all_map, List.all_eq_true, List.mem_range, Function.comp_apply, id_eq]
  constructor
  · intro h c hc
    obtain ⟨i, hi, e⟩ := List.getElem_of_mem hc
    have h2 := h i (by simpa using hi)
    have e2 : x.cps.getD i 0 = c := by
      rw [← e]
      simp [Array.getD, show i < x.cps.size by simpa using hi]
    rw [e2] at h2
    exact h2
  · intro h i hi
    refine h _ ?_
    have e2 : x.cps.getD i 0 = x.cps[i] := by simp [Array.getD, hi]
    rw [e2]
    exact Array.mem_toList_iff.mpr (Array.getElem_mem hi)
section
variable {P : Program} {w : World} {K : PySem.W.Frag} {mg : Str → Option Value} {base : Heap} {tg : Tok} {f : Addr} {fd : FuncData}
abbrev s_is_name : Stmt := topS 10
theorem sc_is_name : FnScope ["value", "letter"] ["value"] (defScope s_is_name) := ⟨rfl, rfl, rfl, by decide +kernel, rfl, by decide +kernel, by decide +kernel⟩
theorem ok_is_name (F : Fun K "is_name" "is_name" s_is_name f fd) (T : Txt mg tg) : FnOk P w K mg base CX0 1 f fd ["value"] (D1 K nmOk isName) := by
  refine F.ok sc_is_name (fun vs H Q E h => ?_) (fun cdv A outer s H vs Q E hr h => ?_)
  · obtain ⟨v, d, rfl, _⟩ := h
    rfl
  · obtain ⟨v, d, rfl, hd, hk, q⟩ := h
    refine ⟨_, (pss_cons (ps_if (PW.pt (pw_or (pt_not (pt_val (pe_callB (call_isiK' (K := K) rfl) (by rfl) T.isinstance (by decide +kernel) (pa_cons (pv 0) (pa_cons (pe_bltn (v := .ty "str") (u := .type "str") (by rfl) T.str (by decide +kernel) rfl) pa_nil))))) (pw_or1 (pt_cmpR op_eq (pv 0) (pe_glob (v := .str "go") (by rfl) T.GO ⟨_, rfl⟩) (nomark _))))) (pss_one (ps_ret pe_bl)) pss_nil) (pss_one (ps_ret (pe_and (pe_chain op_le op_le pe_int (pe_callB call_len_str (by rfl) T.len (by decide +kernel) (pa_cons (pv 0) pa_nil)) pe_int) (pe_one (pe_callB (cr_allK (K := K) rfl rfl) (by rfl) T.all (by decide +kernel) (pa_cons (pe_lc (own := [("letter", 1)]) rfl sc_is_name.nd (pi_str (pv 0)) (blkOk_by (own := [("letter", 1)]) (N := ["value", "letter"]) (sc := defScope s_is_name) (by decide +kernel)) (fun _ _ _ _ _ => (pg_name (i := 1) sc_is_name.nd rfl (Or.inl rfl))) (fun _ _ _ _ _ => pts_nil) (fun _ _ _ _ _ => (pe_chain op_leStr op_leStr pe_str (pv 1) pe_str))) pa_nil))))))), ?_⟩
    cases hs : isT "str" d with
    | false =>
      refine q_when (b := true) (et_is (et_or (b := true) (et_not (et_B (ev_isi okT_str (ev_var rfl) hd))) fun h => ?_) (by rw [hs]; rfl)) (fun _ H1 e1 => s_ret ev_c fun H2 e2 => ?_) (fun h => nomatch h)
      · rw [hs] at h
        cases h
      · have e : isName d = false := by
          rw [isT_str] at hs
          cases d <;> first | rfl | cases hs
        rw [e] at q
        exact q H2 (e1.trans e2)
    | true =>
      rw [isT_str] at hs
      cases d <;> cases hs
      rename_i x
      cases hd
      refine q_when (et_is (b := decide (x = "go")) (et_or (et_not (et_B (ev_isi okT_str (ev_var rfl) (.str x)))) fun _ => et_test (ev_opD (K := K) (ed_of (ev_var rfl) (.str x)) (ed_of ev_c (.str _)) rd_eqS)) ?_) (fun hb H1 e1 => s_ret ev_c fun H2 e2 => ?_) (fun hb H1 e1 => ?_)
      · rw [isT_str]; rfl
      · have e : isName (.str x) = false := by
          show (!decide (x = "go") && _) = false
          rw [hb]
          rfl
        rw [e] at q
        exact q H2 (e1.trans e2)
      · have hz := hk x rfl
        have e : isName (.str x) = ((decide (1 ≤ (x.length : Int)) && decide ((x.length : Int) ≤ 8)) && letters x) := by
          show (!decide (x = "go") && _) = _
          rw [hb]
          rfl
        rw [e] at q
        refine s_ret (ev_andV (ev_chain (K := K) (ed_of ev_c (.int 1)) (ed_of (ev_lenStr (ev_var rfl) (show x.cps.size ≤ 100000 by omega)) (.int _)) rd_I0 (fun _ => ed_of ev_c (.int 8)) fun _ => rd_I0) fun _ => ?_) fun H2 e2 => q H2 (e1.trans e2)
        refine ev_is (ev_all (bs := ((List.range x.cps.size).map fun i => decide (97 ≤ x.cps.getD i 0) && decide (x.cps.getD i 0 ≤ 122))) ?_) (by rw [letters_eq])
        rw [← givenD_bools]
        refine ed_n (en_lcS (fun _ => true) _ (ev_var rfl) (by omega) (fun _ _ => rfl) fun i c H2 e2 hc => ?_)
        refine ⟨_, ?_, goes_name, fun H1 e Q q => q H1 (Ex.refl H1), fun _ => ?_⟩
        · rfl
        have ec : x.cps.getD i 0 = c := by
          have hi : i < x.cps.size := (Array.getElem?_eq_some_iff.mp hc).1
          rw [Array.getD_eq_getD_getElem?, hc]
          rfl
        refine ed_of (ev_is (ev_chain (K := K) (b := decide (97 ≤ c)) (c := decide (c ≤ 122)) (ed_of ev_c (.str _)) (ed_of (ev_var rfl) (.str _)) ?_ (fun _ => ed_of ev_c (.str _)) fun _ => ?_) (by rw [ec])) (.bl _)
        · have g := rd_leS (K := K) (H := H2) (a := "a") (b := (⟨#[c]⟩ : Str))
          rw [cps_a, show (⟨#[c]⟩ : Str).cps.toList = [c] from rfl, lt_one] at g
          have e3 : (!decide (c < 97)) = decide (97 ≤ c) := by
            by_cases h : c < 97
            · rw [decide_eq_true h, decide_eq_false (by omega)]; rfl
            · rw [decide_eq_false h, decide_eq_true (by omega)]; rfl
          rw [e3] at g
          exact g
        · have g := rd_leS (K := K) (H := H2) (a := (⟨#[c]⟩ : Str)) (b := "z")
          rw [cps_z, show (⟨#[c]⟩ : Str).cps.toList = [c] from rfl, lt_one] at g
          have e3 : (!decide (122 < c)) = decide (c ≤ 122) := by
            by_cases h : 122 < c
            · rw [decide_eq_true h, decide_eq_false (by omega)]; rfl
            · rw [decide_eq_false h, decide_eq_true (by omega)]; rfl
          rw [e3] at g
          exact g
/-! ### are_events -/
def evOk : PyData → Prop := fun d => ∀ ds, d = .tuple ds → ds.length ≤ 30000 ∧ ∀ x ∈ ds, nmOk x
theorem isName_str {d : PyData} (h : isName d = true) : ∃ x, d = .str x := by
  cases d <;> first | exact ⟨_, rfl⟩ | cases h
theorem ascOk_names {ds : List PyData} (hz : ds.length ≤ 30000) (h : ds.all isName = true) : AscOk ds := by
  rw [List.all_eq_true] at h
  refine ⟨hz, fun x hx y hy => ?_⟩
  obtain ⟨a, rfl⟩ := isName_str (h x hx)
  obtain ⟨b, rfl⟩ := isName_str (h y hy)
  refine ⟨by simp [PySem.W.alike], (by intro z; cases z), ?_⟩
  simp [PyData.depth]
abbrev s_are_events : Stmt := topS 11
theorem sc_are_events : FnScope ["value", "name"] ["value"] (defScope s_are_events) := ⟨rfl, rfl, rfl, by decide +kernel, rfl, by decide +kernel, by decide +kernel⟩
theorem ok_are_events (F : Fun K "are_events" "are_events" s_are_events f fd) (T : Txt mg tg) (C_is_name : Cal P w K mg base 1 "is_name" ["value"] (D1 K nmOk isName)) (C_ascends : Cal P w K mg base 1 "ascends" ["rows"] (spAsc K)) :
    FnOk P w K mg base CX0 2 f fd ["value"] (D1 K evOk isEvents) := by
  refine F.ok sc_are_events (fun vs H Q E h => ?_) (fun cdv A outer s H vs Q E hr h => ?_)
  · obtain ⟨v, d, rfl, _⟩ := h
    rfl
  · obtain ⟨v, d, rfl, hd, hk, q⟩ := h
    refine ⟨_, (pss_one (ps_ret (pe_and (pe_callB (call_isiK' (K := K) rfl) (by rfl) T.isinstance (by decide +kernel) (pa_cons (pv 0) (pa_cons (pe_bltn (v := .ty "tuple") (u := .type "tuple") (by rfl) T.tuple (by decide +kernel) rfl) pa_nil))) (pe_and (pe_callB (cr_allK (K := K) rfl rfl) (by rfl) T.all (by decide +kernel) (pa_cons (pe_lc (own := [("name", 1)]) rfl sc_are_events.nd (pi_tupK (K := K) rfl (pv 0)) (blkOk_by (own := [("name", 1)]) (N := ["value", "name"]) (sc := defScope s_are_events) (by decide +kernel)) (fun _ _ _ _ _ => (pg_name (i := 1) sc_are_events.nd rfl (Or.inl rfl))) (fun _ _ _ _ _ => pts_nil) (fun _ _ _ _ _ => (pe_cal C_is_name (by first | exact hr | exact hr.mono (by decide)) (by rfl) (pa_cons (pv 1) pa_nil)))) pa_nil)) (pe_one (pe_cal C_ascends (by first | exact hr | exact hr.mono (by decide)) (by rfl) (pa_cons (pv 0) pa_nil))))))), ?_⟩
    refine s_ret (ev_is (ev_andV (b := isEvents d) (ev_isi okT_tuple (ev_var rfl) hd) fun ht => ?_) ?_) q
    · rw [isT_tuple] at ht
      cases d <;> cases ht
      rename_i ds
      obtain ⟨hz, hn⟩ := hk ds rfl
      refine ev_andV (a := ds.all isName) ?_ fun ha => ev_call (ea_cons (ev_var rfl) ea_nil) (spvA (b := false) hd (ascOk_names hz ha))
      refine ev_is (ev_all (bs := ds.map isName) ?_) (by rw [all_id])
      rw [← givenD_all]
      refine ed_n (en_lcT (fun _ => true) _ (ed_of (ev_var rfl) hd) (by omega) (fun _ _ => rfl) fun i x d H1 e1 hi hx => ?_)
      refine ⟨_, ?_, goes_name, fun H1 e Q q => q H1 (Ex.refl H1), fun _ => ?_⟩
      · rfl
      rw [getD_of hi]
      exact ed_of (ev_call (ea_cons (ev_var rfl) ea_nil) (spv1 hx (hn d (List.mem_of_getElem? hi)))) (.bl _)
    · rw [isT_tuple]
      cases d <;> rfl
end
end Vf
end
section
set_option Elab.async false
set_option linter.all false
set_option maxRecDepth 100000
set_option maxHeartbeats 4000000
namespace Vf
open PySem PySem.Spec PyProof.Rows L2 Evl
/-! ### what the program says of bounds and tasks -/
def neS : PyData → PyData → Bool | .str a, .str b => !decide (a = b) | _, _ => true
def isBound (es : List Str) : PyData → Bool | .tuple [x, y, m] => isPlace es x && (isPlace es y && (neS x y && isInt m)) | _ => false
def isPair (es : List Str) : PyData → Bool | .tuple [x, y] => isPlace es x && (isPlace es y && neS x y) | _ => false
def cut2 : PyData → PyData | .tuple (x :: y :: _) => .tuple [x, y] | d => d
def areBounds (es : List Str) : PyData → Bool | .tuple ds => ds.all (isBound es) && ascD (ds.map cut2) | _ => false
def isTask (es : List Str) : PyData → Bool
  | .tuple [.str b, .str e, .int l, .int g] => decide (b ∈ es) && (decide (e ∈ es) && (decide (1 ≤ l) && decide (l ≤ g)))
  | _ => false
def seqOk : List Str → PyData → Prop := fun _ d => ∀ ds, d = .tuple ds → ds.length ≤ 30000
theorem isPlace_str {es : List Str} {d : PyData} (h : isPlace es d = true) : ∃ x, d = .str x := by
  cases d <;> first | exact ⟨_, rfl⟩ | cases h
theorem isBound_form {es : List Str} {d : PyData} (h : isBound es d = true) : ∃ x y m, d = .tuple [.str x, .str y, .int m] := by
  cases d <;> first | (cases h; done) | skip
  rename_i ds
  match ds, h with
  | [x, y, m], h =>
    have h' : (isPlace es x && (isPlace es y && (neS x y && isInt m))) = true := h
    simp only [Bool.and_eq_true] at h'
    obtain ⟨hx, hy, _, hm⟩ := h'
    obtain ⟨a, rfl⟩ := isPlace_str hx
    obtain ⟨b, rfl⟩ := isPlace_str hy
    cases m <;> first | exact ⟨a, b, _, rfl⟩ | cases hm
theorem isTask_form {es : List Str} {d : PyData} (h : isTask es d = true) : ∃ b e l g, d = .tuple [.str b, .str e, .int l, .int g] := by
  unfold isTask at h
  split at h
  · exact ⟨_, _, _, _, rfl⟩
  · cases h
theorem ascOk_bounds {es : List Str} {ds : List PyData} (hz : ds.length ≤ 30000) (h : ds.all (isBound es) = true) : AscOk (ds.map cut2) := by
  rw [List.all_eq_true] at h
  refine ⟨by simpa using hz, fun x hx y hy => ?_⟩
  obtain ⟨a, ha, rfl⟩ := List.mem_map.mp hx
  obtain ⟨b, hb, rfl⟩ := List.mem_map.mp hy
  obtain ⟨_, _, _, rfl⟩ := isBound_form (h a ha)
  obtain ⟨_, _, _, rfl⟩ := isBound_form (h b hb)
  refine ⟨by simp [cut2, PySem.W.alike, PySem.W.alikeAll], (by intro z; cases z), ?_⟩
  simp [cut2, PyData.depth, PyData.depthAll]
theorem ascOk_tasks {es : List Str} {ds : List PyData} (hz : ds.length ≤ 30000) (h : ds.all (isTask es) = true) : AscOk ds := by
  rw [List.all_eq_true] at h
  refine ⟨hz, fun x hx y hy => ?_⟩
  obtain ⟨_, _, _, _, rfl⟩ := isTask_form (h x hx)
  obtain ⟨_, _, _, _, rfl⟩ := isTask_form (h y hy)
  refine ⟨by simp [PySem.W.alike, PySem.W.alikeAll], (by intro z; cases z), ?_⟩
  simp [PyData.depth, PyData.depthAll]
theorem givenD_map (ds : List PyData) (f : PyData → PyData) : givenD ds.length (fun _ => true) (fun i => f (ds.getD i .none)) = ds.map f := by
  unfold givenD
  rw [List.filter_eq_self.mpr (fun _ _ => rfl)]
  refine List.ext_getElem (by simp) fun i h1 h2 => ?_
  have h3 : i < ds.length := by simpa using h2
  simp [List.getD, h3]
theorem isTupN_2 {d : PyData} (h : isTupN 2 d = true) : ∃ x y, d = .tuple [x, y] := by
  cases d <;> first | (cases h; done) | skip
  rename_i ds
  match ds, h with
  | [x, y], _ => exact ⟨x, y, rfl⟩
  | [], h => cases h
  | [_], h => cases h
  | _ :: _ :: _ :: _, h => simp [isTupN] at h
section
variable {K : PySem.W.Frag} {σ : L2.St} {H : Hp} {ta te : TE} {tz : TS} {D : Ends} {z : V}
theorem q_unp2 {i j : Nat} {d1 d2 : PyData} (h : EvD K te σ H (.tuple [d1, d2])) (k : ∀ v1 v2 H1, Ex H H1 → Dp K H1 v1 d1 → Dp K H1 v2 d2 → tz D ((σ.set i (some v1)).set j (some v2)) H1) :
    tSeq (tAsg te (gTup K 2 (gCons (gName i) (gCons (gName j) gNil)))) tz D σ H := h H (Ex.refl H) _ fun v H1 e hd => by
  cases hd with
  | tup hs ha =>
    cases ha with
    | cons h1 ha => cases ha with
      | cons h2 ha => cases ha; exact goes_tup2 hs _ H1 (Ex.refl H1) (k _ _ H1 e h1 h2)
/-- a call of a value and a datum -/
theorem ev_callVD {sp : Sp} {E : XK} {u : V} {d : PyData} (hu : Ev ta σ H u) (hd : EvD K te σ H d) (hs : ∀ H1 v, Ex H H1 → Dp K H1 v d → SpV sp [u, v] H1 z) : Ev (tCall sp [] E (tCons ta (tCons te tNil))) σ H z := fun H1 e Q q =>
  hu H1 e _ fun H2 e2 => hd H2 (e.trans e2) _ fun v H3 e3 hv => hs H3 v ((e.trans e2).trans e3) hv H3 (Ex.refl H3) Q (fun H4 e4 => q H4 ((e2.trans e3).trans e4)) E
end
section
variable {P : Program} {w : World} {K : PySem.W.Frag} {mg : Str → Option Value} {base : Heap} {tg : Tok} {f : Addr} {fd : FuncData}
abbrev s_is_pair : Stmt := topS 12
theorem sc_is_pair : FnScope ["events", "value", "x", "y"] ["events", "value"] (defScope s_is_pair) := ⟨rfl, rfl, rfl, by decide +kernel, rfl, by decide +kernel, by decide +kernel⟩
theorem ok_is_pair (F : Fun K "is_pair" "is_pair" s_is_pair f fd) (T : Txt mg tg) (C_is_place : Cal P w K mg base 1 "is_place" ["events", "value"] (D2 K any2 isPlace)) :
    FnOk P w K mg base CX0 2 f fd ["events", "value"] (D2 K any2 isPair) := by
  refine F.ok sc_is_pair (fun vs H Q E h => ?_) (fun cdv A outer s H vs Q E hr h => ?_)
  · obtain ⟨u, v, es, d, rfl, _⟩ := h
    rfl
  · obtain ⟨u, v, es, d, rfl, hu, hd, htr, q⟩ := h
    refine ⟨_, (pss_cons (ps_if (PW.pt (pw_or (pt_not (pt_val (pe_callB (call_isiK' (K := K) rfl) (by rfl) T.isinstance (by decide +kernel) (pa_cons (pv 1) (pa_cons (pe_bltn (v := .ty "tuple") (u := .type "tuple") (by rfl) T.tuple (by decide +kernel) rfl) pa_nil))))) (pw_or1 (pt_cmpR op_ne (pe_callB (call_len_seqK (K := K) rfl) (by rfl) T.len (by decide +kernel) (pa_cons (pv 1) pa_nil)) pe_int (nomark _))))) (pss_one (ps_ret pe_bl)) pss_nil) (pss_cons (ps_asg (pv 1) (pg_tupK (K := K) (n := 2) rfl rfl (pgs_cons (pg_name (i := 2) sc_is_pair.nd rfl (Or.inl rfl)) (pgs_cons (pg_name (i := 3) sc_is_pair.nd rfl (Or.inl rfl)) pgs_nil)))) (pss_one (ps_ret (pe_and (pe_cal C_is_place (by first | exact hr | exact hr.mono (by decide)) (by rfl) (pa_cons (pv 0) (pa_cons (pv 2) pa_nil))) (pe_and (pe_cal C_is_place (by first | exact hr | exact hr.mono (by decide)) (by rfl) (pa_cons (pv 0) (pa_cons (pv 3) pa_nil))) (pe_one (pe_cmpR op_ne (pv 2) (pv 3) (nomark _))))))))), ?_⟩
    refine q_when (et_tupN (n := 2) rfl (ev_var rfl) hd) (fun hb H1 e1 => s_ret ev_c fun H2 e2 => ?_) (fun hb H1 e1 => ?_)
    · have e : isPair es d = false := by
        have h1 : isTupN 2 d = false := by simpa using hb
        cases d <;> first | rfl | skip
        rename_i ds
        match ds, h1 with
        | [], _ => rfl
        | [_], _ => rfl
        | [_, _], h1 => cases h1
        | _ :: _ :: _ :: _, _ => rfl
      rw [e] at q
      exact q H2 (e1.trans e2)
    · obtain ⟨x, y, rfl⟩ := isTupN_2 (show isTupN 2 d = true by simpa using hb)
      refine q_unp2 (ed_of (ev_var rfl) (dp_ex e1 hd)) fun v1 v2 H2 e2 h1 h2 => ?_
      have hu2 := knows_ex (e1.trans e2) hu
      refine s_ret (ev_andV (b := isPlace es y && neS x y) (ev_call (ea_cons (ev_var rfl) (ea_cons (ev_var rfl) ea_nil)) (spv2 hu2 h1 trivial)) fun hx => ev_andV (b := neS x y) (ev_call (ea_cons (ev_var rfl) (ea_cons (ev_var rfl) ea_nil)) (spv2 hu2 h2 trivial)) fun hy => ?_) fun H3 e3 => q H3 ((e1.trans e2).trans e3)
      obtain ⟨a, rfl⟩ := isPlace_str hx
      obtain ⟨b, rfl⟩ := isPlace_str hy
      exact ev_opD (ed_of (ev_var rfl) h1) (ed_of (ev_var rfl) h2) rd_neS
abbrev s_is_bound : Stmt := topS 13
theorem sc_is_bound : FnScope ["events", "value"] ["events", "value"] (defScope s_is_bound) := ⟨rfl, rfl, rfl, by decide +kernel, rfl, by decide +kernel, by decide +kernel⟩
theorem ok_is_bound (F : Fun K "is_bound" "is_bound" s_is_bound f fd) (T : Txt mg tg) (C_is_pair : Cal P w K mg base 2 "is_pair" ["events", "value"] (D2 K any2 isPair)) (C_is_integer : Cal P w K mg base 1 "is_integer" ["value"] (D1 K any isInt)) :
    FnOk P w K mg base CX0 3 f fd ["events", "value"] (D2 K any2 isBound) := by
  refine F.ok sc_is_bound (fun vs H Q E h => ?_) (fun cdv A outer s H vs Q E hr h => ?_)
  · obtain ⟨u, v, es, d, rfl, _⟩ := h
    rfl
  · obtain ⟨u, v, es, d, rfl, hu, hd, htr, q⟩ := h
    refine ⟨_, (pss_cons (ps_if (PW.pt (pw_or (pt_not (pt_val (pe_callB (call_isiK' (K := K) rfl) (by rfl) T.isinstance (by decide +kernel) (pa_cons (pv 1) (pa_cons (pe_bltn (v := .ty "tuple") (u := .type "tuple") (by rfl) T.tuple (by decide +kernel) rfl) pa_nil))))) (pw_or1 (pt_cmpR op_ne (pe_callB (call_len_seqK (K := K) rfl) (by rfl) T.len (by decide +kernel) (pa_cons (pv 1) pa_nil)) pe_int (nomark _))))) (pss_one (ps_ret pe_bl)) pss_nil) (pss_one (ps_ret (pe_and (pe_cal C_is_pair (by first | exact hr | exact hr.mono (by decide)) (by rfl) (pa_cons (pv 0) (pa_cons (pe_slice (sl_tupK (K := K) rfl) (pv 1) po_none (po_some pe_int)) pa_nil))) (pe_one (pe_cal C_is_integer (by first | exact hr | exact hr.mono (by decide)) (by rfl) (pa_cons (pe_ix (ix_tupK (K := K) rfl) (pv 1) pe_int (fun _ _ => rfl)) pa_nil))))))), ?_⟩
    refine q_when (et_tupN (n := 3) rfl (ev_var rfl) hd) (fun hb H1 e1 => s_ret ev_c fun H2 e2 => ?_) (fun hb H1 e1 => ?_)
    · have e : isBound es d = false := by
        have h1 : isTupN 3 d = false := by simpa using hb
        cases d <;> first | rfl | skip
        rename_i ds
        match ds, h1 with
        | [], _ => rfl
        | [_], _ => rfl
        | [_, _], _ => rfl
        | [_, _, _], h1 => cases h1
        | _ :: _ :: _ :: _ :: _, _ => rfl
      rw [e] at q
      exact q H2 (e1.trans e2)
    · obtain ⟨x, y, m, rfl⟩ := isTupN_3 (show isTupN 3 d = true by simpa using hb)
      have hd1 := dp_ex e1 hd
      have hu1 := knows_ex e1 hu
      have ei : isBound es (.tuple [x, y, m]) = (isPair es (.tuple [x, y]) && isInt m) := by
        show (isPlace es x && (isPlace es y && (neS x y && isInt m))) = ((isPlace es x && (isPlace es y && neS x y)) && isInt m)
        simp only [Bool.and_assoc]
      rw [ei] at q
      refine s_ret (ev_andV (ev_callVD (d := .tuple [x, y]) (ev_var rfl) (ed_slT (hi := some 2) (ed_of (ev_var rfl) hd1) eo_none (eo_some ev_c) (by show ¬ (HT.sIx 3 0 none = 0 ∧ HT.sIx 3 3 (some 2) = 3); decide)) fun H2 v2 e2 h2 => spv2 (knows_ex e2 hu1) h2 trivial) fun _ => ev_callD (K := K) (eds_cons (ed_ixT 2 (ed_of (ev_var rfl) hd1) ev_c rfl rfl) eds_nil) fun H2 vs e2 hvs => ?_) fun H3 e3 => q H3 (e1.trans e3)
      cases hvs with
      | cons h1 hvs =>
        cases hvs
        exact spv1 h1 trivial
abbrev s_are_bounds : Stmt := topS 14
theorem sc_are_bounds : FnScope ["events", "value", "bound"] ["events", "value"] (defScope s_are_bounds) := ⟨rfl, rfl, rfl, by decide +kernel, rfl, by decide +kernel, by decide +kernel⟩
theorem ok_are_bounds (F : Fun K "are_bounds" "are_bounds" s_are_bounds f fd) (T : Txt mg tg) (C_is_bound : Cal P w K mg base 3 "is_bound" ["events", "value"] (D2 K any2 isBound)) (C_ascends : Cal P w K mg base 1 "ascends" ["rows"] (spAsc K)) :
    FnOk P w K mg base CX0 4 f fd ["events", "value"] (D2 K seqOk areBounds) := by
  refine F.ok sc_are_bounds (fun vs H Q E h => ?_) (fun cdv A outer s H vs Q E hr h => ?_)
  · obtain ⟨u, v, es, d, rfl, _⟩ := h
    rfl
  · obtain ⟨u, v, es, d, rfl, hu, hd, hk, q⟩ := h
    refine ⟨_, (pss_cons (ps_if (PW.pt (pw_or (pt_not (pt_val (pe_callB (call_isiK' (K := K) rfl) (by rfl) T.isinstance (by decide +kernel) (pa_cons (pv 1) (pa_cons (pe_bltn (v := .ty "tuple") (u := .type "tuple") (by rfl) T.tuple (by decide +kernel) rfl) pa_nil))))) (pw_or1 (pt_not (pt_val (pe_callB (cr_allK (K := K) rfl rfl) (by rfl) T.all (by decide +kernel) (pa_cons (pe_lc (own := [("bound", 2)]) rfl sc_are_bounds.nd (pi_tupK (K := K) rfl (pv 1)) (blkOk_by (own := [("bound", 2)]) (N := ["events", "value", "bound"]) (sc := defScope s_are_bounds) (by decide +kernel)) (fun _ _ _ _ _ => (pg_name (i := 2) sc_are_bounds.nd rfl (Or.inl rfl))) (fun _ _ _ _ _ => pts_nil) (fun _ _ _ _ _ => (pe_cal C_is_bound (by first | exact hr | exact hr.mono (by decide)) (by rfl) (pa_cons (pv 0) (pa_cons (pv 2) pa_nil))))) pa_nil))))))) (pss_one (ps_ret pe_bl)) pss_nil) (pss_one (ps_ret (pe_cal C_ascends (by first | exact hr | exact hr.mono (by decide)) (by rfl) (pa_cons (pe_lc (own := [("bound", 2)]) rfl sc_are_bounds.nd (pi_tupK (K := K) rfl (pv 1)) (blkOk_by (own := [("bound", 2)]) (N := ["events", "value", "bound"]) (sc := defScope s_are_bounds) (by decide +kernel)) (fun _ _ _ _ _ => (pg_name (i := 2) sc_are_bounds.nd rfl (Or.inl rfl))) (fun _ _ _ _ _ => pts_nil) (fun _ _ _ _ _ => (pe_slice (sl_tupK (K := K) rfl) (pv 2) po_none (po_some pe_int)))) pa_nil))))), ?_⟩
    cases hs : isT "tuple" d with
    | false =>
      refine q_when (b := true) (et_is (et_or (b := true) (et_not (et_B (ev_isi okT_tuple (ev_var rfl) hd))) fun h => ?_) (by rw [hs]; rfl)) (fun _ H1 e1 => s_ret ev_c fun H2 e2 => ?_) (fun h => nomatch h)
      · rw [hs] at h
        cases h
      · have e : areBounds es d = false := by
          rw [isT_tuple] at hs
          cases d <;> first | rfl | cases hs
        rw [e] at q
        exact q H2 (e1.trans e2)
    | true =>
      rw [isT_tuple] at hs
      cases d <;> cases hs
      rename_i ds
      have hz := hk ds rfl
      refine q_when (et_is (b := !ds.all (isBound es)) (et_or (et_not (et_B (ev_isi okT_tuple (ev_var rfl) hd))) fun _ => et_not (et_B (ev_is (ev_all (bs := ds.map (isBound es)) ?_) (by rw [all_id])))) ?_) (fun hb H1 e1 => s_ret ev_c fun H2 e2 => ?_) (fun hb H1 e1 => ?_)
      · rw [← givenD_all]
        refine ed_n (en_lcT (fun _ => true) _ (ed_of (ev_var rfl) hd) (by omega) (fun _ _ => rfl) fun i x d H1 e1 hi hx => ?_)
        refine ⟨_, ?_, goes_name, fun H1 e Q q => q H1 (Ex.refl H1), fun _ => ?_⟩
        · rfl
        rw [getD_of hi]
        exact ed_of (ev_call (ea_cons (ev_var rfl) (ea_cons (ev_var rfl) ea_nil)) (spv2 (knows_ex e1 hu) hx trivial)) (.bl _)
      · rw [isT_tuple]; rfl
      · have e : areBounds es (.tuple ds) = false := by
          have h1 : ds.all (isBound es) = false := by simpa using hb
          show (ds.all (isBound es) && _) = false
          rw [h1]
          rfl
        rw [e] at q
        exact q H2 (e1.trans e2)
      · have ha : ds.all (isBound es) = true := by
          cases h : ds.all (isBound es) with
          | true => rfl
          | false => rw [h] at hb; cases hb
        have e : areBounds es (.tuple ds) = ascD (ds.map cut2) := by
          show (ds.all (isBound es) && _) = _
          rw [ha]
          rfl
        rw [e] at q
        have hd1 := dp_ex e1 hd
        rw [List.all_eq_true] at ha
        refine s_ret (ev_callD (K := K) (eds_cons (d := .list (ds.map cut2)) (ed_n ?_) eds_nil) fun H2 vs e2 hv => ?_) fun H2 e2 => q H2 (e1.trans e2)
        · rw [← givenD_map]
          refine en_lcT (fun _ => true) _ (ed_of (ev_var rfl) hd1) (by omega) (fun i _ => ?_) fun i x d H2 e2 hi hx => ?_
          · by_cases hi : i < ds.length
            · have hm : ds.getD i .none ∈ ds := by
                simp [List.getD, hi]
              obtain ⟨_, _, _, e⟩ := isBound_form (ha _ hm)
              rw [e]
              rfl
            · have e : ds.getD i .none = .none := by simp [List.getD, hi]
              rw [e]
              rfl
          · refine ⟨_, ?_, goes_name, fun H1 e Q q => q H1 (Ex.refl H1), fun _ => ?_⟩
            · rfl
            rw [getD_of hi]
            obtain ⟨a, b, m, rfl⟩ := isBound_form (ha d (List.mem_of_getElem? hi))
            exact ed_slT (hi := some 2) (ed_of (ev_var rfl) hx) eo_none (eo_some ev_c) (by show ¬ (HT.sIx 3 0 none = 0 ∧ HT.sIx 3 3 (some 2) = 3); decide)
        · cases hv with
          | cons h1 h2 =>
            cases h2
            exact spvA (b := true) h1 (ascOk_bounds hz (List.all_eq_true.mpr ha))
end
end Vf
end
section
set_option Elab.async false
set_option linter.all false
set_option maxRecDepth 100000
set_option maxHeartbeats 4000000
namespace Vf
open PySem PySem.Spec PyProof.Rows L2 Evl
/-! ### going back from ends to begins -/
/-- going on from x one comes to what has no begin -/
inductive Out (kvs : List (Key × V)) : Str → Prop
  | stop {x : Str} : valV kvs (.inr x) = none → Out kvs x
  | step {x y : Str} : valV kvs (.inr x) = some (.str y) → Out kvs y → Out kvs x
def Rooted (kvs : List (Key × V)) : Prop := ∀ x, Out kvs x
/-- by one step or more -/
inductive Rp (kvs : List (Key × V)) : Str → Str → Prop
  | one {x y : Str} : valV kvs (.inr x) = some (.str y) → Rp kvs x y
  | more {x y z : Str} : valV kvs (.inr x) = some (.str y) → Rp kvs y z → Rp kvs x z
theorem Rp.snoc {kvs : List (Key × V)} {x y z : Str} (h : Rp kvs x y) (e : valV kvs (.inr y) = some (.str z)) : Rp kvs x z := by
  induction h with
  | one e1 => exact .more e1 (.one e)
  | more e1 _ ih => exact .more e1 (ih e)
theorem Out.irr {kvs : List (Key × V)} {x : Str} (h : Out kvs x) : ¬ Rp kvs x x := by
  induction h with
  | stop e =>
    intro r
    cases r with
    | one e1 => rw [e] at e1; cases e1
    | more e1 _ => rw [e] at e1; cases e1
  | @step x y e _ ih =>
    intro r
    refine ih ?_
    cases r with
    | one e1 =>
      rw [e] at e1
      cases e1
      exact .one e
    | more e1 r2 =>
      rw [e] at e1
      cases e1
      exact r2.snoc e
def StrD (kvs : List (Key × V)) : Prop := ∀ k v, (k, v) ∈ kvs → ∃ x y, k = .inr x ∧ v = .str y
theorem valV_mem {κ : Type} [DecidableEq κ] {kvs : List (κ × V)} {k : κ} {v : V} (h : valV kvs k = some v) : (k, v) ∈ kvs := by
  unfold valV at h
  cases e : kvs.find? (fun kv => decide (kv.1 = k)) with
  | none => rw [e] at h; cases h
  | some p =>
    rw [e] at h
    cases h
    have h1 := List.find?_some e
    have h2 := List.mem_of_find?_eq_some e
    obtain ⟨a, b⟩ := p
    have h3 : a = k := of_decide_eq_true h1
    subst h3
    exact h2
theorem valV_isSome {κ : Type} [DecidableEq κ] {kvs : List (κ × V)} {k : κ} {v : V} (h : (k, v) ∈ kvs) : (valV kvs k).isSome = true := by
  unfold valV
  rw [Option.isSome_map, List.find?_isSome]
  exact ⟨(k, v), h, decide_eq_true rfl⟩
/-- how many keys of kvs are not in wk -/
def left (kvs wk : List (Key × V)) : Nat := (kvs.filter fun p => (valV wk p.1).isNone).length
theorem filter_lt {α : Type} (p : α) (a b : α → Bool) (hab : ∀ x, b x = true → a x = true) (ha : a p = true) (hb : b p = false) : ∀ l : List α, p ∈ l → (l.filter b).length < (l.filter a).length
  | [], h => by cases h
  | x :: r, h => by
    have le : ∀ l : List α, (l.filter b).length ≤ (l.filter a).length := by
      intro l
      induction l with
      | nil => exact Nat.le_refl _
      | cons y s ih =>
        rw [List.filter_cons, List.filter_cons]
        cases hy : b y with
        | true => rw [if_pos rfl, if_pos (hab y hy), List.length_cons, List.length_cons]; omega
        | false =>
          rw [if_neg (by decide)]
          split
          · rw [List.length_cons]; omega
          · exact ih
    rw [List.filter_cons, List.filter_cons]
    by_cases hx : x = p
    · subst hx
      rw [if_neg (by rw [hb]; decide), if_pos ha, List.length_cons]
      have := le r
      omega
    · have h2 : p ∈ r := by
        cases h with
        | head => exact absurd rfl hx
        | tail _ h => exact h
      have ih := filter_lt p a b hab ha hb r h2
      cases hy : b x with
      | true => rw [if_pos rfl, if_pos (hab x hy), List.length_cons, List.length_cons]; omega
      | false =>
        rw [if_neg (by decide)]
        split
        · rw [List.length_cons]; omega
        · exact ih
theorem left_put {kvs wk : List (Key × V)} {k : Key} {v y : V} (h : valV kvs k = some v) (hn : valV wk k = none) : left kvs (putK wk k y) < left kvs wk := by
  unfold left
  refine filter_lt (k, v) (fun p => (valV wk p.1).isNone) (fun p => (valV (putK wk k y) p.1).isNone) (fun x hx => ?_) (by rw [hn]; rfl) (by rw [valV_put, if_pos rfl]; rfl) kvs (valV_mem h)
  rw [valV_put] at hx
  split at hx
  · cases hx
  · exact hx
abbrev spRoot : Sp := fun vs H Q _ => ∃ a kvs, vs = [.ref a] ∧ H a = some (.dK kvs) ∧ StrD kvs ∧ (kvs.map (·.1)).Nodup ∧ kvs.length ≤ 30000 ∧ RetV (.bl (@decide (Rooted kvs) (Classical.propDecidable _))) H Q
theorem spvR {H : Hp} {a : Addr} {kvs : List (Key × V)} (h : H a = some (.dK kvs)) (h1 : StrD kvs) (h2 : (kvs.map (·.1)).Nodup) (h3 : kvs.length ≤ 30000) : SpV spRoot [.ref a] H (.bl (@decide (Rooted kvs) (Classical.propDecidable _))) := fun H1 e Q q E =>
  ⟨a, kvs, rfl, e _ _ h, h1, h2, h3, q⟩
/-- behind i turns -/
structure Good (kvs wk : List (Key × V)) (i : Nat) : Prop where
  keys : ∀ j k v, j < i → kvs[j]? = some (k, v) → ∃ x, k = .inr x ∧ Out kvs x
  vals : ∀ x v, valV wk (.inr x) = some v → Out kvs x ∧ ∃ y, v = .str y ∧ ∃ j w, j < i ∧ kvs[j]? = some (.inr y, w)
  room : wk.length + left kvs wk ≤ kvs.length
/-- within the walk from e, which is at t now -/
structure Mid (kvs wk : List (Key × V)) (i : Nat) (e t : Str) : Prop where
  vals : ∀ x v, valV wk (.inr x) = some v → ∃ y, v = .str y ∧ ((y ≠ e ∧ Out kvs x ∧ ∃ j w, j < i ∧ kvs[j]? = some (.inr y, w)) ∨ (y = e ∧ (Out kvs t → Out kvs x) ∧ Rp kvs x t))
  start : Out kvs t → Out kvs e
  room : wk.length + left kvs wk ≤ kvs.length
section
variable {P : Program} {w : World} {K : PySem.W.Frag} {mg : Str → Option Value} {base : Heap} {tg : Tok} {f : Addr} {fd : FuncData}
abbrev s_is_rooted : Stmt := topS 16
theorem sc_is_rooted : FnScope ["begins", "walks", "end", "at"] ["begins"] (defScope s_is_rooted) := ⟨rfl, rfl, rfl, by decide +kernel, rfl, by decide +kernel, by decide +kernel⟩
theorem ok_is_rooted (F : Fun K "is_rooted" "is_rooted" s_is_rooted f fd) (T : Txt mg tg) : FnOk P w K mg base CX0 1 f fd ["begins"] spRoot := by
  refine F.ok sc_is_rooted (fun vs H Q E h => ?_) (fun cdv A outer s H vs Q E hr h => ?_)
  · obtain ⟨a, kvs, rfl, _⟩ := h
    rfl
  · obtain ⟨a, kvs, rfl, hd, hS, hN, hz, q⟩ := h
    refine ⟨_, (pss_cons (ps_set (i := 1) sc_is_rooted.nd rfl (Or.inl rfl) pe_dnewK) (pss_cons (ps_lock (ps_for PassesOwn.never rfl (pi_keys (pv 0)) (pg_name (i := 2) sc_is_rooted.nd rfl (Or.inl rfl)) (pss_cons (ps_set (i := 3) sc_is_rooted.nd rfl (Or.inl rfl) (pv 2)) (pss_cons (ps_while PassesOwn.never (PW.pt (pw_and (pt_cmp (pc_din (hu_of hr) (pv 3) (pv 0))) (pw_and1 (pt_cmp (pc_dnotin (hu_of hr) (pv 3) (pv 1)))))) (pss_cons (ps_dput (hu_of hr) (pv 1) (pv 3) (pv 2) rfl) (pss_one (ps_set (i := 3) sc_is_rooted.nd rfl (Or.inl rfl) (pe_dget (hu_of hr) (pv 0) (pv 3) (fun _ _ => rfl)))))) (pss_one (ps_if (PW.pt (pw_and (pt_cmp (pc_din (hu_of hr) (pv 3) (pv 0))) (pw_and1 (pt_cmpR op_eq (pe_dget (hu_of hr) (pv 1) (pv 3) (fun _ _ => rfl)) (pv 2) (nomark _))))) (pss_one (ps_ret pe_bl)) pss_nil)))))) (pss_one (ps_ret pe_bl)))), ?_⟩
    intro p hp
    have hpa : p ≠ a := fun z => by
      subst z
      rw [hd] at hp
      cases hp
    have e0 : Ex H (upd H p (.dK [])) := Ex.new hp
    refine ⟨a, .dK kvs, e0 _ _ hd, trivial, fun od => ?_⟩
    have hB : ∀ H', Ex (upd H a (.frz od (.dK kvs))) H' → Ex H (upd H' a (.dK kvs)) := fun H' e b o hb => by
      by_cases hba : b = a
      · subst hba
        rw [hd] at hb
        cases hb
        exact upd_same
      · rw [upd_ne hba]
        exact e b o (by rw [upd_ne hba]; exact hb)
    have hBp : (upd H a (.frz od (.dK kvs))) p = none := by rw [upd_ne hpa]; exact hp
    have hsw : upd (upd H p (.dK [])) a (.frz od (.dK kvs)) = upd (upd H a (.frz od (.dK kvs))) p (.dK []) := by
      funext b
      unfold upd
      by_cases h1 : b = a
      · subst h1
        rw [if_pos rfl, if_neg hpa.symm, if_pos rfl]
      · rw [if_neg h1, if_neg h1]
    show tFor _ _ _ _ _ (upd (upd H p (.dK [])) a (.frz od (.dK kvs)))
    rw [hsw]
    refine s_forKeys (o := od) (kvs := kvs) (d := a) (ev_var rfl) (by rw [upd_ne hpa.symm]; exact upd_same)
      (fun i σ' H' => ∃ wk x2 x3, σ' = [some (.ref a), some (.ref p), x2, x3] ∧ Ex (upd H a (.frz od (.dK kvs))) H' ∧ H' p = some (.dK wk) ∧ Good kvs wk i)
      (fun H1 e1 => ⟨[], none, none, rfl, (Ex.new hBp).trans e1, e1 _ _ upd_same, ⟨fun j k v hj _ => absurd hj (Nat.not_lt_zero _), fun x v h => (by cases h), ?_⟩⟩)
      (fun i σ' H' ⟨wk, x2, x3, _, e1, _⟩ => e1 _ _ upd_same) (fun i k v σ' H' hi ⟨wk, x2, x3, es, e1, hw, G⟩ => ?_) (fun σ' H' ⟨wk, x2, x3, es, e1, hw, G⟩ => ?_)
    · unfold left
      have := List.length_filter_le (fun p : Key × V => (valV ([] : List (Key × V)) p.1).isNone) kvs
      simpa using this
    · -- a turn
      obtain ⟨e, y0, rfl, rfl⟩ := hS k v (List.mem_of_getElem? hi)
      subst es
      refine q_asg (ev_var rfl) fun H1 e2 => ?_
      have hfr : ∀ H2, Ex (upd H a (.frz od (.dK kvs))) H2 → Rd H2 a (.dK kvs) := fun H2 e3 => .inr ⟨od, e3 _ _ upd_same⟩
      refine q_while (fun m σ' H' => ∃ wk t, σ' = [some (.ref a), some (.ref p), some (.str e), some (.str t)] ∧ Ex (upd H a (.frz od (.dK kvs))) H' ∧ H' p = some (.dK wk) ∧ m = left kvs wk ∧ Mid kvs wk i e t)
        (left kvs wk) ⟨wk, e, rfl, e1.trans e2, e2 _ _ hw, rfl, ?_, id, G.room⟩ (fun m σ' H' ⟨wk, t, es, e3, hw, em, M⟩ => ?_)
      · intro x v hx
        obtain ⟨h1, y, h2, j, w, h3, h4⟩ := G.vals x v hx
        refine ⟨y, h2, .inl ⟨fun z => ?_, h1, j, w, h3, h4⟩⟩
        subst z
        have n1 : (kvs.map (·.1))[j]? = some (.inr y) := by rw [List.getElem?_map, h4]; rfl
        have n2 : (kvs.map (·.1))[i]? = some (.inr y) := by rw [List.getElem?_map, hi]; rfl
        have := nd_ix hN n1 n2
        omega
      · subst es em
        refine ⟨(valV kvs (.inr t)).isSome && !(valV wk (.inr t)).isSome, ?_, ?_, ?_⟩
        · exact et_and (et_B (ev_dinR (k := .inr t) (ev_var rfl) (ev_var rfl) (hfr H' e3) rfl)) fun _ => et_B (ev_dnin (k := .inr t) (ev_var rfl) (ev_var rfl) hw rfl)
        · -- on to the next
          intro hb H2 e4
          rw [Bool.and_eq_true] at hb
          obtain ⟨b1, b2⟩ := hb
          obtain ⟨u, hu⟩ := Option.isSome_iff_exists.mp b1
          obtain ⟨_, t2, et, rfl⟩ := hS _ _ (valV_mem hu)
          cases et
          have hn : valV wk (.inr t) = none := by
            cases h : valV wk (.inr t) with
            | none => rfl
            | some _ => rw [h] at b2; cases b2
          refine ⟨fun σ' H' => ∃ wk' t', σ' = [some (.ref a), some (.ref p), some (.str e), some (.str t')] ∧ Ex (upd H a (.frz od (.dK kvs))) H' ∧ H' p = some (.dK wk') ∧ left kvs wk' < left kvs wk ∧ Mid kvs wk' i e t',
            fun σ2 H3 ⟨wk', t', es, h1, h2, h3, h4⟩ => ⟨_, h3, wk', t', es, h1, h2, rfl, h4⟩, ?_⟩
          have hwl : wk.length < 100000 := by have := M.room; omega
          refine q_dput (k := .inr t) (e4 _ _ hw) (ev_var rfl) (ev_var rfl) (ev_var rfl) hwl fun H3 e5 => ?_
          have e6 : Ex (upd H a (.frz od (.dK kvs))) (upd H3 p (.dK (putK wk (.inr t) (.str e)))) := Ex.mut ((e3.trans e4).trans e5) hBp
          refine s_asg (ev_dgetR (k := .inr t) (ev_var rfl) (hfr _ e6) (ev_var rfl) hu) fun H4 e7 => ⟨_, t2, rfl, e6.trans e7, e7 _ _ upd_same, left_put hu hn, ?_⟩
          refine ⟨fun x v hx => ?_, fun o => M.start (.step hu o), ?_⟩
          · rw [valV_put] at hx
            split at hx
            · rename_i hxt
              cases hxt
              cases hx
              exact ⟨e, rfl, .inr ⟨rfl, fun o => .step hu o, .one hu⟩⟩
            · obtain ⟨y, h1, h2⟩ := M.vals x v hx
              refine ⟨y, h1, ?_⟩
              rcases h2 with h2 | ⟨h3, h4, h5⟩
              · exact .inl h2
              · exact .inr ⟨h3, fun o => h4 (.step hu o), h5.snoc hu⟩
          · have h1 := length_putK wk (.inr t) (.str e)
            have h2 := left_put (y := .str e) hu hn
            have h3 := M.room
            omega
        · -- the walk ends
          intro hb H2 e4
          have e5 := e3.trans e4
          have hout : Out kvs t → Good kvs wk (i + 1) := fun o => ⟨fun j k v hj hk => by
            by_cases hji : j = i
            · subst hji
              rw [hi] at hk
              cases hk
              exact ⟨e, rfl, M.start o⟩
            · exact G.keys j k v (by omega) hk, fun x v hx => by
              obtain ⟨y, h1, h2⟩ := M.vals x v hx
              rcases h2 with ⟨_, h4, j, w, h5, h6⟩ | ⟨h3, h4, _⟩
              · exact ⟨h4, y, h1, j, w, by omega, h6⟩
              · subst h3
                exact ⟨h4 o, y, h1, i, _, by omega, hi⟩, M.room⟩
          have go : Out kvs t → ∃ wk x2 x3, [some (V.ref a), some (V.ref p), some (V.str e), some (V.str t)] = [some (.ref a), some (.ref p), x2, x3] ∧ Ex (upd H a (.frz od (.dK kvs))) H2 ∧ H2 p = some (.dK wk) ∧ Good kvs wk (i + 1) := fun o =>
            ⟨wk, _, _, rfl, e5, e4 _ _ hw, hout o⟩
          cases ht : valV kvs (.inr t) with
          | none =>
            refine s_when (b := false) (et_is (et_and (b := true) (et_B (ev_dinR (k := .inr t) (ev_var rfl) (ev_var rfl) (hfr H2 e5) rfl)) fun h => ?_) (by rw [ht]; rfl)) (fun h => nomatch h) fun _ H3 e6 => ?_
            · rw [ht] at h
              cases h
            · exact ⟨wk, _, _, rfl, e5.trans e6, e6 _ _ (e4 _ _ hw), hout (.stop ht)⟩
          | some u =>
            obtain ⟨_, t2, et, rfl⟩ := hS _ _ (valV_mem ht)
            cases et
            have hs : ∃ v, valV wk (.inr t) = some v := by
              cases h : valV wk (.inr t) with
              | some v => exact ⟨v, rfl⟩
              | none => rw [ht, h] at hb; cases hb
            obtain ⟨v, hv⟩ := hs
            obtain ⟨y, rfl, hy⟩ := M.vals t v hv
            refine s_when (b := decide (y = e)) (et_is (et_and (et_B (ev_dinR (k := .inr t) (ev_var rfl) (ev_var rfl) (hfr H2 e5) rfl)) fun _ => et_test (ev_opD (K := K) (ed_of (ev_dget (k := .inr t) (d := .none) (ev_var rfl) (e4 _ _ hw) (ev_var rfl) hv) (.str y)) (ed_of (ev_var rfl) (.str e)) rd_eqS)) (by rw [ht]; rfl)) (fun h H3 e6 => ?_) fun h H3 e6 => ?_
            · have hye : y = e := of_decide_eq_true h
              rcases hy with ⟨h1, _⟩ | ⟨_, _, h3⟩
              · exact absurd hye h1
              · have hnr : ¬ Rooted kvs := fun R => (R t).irr h3
                refine s_ret ev_c fun H4 e7 => ⟨((e5.trans e6).trans e7) _ _ upd_same, ?_⟩
                rw [@decide_eq_false (Rooted kvs) (Classical.propDecidable _) hnr] at q
                exact q _ (hB _ ((e5.trans e6).trans e7))
            · have hye : ¬ y = e := of_decide_eq_false h
              rcases hy with ⟨_, h2, _⟩ | ⟨h1, _⟩
              · exact ⟨wk, _, _, rfl, e5.trans e6, e6 _ _ (e4 _ _ hw), hout h2⟩
              · exact absurd h1 hye
    · -- all keys have been gone back from
      refine ⟨e1 _ _ upd_same, ?_⟩
      have hR : Rooted kvs := fun x => by
        cases h : valV kvs (.inr x) with
        | none => exact .stop h
        | some v =>
          obtain ⟨j, hj, ej⟩ := List.getElem_of_mem (valV_mem h)
          obtain ⟨x2, ex, o⟩ := G.keys j _ _ hj (by rw [List.getElem?_eq_getElem hj, ej])
          cases ex
          exact o
      rw [@decide_eq_true (Rooted kvs) (Classical.propDecidable _) hR] at q
      show tRet (tC (V.bl true)) { nx := fun x H' => Q V.non H', rt := Q } σ' (upd H' a (HO.dK kvs))
      exact s_ret ev_c fun H4 e7 => q _ ((hB _ e1).trans e7)
end
end Vf
end
section
set_option Elab.async false
set_option linter.all false
set_option maxRecDepth 100000
set_option maxHeartbeats 4000000
namespace Vf
open PySem PySem.Spec PyProof.Rows L2 Evl
/-! ### dicts that a comprehension makes -/
theorem putAll_some {k : Nat → Key} {u : Nat → V} {x : Key} : ∀ n, (valV (putAll n k u) x).isSome = decide (∃ i, i < n ∧ k i = x)
  | 0 => by
    have h : ¬ ∃ i, i < 0 ∧ k i = x := fun ⟨i, hi, _⟩ => absurd hi (Nat.not_lt_zero _)
    rw [decide_eq_false h]
    rfl
  | n + 1 => by
    rw [putAll_succ, valV_put]
    by_cases e : x = k n
    · rw [if_pos e, decide_eq_true (⟨n, Nat.lt_succ_self _, e.symm⟩ : ∃ i, i < n + 1 ∧ k i = x)]
      rfl
    · rw [if_neg e, putAll_some n]
      by_cases h : ∃ i, i < n ∧ k i = x
      · obtain ⟨i, hi, hk⟩ := h
        rw [decide_eq_true (⟨i, hi, hk⟩ : ∃ i, i < n ∧ k i = x), decide_eq_true (⟨i, Nat.lt_succ_of_lt hi, hk⟩ : ∃ i, i < n + 1 ∧ k i = x)]
      · have h' : ¬ ∃ i, i < n + 1 ∧ k i = x := fun ⟨i, hi, hk⟩ => by
          by_cases hin : i = n
          · subst hin; exact e hk.symm
          · exact h ⟨i, by omega, hk⟩
        rw [decide_eq_false h, decide_eq_false h']
theorem putK_keys {kvs : List (Key × V)} {k : Key} {v : V} (h : (kvs.map (·.1)).Nodup) : ((putK kvs k v).map (·.1)).Nodup := by
  unfold putK
  split
  · rw [List.map_map]
    have e : kvs.map ((fun x => x.1) ∘ fun kv : Key × V => if kv.1 = k then (kv.1, v) else kv) = kvs.map (·.1) := by
      refine List.map_congr_left fun p _ => ?_
      show (if p.1 = k then (p.1, v) else p).1 = p.1
      split <;> rfl
    rw [e]
    exact h
  · rename_i hn
    rw [List.map_append, List.map_cons, List.map_nil, List.nodup_append]
    refine ⟨h, by simp, fun a ha b hb => ?_⟩
    have hbk : b = k := by simpa using hb
    subst hbk
    intro hab
    subst hab
    obtain ⟨p, hp, e⟩ := List.mem_map.mp ha
    refine hn (List.any_eq_true.mpr ⟨p, hp, decide_eq_true e⟩)
theorem putAll_keys (k : Nat → Key) (u : Nat → V) : ∀ n, ((putAll n k u).map (·.1)).Nodup
  | 0 => List.nodup_nil
  | n + 1 => by rw [putAll_succ]; exact putK_keys (putAll_keys k u n)
theorem putK_mem {kvs : List (Key × V)} {k k' : Key} {v v' : V} (h : (k', v') ∈ putK kvs k v) : (k', v') ∈ kvs ∨ (k' = k ∧ v' = v) := by
  unfold putK at h
  split at h
  · obtain ⟨p, hp, e⟩ := List.mem_map.mp h
    split at e
    · rename_i hk
      cases e
      exact .inr ⟨hk, rfl⟩
    · subst e
      exact .inl hp
  · rcases List.mem_append.mp h with h | h
    · exact .inl h
    · cases List.mem_singleton.mp h
      exact .inr ⟨rfl, rfl⟩
theorem putAll_strD {k u : Nat → Str} : ∀ n, StrD (putAll n (fun i => .inr (k i)) fun i => .str (u i))
  | 0 => fun _ _ h => by cases h
  | n + 1 => fun k' v' h => by
    rw [putAll_succ] at h
    rcases putK_mem h with h | ⟨h1, h2⟩
    · exact putAll_strD n k' v' h
    · exact ⟨_, _, h1, h2⟩
/-! ### what the program says of tasks and plans -/
def kB : PyData → Str | .tuple (.str b :: _) => b | _ => ""
def kE : PyData → Str | .tuple (_ :: .str e :: _) => e | _ => ""
def bg (ds : List PyData) : List (Key × V) := putAll ds.length (fun i => .inr (kE (ds.getD i .none))) fun i => .str (kB (ds.getD i .none))
def strOf : PyData → Str | .str x => x | _ => ""
def evs : PyData → List Str | .tuple ds => ds.map strOf | _ => []
open Classical in
noncomputable def areTasks (es : List Str) : PyData → Bool
  | .tuple ds => ds.all (isTask es) && (ascD ds && (decide (((bg ds).length : Int) = (ds.length : Int)) && @decide (Rooted (bg ds)) (Classical.propDecidable _)))
  | _ => false
noncomputable def isPlan : PyData → Bool
  | .tuple [l, e, b, t] => isMom l && (isEvents e && (areBounds (evs e) b && areTasks (evs e) t))
  | _ => false
def plOk : PyData → Prop := fun d => ∀ l e b t, d = .tuple [l, e, b, t] → evOk e ∧ (∀ ds, b = .tuple ds → ds.length ≤ 30000) ∧ ∀ ds, t = .tuple ds → ds.length ≤ 30000
section
variable {P : Program} {w : World} {K : PySem.W.Frag} {mg : Str → Option Value} {base : Heap} {tg : Tok} {f : Addr} {fd : FuncData}
abbrev s_is_task : Stmt := topS 15
theorem sc_is_task : FnScope ["events", "value", "begin", "end", "least", "greatest"] ["events", "value"] (defScope s_is_task) := ⟨rfl, rfl, rfl, by decide +kernel, rfl, by decide +kernel, by decide +kernel⟩
theorem ok_is_task (F : Fun K "is_task" "is_task" s_is_task f fd) (T : Txt mg tg) (C_is_integer : Cal P w K mg base 1 "is_integer" ["value"] (D1 K any isInt)) :
    FnOk P w K mg base CX0 2 f fd ["events", "value"] (D2 K any2 isTask) := by
  refine F.ok sc_is_task (fun vs H Q E h => ?_) (fun cdv A outer s H vs Q E hr h => ?_)
  · obtain ⟨u, v, es, d, rfl, _⟩ := h
    rfl
  · obtain ⟨u, v, es, d, rfl, hu, hd, htr, q⟩ := h
    refine ⟨_, (pss_cons (ps_if (PW.pt (pw_or (pt_not (pt_val (pe_callB (call_isiK' (K := K) rfl) (by rfl) T.isinstance (by decide +kernel) (pa_cons (pv 1) (pa_cons (pe_bltn (v := .ty "tuple") (u := .type "tuple") (by rfl) T.tuple (by decide +kernel) rfl) pa_nil))))) (pw_or1 (pt_cmpR op_ne (pe_callB (call_len_seqK (K := K) rfl) (by rfl) T.len (by decide +kernel) (pa_cons (pv 1) pa_nil)) pe_int (nomark _))))) (pss_one (ps_ret pe_bl)) pss_nil) (pss_cons (ps_asg (pv 1) (pg_tupK (K := K) (n := 4) rfl rfl (pgs_cons (pg_name (i := 2) sc_is_task.nd rfl (Or.inl rfl)) (pgs_cons (pg_name (i := 3) sc_is_task.nd rfl (Or.inl rfl)) (pgs_cons (pg_name (i := 4) sc_is_task.nd rfl (Or.inl rfl)) (pgs_cons (pg_name (i := 5) sc_is_task.nd rfl (Or.inl rfl)) pgs_nil)))))) (pss_cons (ps_if (PW.pt (pw_or (pt_not (pt_val (pe_callB (call_isiK' (K := K) rfl) (by rfl) T.isinstance (by decide +kernel) (pa_cons (pv 2) (pa_cons (pe_bltn (v := .ty "str") (u := .type "str") (by rfl) T.str (by decide +kernel) rfl) pa_nil))))) (pw_or1 (pt_not (pt_val (pe_callB (call_isiK' (K := K) rfl) (by rfl) T.isinstance (by decide +kernel) (pa_cons (pv 3) (pa_cons (pe_bltn (v := .ty "str") (u := .type "str") (by rfl) T.str (by decide +kernel) rfl) pa_nil)))))))) (pss_one (ps_ret pe_bl)) pss_nil) (pss_cons (ps_if (PW.pt (pw_or (pt_not (pt_val (pe_cal C_is_integer (by first | exact hr | exact hr.mono (by decide)) (by rfl) (pa_cons (pv 4) pa_nil)))) (pw_or1 (pt_not (pt_val (pe_cal C_is_integer (by first | exact hr | exact hr.mono (by decide)) (by rfl) (pa_cons (pv 5) pa_nil))))))) (pss_one (ps_ret pe_bl)) pss_nil) (pss_one (ps_ret (pe_and (pe_ei (pe_cmp (pc_din (hu_of hr) (pv 2) (pv 0)) rfl) (pe_cmpR (op_in_seqK (K := K) rfl) (pv 2) (pv 0) (by rfl))) (pe_and (pe_ei (pe_cmp (pc_din (hu_of hr) (pv 3) (pv 0)) rfl) (pe_cmpR (op_in_seqK (K := K) rfl) (pv 3) (pv 0) (by rfl))) (pe_one (pe_chain op_le op_le pe_int (pv 4) (pv 5))))))))))), ?_⟩
    refine q_when (et_tupN (n := 4) rfl (ev_var rfl) hd) (fun hb H1 e1 => s_ret ev_c fun H2 e2 => ?_) (fun hb H1 e1 => ?_)
    · have e : isTask es d = false := by
        cases h : isTask es d with
        | false => rfl
        | true =>
          obtain ⟨_, _, _, _, rfl⟩ := isTask_form h
          cases hb
      rw [e] at q
      exact q H2 (e1.trans e2)
    · obtain ⟨b, e, l, g, rfl⟩ := isTupN_4 (show isTupN 4 d = true by simpa using hb)
      refine q_unp4 (ed_of (ev_var rfl) (dp_ex e1 hd)) fun v1 v2 v3 v4 H2 e2 h1 h2 h3 h4 => ?_
      refine q_when (et_or (et_not (et_B (ev_isi okT_str (ev_var rfl) h1))) fun _ => et_not (et_B (ev_isi okT_str (ev_var rfl) h2))) (fun hb2 H3 e3 => s_ret ev_c fun H4 e4 => ?_) (fun hb2 H3 e3 => ?_)
      · have ef : isTask es (.tuple [b, e, l, g]) = false := by
          cases h : isTask es (.tuple [b, e, l, g]) with
          | false => rfl
          | true =>
            obtain ⟨_, _, _, _, z⟩ := isTask_form h
            cases z
            rw [isT_str, isT_str] at hb2
            cases hb2
        rw [ef] at q
        exact q H4 (((e1.trans e2).trans e3).trans e4)
      · rw [isT_str, isT_str] at hb2
        have e5 := (e2.trans e3)
        have g1 := dp_ex e3 h1
        have g2 := dp_ex e3 h2
        have g3 := dp_ex e3 h3
        have g4 := dp_ex e3 h4
        cases b <;> first | (cases hb2; done) | skip
        cases e <;> first | (cases hb2; done) | skip
        rename_i b e
        refine q_when (et_or (et_not (et_B (ev_call (ea_cons (ev_var rfl) ea_nil) (spv1 g3 trivial)))) fun _ => et_not (et_B (ev_call (ea_cons (ev_var rfl) ea_nil) (spv1 g4 trivial)))) (fun hb3 H4 e4 => s_ret ev_c fun H5 e5 => ?_) (fun hb3 H4 e4 => ?_)
        · have ef : isTask es (.tuple [.str b, .str e, l, g]) = false := by
            cases h : isTask es (.tuple [.str b, .str e, l, g]) with
            | false => rfl
            | true =>
              obtain ⟨_, _, _, _, z⟩ := isTask_form h
              cases z
              cases hb3
          rw [ef] at q
          exact q H5 ((((e1.trans e2).trans e3).trans e4).trans e5)
        · cases l <;> first | (cases hb3; done) | skip
          cases g <;> first | (cases hb3; done) | skip
          rename_i l g
          cases g1
          cases g2
          have k3 := dp_ex e4 g3
          have k4 := dp_ex e4 g4
          have hu4 := knows_ex (((e1.trans e2).trans e3).trans e4) hu
          refine s_ret (ev_andV (ev_knows (ev_var rfl) (ev_var rfl) hu4) fun _ => ev_andV (ev_knows (ev_var rfl) (ev_var rfl) hu4) fun _ => ev_chain (K := K) (ed_of ev_c (.int 1)) (ed_of (ev_var rfl) k3) rd_I0 (fun _ => ed_of (ev_var rfl) k4) fun _ => rd_I0) fun H5 e5 => q H5 ((((e1.trans e2).trans e3).trans e4).trans e5)
abbrev s_are_tasks : Stmt := topS 17
theorem sc_are_tasks : FnScope ["events", "value", "task", "begins"] ["events", "value"] (defScope s_are_tasks) := ⟨rfl, rfl, rfl, by decide +kernel, rfl, by decide +kernel, by decide +kernel⟩
theorem ok_are_tasks (F : Fun K "are_tasks" "are_tasks" s_are_tasks f fd) (T : Txt mg tg) (C_is_task : Cal P w K mg base 2 "is_task" ["events", "value"] (D2 K any2 isTask)) (C_ascends : Cal P w K mg base 1 "ascends" ["rows"] (spAsc K)) (C_is_rooted : Cal P w K mg base 1 "is_rooted" ["begins"] spRoot) :
    FnOk P w K mg base CX0 3 f fd ["events", "value"] (D2 K seqOk areTasks) := by
  refine F.ok sc_are_tasks (fun vs H Q E h => ?_) (fun cdv A outer s H vs Q E hr h => ?_)
  · obtain ⟨u, v, es, d, rfl, _⟩ := h
    rfl
  · obtain ⟨u, v, es, d, rfl, hu, hd, hk, q⟩ := h
    refine ⟨_, (pss_cons (ps_if (PW.pt (pw_or (pt_not (pt_val (pe_callB (call_isiK' (K := K) rfl) (by rfl) T.isinstance (by decide +kernel) (pa_cons (pv 1) (pa_cons (pe_bltn (v := .ty "tuple") (u := .type "tuple") (by rfl) T.tuple (by decide +kernel) rfl) pa_nil))))) (pw_or1 (pt_not (pt_val (pe_callB (cr_allK (K := K) rfl rfl) (by rfl) T.all (by decide +kernel) (pa_cons (pe_lc (own := [("task", 2)]) rfl sc_are_tasks.nd (pi_tupK (K := K) rfl (pv 1)) (blkOk_by (own := [("task", 2)]) (N := ["events", "value", "task", "begins"]) (sc := defScope s_are_tasks) (by decide +kernel)) (fun _ _ _ _ _ => (pg_name (i := 2) sc_are_tasks.nd rfl (Or.inl rfl))) (fun _ _ _ _ _ => pts_nil) (fun _ _ _ _ _ => (pe_cal C_is_task (by first | exact hr | exact hr.mono (by decide)) (by rfl) (pa_cons (pv 0) (pa_cons (pv 2) pa_nil))))) pa_nil))))))) (pss_one (ps_ret pe_bl)) pss_nil) (pss_cons (ps_setDc (i := 3) (own := [("task", 2)]) rfl sc_are_tasks.nd rfl rfl (sw_dc rfl rfl rfl (by decide +kernel)) (pi_tupK (K := K) rfl (pv 1)) (blkOk_by (own := [("task", 2)]) (N := ["events", "value", "task", "begins"]) (sc := defScope s_are_tasks) (by decide +kernel)) (fun _ _ _ _ _ => (pg_name (i := 2) sc_are_tasks.nd rfl (Or.inl rfl))) (fun _ _ _ _ _ => pts_nil) (fun _ _ _ _ _ => (pe_ix (ix_tupK (K := K) rfl) (pv 2) pe_int (fun _ _ => rfl))) (fun _ _ _ _ _ => (pe_ix (ix_tupK (K := K) rfl) (pv 2) pe_int (fun _ _ => rfl)))) (pss_one (ps_ret (pe_and (pe_cal C_ascends (by first | exact hr | exact hr.mono (by decide)) (by rfl) (pa_cons (pv 1) pa_nil)) (pe_and (pe_cmpR op_eq (pe_callB call_lenD (by rfl) T.len (by decide +kernel) (pa_cons (pv 3) pa_nil)) (pe_callB (call_len_seqK (K := K) rfl) (by rfl) T.len (by decide +kernel) (pa_cons (pv 1) pa_nil)) (nomark _)) (pe_one (pe_cal C_is_rooted (by first | exact hr | exact hr.mono (by decide)) (by rfl) (pa_cons (pv 3) pa_nil))))))))), ?_⟩
    cases hs : isT "tuple" d with
    | false =>
      refine q_when (b := true) (et_is (et_or (b := true) (et_not (et_B (ev_isi okT_tuple (ev_var rfl) hd))) fun h => ?_) (by rw [hs]; rfl)) (fun _ H1 e1 => s_ret ev_c fun H2 e2 => ?_) (fun h => nomatch h)
      · rw [hs] at h
        cases h
      · have e : areTasks es d = false := by
          rw [isT_tuple] at hs
          cases d <;> first | rfl | cases hs
        rw [e] at q
        exact q H2 (e1.trans e2)
    | true =>
      rw [isT_tuple] at hs
      cases d <;> cases hs
      rename_i ds
      have hz := hk ds rfl
      refine q_when (et_is (b := !ds.all (isTask es)) (et_or (et_not (et_B (ev_isi okT_tuple (ev_var rfl) hd))) fun _ => et_not (et_B (ev_is (ev_all (bs := ds.map (isTask es)) ?_) (by rw [all_id])))) ?_) (fun hb H1 e1 => s_ret ev_c fun H2 e2 => ?_) (fun hb H1 e1 => ?_)
      · rw [← givenD_all]
        refine ed_n (en_lcT (fun _ => true) _ (ed_of (ev_var rfl) hd) (by omega) (fun _ _ => rfl) fun i x d H1 e1 hi hx => ?_)
        refine ⟨_, ?_, goes_name, fun H1 e Q q => q H1 (Ex.refl H1), fun _ => ?_⟩
        · rfl
        rw [getD_of hi]
        exact ed_of (ev_call (ea_cons (ev_var rfl) (ea_cons (ev_var rfl) ea_nil)) (spv2 (knows_ex e1 hu) hx trivial)) (.bl _)
      · rw [isT_tuple]; rfl
      · have e : areTasks es (.tuple ds) = false := by
          have h1 : ds.all (isTask es) = false := by simpa using hb
          show (ds.all (isTask es) && _) = false
          rw [h1]
          rfl
        rw [e] at q
        exact q H2 (e1.trans e2)
      · have ha : ds.all (isTask es) = true := by
          cases h : ds.all (isTask es) with
          | true => rfl
          | false => rw [h] at hb; cases hb
        have e : areTasks es (.tuple ds) = (ascD ds && (decide (((bg ds).length : Int) = (ds.length : Int)) && @decide (Rooted (bg ds)) (Classical.propDecidable _))) := by
          show (ds.all (isTask es) && _) = _
          rw [ha]
          rfl
        rw [e] at q
        have hd1 := dp_ex e1 hd
        have ha2 := List.all_eq_true.mp ha
        refine q_asgK (kvs := bg ds) (ek_dcT _ _ (ed_of (ev_var rfl) hd1) (by omega) fun i x d H2 e2 hi hx => ?_) fun p H2 hp e2 hk2 => ?_
        · refine ⟨_, ?_, goes_name, fun H1 e Q q => q H1 (Ex.refl H1), ?_, ?_⟩
          · rfl
          · obtain ⟨b, e, l, g, rfl⟩ := isTask_form (ha2 d (List.mem_of_getElem? hi))
            rw [getD_of hi]
            exact ev_strD (ed_ixT 1 (ed_of (ev_var rfl) hx) ev_c rfl rfl)
          · obtain ⟨b, e, l, g, rfl⟩ := isTask_form (ha2 d (List.mem_of_getElem? hi))
            rw [getD_of hi]
            exact ev_strD (ed_ixT 0 (ed_of (ev_var rfl) hx) ev_c rfl rfl)
        · have hd2 := dp_ex e2 hd1
          refine s_ret (ev_andV (ev_call (ea_cons (ev_var rfl) ea_nil) (spvA (b := false) hd2 (ascOk_tasks hz ha))) fun _ => ev_andV (ev_opD (K := K) (ed_of (v := .int ((bg ds).length : Int)) ?_ (.int _)) (ed_of (ev_lenD (K := K) (ed_of (ev_var rfl) hd2)) (.int _)) rd_eqI) fun _ => ev_call (ea_cons (ev_var rfl) ea_nil) (spvR hk2 (putAll_strD _) (putAll_keys _ _ _) ?_)) fun H3 e3 => q H3 ((e1.trans e2).trans e3)
          · exact ev_cb (ea_cons (ev_var rfl) ea_nil) fun H3 e3 Q q => ⟨p, bg ds, rfl, e3 _ _ hk2, q H3 (Ex.refl H3)⟩
          · have := putAll_len (fun i => .inr (kE (ds.getD i .none))) (fun i => .str (kB (ds.getD i .none))) ds.length
            unfold bg
            omega
abbrev s_is_plan : Stmt := topS 18
theorem sc_is_plan : FnScope ["value", "latest", "events", "bounds", "tasks", "event", "known"] ["value"] (defScope s_is_plan) := ⟨rfl, rfl, rfl, by decide +kernel, rfl, by decide +kernel, by decide +kernel⟩
theorem ok_is_plan (F : Fun K "is_plan" "is_plan" s_is_plan f fd) (T : Txt mg tg) (C_is_moment : Cal P w K mg base 2 "is_moment" ["value"] (D1 K any isMom)) (C_are_events : Cal P w K mg base 2 "are_events" ["value"] (D1 K evOk isEvents))
    (C_are_bounds : Cal P w K mg base 4 "are_bounds" ["events", "value"] (D2 K seqOk areBounds)) (C_are_tasks : Cal P w K mg base 3 "are_tasks" ["events", "value"] (D2 K seqOk areTasks)) : FnOk P w K mg base CX0 5 f fd ["value"] (D1 K plOk isPlan) := by
  refine F.ok sc_is_plan (fun vs H Q E h => ?_) (fun cdv A outer s H vs Q E hr h => ?_)
  · obtain ⟨v, d, rfl, _⟩ := h
    rfl
  · obtain ⟨v, d, rfl, hd, hk, q⟩ := h
    refine ⟨_, (pss_cons (ps_if (PW.pt (pw_or (pt_not (pt_val (pe_callB (call_isiK' (K := K) rfl) (by rfl) T.isinstance (by decide +kernel) (pa_cons (pv 0) (pa_cons (pe_bltn (v := .ty "tuple") (u := .type "tuple") (by rfl) T.tuple (by decide +kernel) rfl) pa_nil))))) (pw_or1 (pt_cmpR op_ne (pe_callB (call_len_seqK (K := K) rfl) (by rfl) T.len (by decide +kernel) (pa_cons (pv 0) pa_nil)) pe_int (nomark _))))) (pss_one (ps_ret pe_bl)) pss_nil) (pss_cons (ps_asg (pv 0) (pg_tupK (K := K) (n := 4) rfl rfl (pgs_cons (pg_name (i := 1) sc_is_plan.nd rfl (Or.inl rfl)) (pgs_cons (pg_name (i := 2) sc_is_plan.nd rfl (Or.inl rfl)) (pgs_cons (pg_name (i := 3) sc_is_plan.nd rfl (Or.inl rfl)) (pgs_cons (pg_name (i := 4) sc_is_plan.nd rfl (Or.inl rfl)) pgs_nil)))))) (pss_cons (ps_if (PW.pt (pw_or (pt_not (pt_val (pe_cal C_is_moment (by first | exact hr | exact hr.mono (by decide)) (by rfl) (pa_cons (pv 1) pa_nil)))) (pw_or1 (pt_not (pt_val (pe_cal C_are_events (by first | exact hr | exact hr.mono (by decide)) (by rfl) (pa_cons (pv 2) pa_nil))))))) (pss_one (ps_ret pe_bl)) pss_nil) (pss_cons (ps_setDc (i := 6) (own := [("event", 5)]) rfl sc_is_plan.nd rfl rfl (sw_dc rfl rfl rfl (by decide +kernel)) (pi_tupK (K := K) rfl (pv 2)) (blkOk_by (own := [("event", 5)]) (N := ["value", "latest", "events", "bounds", "tasks", "event", "known"]) (sc := defScope s_is_plan) (by decide +kernel)) (fun _ _ _ _ _ => (pg_name (i := 5) sc_is_plan.nd rfl (Or.inl rfl))) (fun _ _ _ _ _ => pts_nil) (fun _ _ _ _ _ => (pv 5)) (fun _ _ _ _ _ => pe_bl)) (pss_one (ps_ret (pe_and (pe_cal C_are_bounds (by first | exact hr | exact hr.mono (by decide)) (by rfl) (pa_cons (pv 6) (pa_cons (pv 3) pa_nil))) (pe_one (pe_cal C_are_tasks (by first | exact hr | exact hr.mono (by decide)) (by rfl) (pa_cons (pv 6) (pa_cons (pv 4) pa_nil))))))))))), ?_⟩
    refine q_when (et_tupN (n := 4) rfl (ev_var rfl) hd) (fun hb H1 e1 => s_ret ev_c fun H2 e2 => ?_) (fun hb H1 e1 => ?_)
    · have e : isPlan d = false := by
        have h1 : isTupN 4 d = false := by simpa using hb
        cases d <;> first | rfl | skip
        rename_i ds
        match ds, h1 with
        | [], _ => rfl
        | [_], _ => rfl
        | [_, _], _ => rfl
        | [_, _, _], _ => rfl
        | [_, _, _, _], h1 => cases h1
        | _ :: _ :: _ :: _ :: _ :: _, _ => rfl
      rw [e] at q
      exact q H2 (e1.trans e2)
    · obtain ⟨l, e, b, t, rfl⟩ := isTupN_4 (show isTupN 4 d = true by simpa using hb)
      obtain ⟨k1, k2, k3⟩ := hk l e b t rfl
      refine q_unp4 (ed_of (ev_var rfl) (dp_ex e1 hd)) fun v1 v2 v3 v4 H2 e2 h1 h2 h3 h4 => ?_
      refine q_when (et_or (et_not (et_B (ev_call (ea_cons (ev_var rfl) ea_nil) (spv1 h1 trivial)))) fun _ => et_not (et_B (ev_call (ea_cons (ev_var rfl) ea_nil) (spv1 h2 k1)))) (fun hb2 H3 e3 => s_ret ev_c fun H4 e4 => ?_) (fun hb2 H3 e3 => ?_)
      · have ef : isPlan (.tuple [l, e, b, t]) = false := by
          show (isMom l && (isEvents e && _)) = false
          cases hm : isMom l with
          | false => rfl
          | true =>
            rw [hm] at hb2
            have h5 : isEvents e = false := by simpa using hb2
            rw [h5]
            rfl
        rw [ef] at q
        exact q H4 (((e1.trans e2).trans e3).trans e4)
      · have hm : isMom l = true := by
          cases h : isMom l with
          | true => rfl
          | false => rw [h] at hb2; cases hb2
        have he : isEvents e = true := by
          rw [hm] at hb2
          simpa using hb2
        have ef : isPlan (.tuple [l, e, b, t]) = (areBounds (evs e) b && areTasks (evs e) t) := by
          show (isMom l && (isEvents e && _)) = _
          rw [hm, he]
          rfl
        rw [ef] at q
        cases e <;> first | (cases he; done) | skip
        rename_i ds
        have hn : ds.all isName = true := (Bool.and_eq_true_iff.mp (show (ds.all isName && ascD ds) = true from he)).1
        rw [List.all_eq_true] at hn
        have hz := (k1 ds rfl).1
        have h2' := dp_ex e3 h2
        have h3' := dp_ex e3 h3
        have h4' := dp_ex e3 h4
        refine q_asgK (kvs := putAll ds.length (fun i => .inr (strOf (ds.getD i .none))) fun _ => .bl true) (ek_dcT _ _ (ed_of (ev_var rfl) h2') (by omega) fun i x d H4 e4 hi hx => ?_) fun p H4 hp e4 hk4 => ?_
        · refine ⟨_, ?_, goes_name, fun H1 e Q q => q H1 (Ex.refl H1), ?_, ev_c⟩
          · rfl
          · obtain ⟨y, rfl⟩ := isName_str (hn d (List.mem_of_getElem? hi))
            rw [getD_of hi]
            cases hx
            exact ev_var rfl
        · have kn : Knows K H4 (.ref p) (evs (.tuple ds)) := by
            refine ⟨p, rfl, .inl ⟨_, hk4, fun x => ?_⟩⟩
            rw [putAll_some]
            have hiff : (∃ i, i < ds.length ∧ (Sum.inr (strOf (ds.getD i .none)) : Key) = .inr x) ↔ x ∈ evs (.tuple ds) := by
              show _ ↔ x ∈ ds.map strOf
              rw [List.mem_map]
              constructor
              · rintro ⟨i, hi, e⟩
                refine ⟨ds.getD i .none, ?_, Sum.inr.inj e⟩
                simp [List.getD, hi]
              · rintro ⟨d, hd, rfl⟩
                obtain ⟨i, hi, e⟩ := List.getElem_of_mem hd
                refine ⟨i, hi, ?_⟩
                have e2 : ds.getD i .none = d := by rw [← e]; simp [List.getD, hi]
                rw [e2]
            by_cases h : x ∈ evs (.tuple ds)
            · rw [decide_eq_true h, decide_eq_true (hiff.mpr h)]
            · rw [decide_eq_false h, decide_eq_false fun z => h (hiff.mp z)]
          refine s_ret (ev_andV (ev_call (ea_cons (ev_var rfl) (ea_cons (ev_var rfl) ea_nil)) (spv2 kn (dp_ex e4 h3') k2)) fun _ => ev_call (ea_cons (ev_var rfl) (ea_cons (ev_var rfl) ea_nil)) (spv2 kn (dp_ex e4 h4') k3)) fun H5 e5 => q H5 ((((e1.trans e2).trans e3).trans e4).trans e5)
end
end Vf
end
section
set_option Elab.async false
set_option linter.all false
set_option maxRecDepth 100000
set_option maxHeartbeats 4000000
namespace Vf
open PySem PySem.Spec PyProof.Rows L2 Evl
/-! ### plans that are right -/
theorem mem_keys {ts : List PyData} {g : PyData → Str} {x : Str} : (∃ i, i < ts.length ∧ (Sum.inr (g (ts.getD i .none)) : Key) = .inr x) ↔ x ∈ ts.map g := by
  rw [List.mem_map]
  constructor
  · rintro ⟨i, hi, e⟩
    refine ⟨ts.getD i .none, ?_, Sum.inr.inj e⟩
    simp [List.getD, hi]
  · rintro ⟨d, hd, rfl⟩
    obtain ⟨i, hi, e⟩ := List.getElem_of_mem hd
    refine ⟨i, hi, ?_⟩
    have e2 : ts.getD i .none = d := by rw [← e]; simp [List.getD, hi]
    rw [e2]
theorem dec_congr {p q : Prop} [Decidable p] [Decidable q] (h : p ↔ q) : decide p = decide q := by
  by_cases hp : p
  · rw [decide_eq_true hp, decide_eq_true (h.mp hp)]
  · rw [decide_eq_false hp, decide_eq_false fun z => hp (h.mpr z)]
structure PlanIs (d : PyData) (n : Int) (es bs ts : List PyData) : Prop where
  form : d = .tuple [.int n, .tuple es, .tuple bs, .tuple ts]
  lat : 0 ≤ n
  nam : ∀ e ∈ es, isName e = true
  asc : ascD es = true
  bnd : ∀ b ∈ bs, isBound (es.map strOf) b = true
  tsk : ∀ t ∈ ts, isTask (es.map strOf) t = true
  esz : es.length ≤ 30000
  bsz : bs.length ≤ 30000
  tsz : ts.length ≤ 30000
  root : Rooted (bg ts)
  uni : ((bg ts).length : Int) = (ts.length : Int)
theorem plan_is {d : PyData} (h : isPlan d = true) (hk : plOk d) : ∃ n es bs ts, PlanIs d n es bs ts := by
  cases d <;> first | (cases h; done) | skip
  rename_i ds
  match ds, h, hk with
  | [l, e, b, t], h, hk =>
    obtain ⟨k1, k2, k3⟩ := hk l e b t rfl
    have h' : (isMom l && (isEvents e && (areBounds (evs e) b && areTasks (evs e) t))) = true := h
    rw [Bool.and_eq_true, Bool.and_eq_true, Bool.and_eq_true] at h'
    obtain ⟨hl, he, hb, ht⟩ := h'
    cases l <;> first | (cases hl; done) | skip
    cases e <;> first | (cases he; done) | skip
    cases b <;> first | (cases hb; done) | skip
    cases t <;> first | (cases ht; done) | skip
    rename_i n es bs ts
    have he2 := Bool.and_eq_true_iff.mp (show (es.all isName && ascD es) = true from he)
    have hb2 := Bool.and_eq_true_iff.mp (show (bs.all (isBound (es.map strOf)) && ascD (bs.map cut2)) = true from hb)
    have ht2 : (ts.all (isTask (es.map strOf)) && (ascD ts && (decide (((bg ts).length : Int) = (ts.length : Int)) && @decide (Rooted (bg ts)) (Classical.propDecidable _)))) = true := ht
    rw [Bool.and_eq_true, Bool.and_eq_true, Bool.and_eq_true] at ht2
    exact ⟨n, es, bs, ts, rfl, of_decide_eq_true hl, List.all_eq_true.mp he2.1, he2.2, List.all_eq_true.mp hb2.1, List.all_eq_true.mp ht2.1, (k1 es rfl).1, k2 bs rfl, k3 ts rfl, @of_decide_eq_true _ (Classical.propDecidable _) ht2.2.2.2, of_decide_eq_true ht2.2.2.1⟩
/-- what is asked of the plan that a function is given -/
def PlanOk (K : PySem.W.Frag) (H : Hp) (v : V) (d : PyData) : Prop := Dp K H v d ∧ plOk d ∧ isPlan d = true
theorem planOk_ex {K : PySem.W.Frag} {H H' : Hp} {v : V} {d : PyData} (e : Ex H H') (h : PlanOk K H v d) : PlanOk K H' v d := ⟨dp_ex e h.1, h.2.1, h.2.2⟩
/-- its parts in the heap -/
theorem plan_at {K : PySem.W.Frag} {H : Hp} {v : V} {d : PyData} {n : Int} {es bs ts : List PyData} (h : Dp K H v d) (p : PlanIs d n es bs ts) : ∃ a v1 v2 v3, v = .ref a ∧ SqT K H a [.int n, v1, v2, v3] ∧ Dp K H v1 (.tuple es) ∧ Dp K H v2 (.tuple bs) ∧ Dp K H v3 (.tuple ts) := by
  have e := p.form
  subst e
  cases h with
  | tup hs ha =>
    cases ha with
    | cons h0 ha => cases ha with
      | cons h1 ha => cases ha with
        | cons h2 ha => cases ha with
          | cons h3 ha =>
            cases ha
            cases h0
            exact ⟨_, _, _, _, rfl, hs, h1, h2, h3⟩
abbrev spReq (K : PySem.W.Frag) : Sp := fun vs H Q _ => ∃ v d, vs = [v] ∧ PlanOk K H v d ∧ RetV .non H Q
theorem spvReq {K : PySem.W.Frag} {H : Hp} {v : V} {d : PyData} (h : PlanOk K H v d) : SpV (spReq K) [v] H .non := fun H1 e Q q E => ⟨v, d, rfl, planOk_ex e h, q⟩
/-- a new list of data comes back -/
abbrev RetN (K : PySem.W.Frag) (ds : List PyData) (H : Hp) (Q : VK) : Prop := ∀ p xs H2, H p = none → Ex H H2 → H2 p = some (.lst xs) → DpAll K H2 xs ds → Q (.ref p) H2
theorem s_retN {K : PySem.W.Frag} {te : TE} {σ : L2.St} {H H0 : Hp} {ds : List PyData} {nx : L2.St → Hp → Prop} {Q : VK} (e : Ex H0 H) (h : EvN K te σ H ds) (q : RetN K ds H0 Q) : tRet te { nx := nx, rt := Q } σ H :=
  h H (Ex.refl H) _ fun p xs H2 hp e2 h2 ha => q p xs H2 (fresh_back e hp) (e.trans e2) h2 ha
def ourEvs (es ts : List PyData) : List PyData := es.filter fun e => !decide (strOf e ∈ ts.map kE)
def oursD : PyData → List PyData | .tuple [_, .tuple es, _, .tuple ts] => ourEvs es ts | _ => []
abbrev spOurs (K : PySem.W.Frag) : Sp := fun vs H Q _ => ∃ v d, vs = [v] ∧ PlanOk K H v d ∧ RetN K (oursD d) H Q
theorem givenD_sel (ds : List PyData) (p : PyData → Bool) (g : PyData → PyData) : givenD ds.length (fun i => p (ds.getD i .none)) (fun i => g (ds.getD i .none)) = (ds.filter p).map g := by
  unfold givenD
  have e : ds = (List.range ds.length).map fun i => ds.getD i .none := by
    refine List.ext_getElem (by simp) fun i h1 h2 => ?_
    simp [List.getD, h1]
  have e2 : ds.filter p = ((List.range ds.length).filter (fun i => p (ds.getD i .none))).map fun i => ds.getD i .none := by
    conv => lhs; rw [e, List.filter_map]
    rfl
  rw [e2, List.map_map]
  rfl
/-! ### moments -/
def toV : PyData → V | .int i => .int i | _ => .non
def momN (es ms : List PyData) : Nat → List (Key × V)
  | 0 => [(.inr "go", .int 0)]
  | n + 1 => putK (momN es ms n) (.inr (strOf (es.getD n .none))) (toV (ms.getD n .none))
def momD (es ms : List PyData) : List (Key × V) := momN es ms es.length
theorem momN_len (es ms : List PyData) : ∀ n, (momN es ms n).length ≤ n + 1
  | 0 => Nat.le_refl _
  | n + 1 => by
    have h1 := length_putK (momN es ms n) (.inr (strOf (es.getD n .none))) (toV (ms.getD n .none))
    have h2 := momN_len es ms n
    show (putK _ _ _).length ≤ n + 1 + 1
    omega
abbrev RetK (kvs : List (Key × V)) (H : Hp) (Q : VK) : Prop := ∀ p H2, H p = none → Ex H H2 → H2 p = some (.dK kvs) → Q (.ref p) H2
abbrev spMo (K : PySem.W.Frag) : Sp := fun vs H Q _ => ∃ v d n es bs ts u ms, vs = [v, u] ∧ Dp K H v d ∧ PlanIs d n es bs ts ∧ Dp K H u (.tuple ms) ∧ (∀ m ∈ ms, isMom m = true) ∧ ms.length = es.length ∧ RetK (momD es ms) H Q
/-- a loop over zip of two tuples of one length -/
theorem q_forZip {K : PySem.W.Frag} {Hb H : Hp} {σ : L2.St} {tx ty : TE} {tu tz : TS} {D : Ends} {a b : Addr} {xs ys : List V} {j k : Nat} (h1 : Ev tx σ H (.ref a)) (h2 : Ev ty σ H (.ref b)) (hb : Ex Hb H) (ha : SqT K Hb a xs) (hb' : SqT K Hb b ys) (hl : xs.length = ys.length)
    (Pv : Nat → L2.St → Hp → Prop) (h0 : ∀ H1, Ex H H1 → Pv 0 σ H1) (hE : ∀ i σ' H', Pv i σ' H' → Ex Hb H')
    (hs : ∀ i x y T σ' H', xs[i]? = some x → ys[i]? = some y → Pv i σ' H' → H' T = none → tu { D with nx := Pv (i + 1), ct := Pv (i + 1), bk := tz D } ((σ'.set j (some x)).set k (some y)) (upd H' T (.tup [x, y])))
    (hd : ∀ σ' H', Pv xs.length σ' H' → tz D σ' H') : tSeq (tFor (RZ.iZipA K (tCons tx (tCons ty tNil))) (gTup K 2 (gCons (gName j) (gCons (gName k) gNil))) tu) tz D σ H :=
  h1 H (Ex.refl H) _ fun H1 e1 => h2 H1 e1 _ fun H2 e2 => ⟨a, b, xs, ys, rfl, .inr ⟨ex_t ((hb.trans e1).trans e2) ha, ex_t ((hb.trans e1).trans e2) hb', RZ.for_zipT (D := { D with nx := tz D }) hl Pv (h0 H2 (e1.trans e2)) (fun i σ' H' p => ⟨ex_t (hE i σ' H' p) ha, ex_t (hE i σ' H' p) hb'⟩)
    (fun i x y T σ' H' hx hy p hT => goes_tup2 (H := upd H' T (.tup [x, y])) (st_of upd_same) _ _ (Ex.refl _) (hs i x y T σ' H' hx hy p hT)) hd⟩⟩
section
variable {P : Program} {w : World} {K : PySem.W.Frag} {mg : Str → Option Value} {base : Heap} {tg : Tok} {f : Addr} {fd : FuncData}
abbrev s_require_plan : Stmt := topS 19
theorem sc_require_plan : FnScope ["plan"] ["plan"] (defScope s_require_plan) := ⟨rfl, rfl, rfl, by decide +kernel, rfl, by decide +kernel, by decide +kernel⟩
theorem ok_require_plan (F : Fun K "require_plan" "require_plan" s_require_plan f fd) (T : Txt mg tg) (C_is_plan : Cal P w K mg base 5 "is_plan" ["value"] (D1 K plOk isPlan)) : FnOk P w K mg base CX0 6 f fd ["plan"] (spReq K) := by
  refine F.ok sc_require_plan (fun vs H Q E h => ?_) (fun cdv A outer s H vs Q E hr h => ?_)
  · obtain ⟨v, d, rfl, _⟩ := h
    rfl
  · obtain ⟨v, d, rfl, ⟨hd, hk, hp⟩, q⟩ := h
    refine ⟨_, (pss_one (ps_if (pt_not (pt_val (pe_cal C_is_plan (by first | exact hr | exact hr.mono (by decide)) (by rfl) (pa_cons (pv 0) pa_nil)))) (pss_one ps_never) pss_nil)), ?_⟩
    refine s_when (b := false) (et_is (et_not (et_B (ev_call (ea_cons (ev_var rfl) ea_nil) (spv1 hd hk)))) (by rw [hp]; rfl)) (fun h => nomatch h) fun _ H1 e1 => q H1 e1
abbrev s_ours : Stmt := topS 20
theorem sc_ours : FnScope ["plan", "task", "ends", "event"] ["plan"] (defScope s_ours) := ⟨rfl, rfl, rfl, by decide +kernel, rfl, by decide +kernel, by decide +kernel⟩
theorem ok_ours (F : Fun K "ours" "ours" s_ours f fd) (T : Txt mg tg) (C_require_plan : Cal P w K mg base 6 "require_plan" ["plan"] (spReq K)) : FnOk P w K mg base CX0 7 f fd ["plan"] (spOurs K) := by
  refine F.ok sc_ours (fun vs H Q E h => ?_) (fun cdv A outer s H vs Q E hr h => ?_)
  · obtain ⟨v, d, rfl, _⟩ := h
    rfl
  · obtain ⟨v, d, rfl, hP, q⟩ := h
    refine ⟨_, (pss_cons (ps_expr (pe_cal C_require_plan (by first | exact hr | exact hr.mono (by decide)) (by rfl) (pa_cons (pv 0) pa_nil))) (pss_cons (ps_set (i := 2) sc_ours.nd rfl (Or.inr rfl) (pe_dc (own := [("task", 1)]) rfl sc_ours.nd (pi_tupK (K := K) rfl (pe_ix (ix_tupK (K := K) rfl) (pv 0) pe_int (fun _ _ => rfl))) (blkOk_by (own := [("task", 1)]) (N := ["plan", "task", "ends", "event"]) (sc := defScope s_ours) (by decide +kernel)) (fun _ _ _ _ _ => (pg_name (i := 1) sc_ours.nd rfl (Or.inl rfl))) (fun _ _ _ _ _ => pts_nil) (fun _ _ _ _ _ => (pe_ix (ix_tupK (K := K) rfl) (pv 1) pe_int (fun _ _ => rfl))) (fun _ _ _ _ _ => pe_bl))) (pss_one (ps_ret (pe_lc (own := [("event", 3)]) rfl sc_ours.nd (pi_tupK (K := K) rfl (pe_ix (ix_tupK (K := K) rfl) (pv 0) pe_int (fun _ _ => rfl))) (blkOk_by (own := [("event", 3)]) (N := ["plan", "task", "ends", "event"]) (sc := defScope s_ours) (by decide +kernel)) (fun _ _ _ _ _ => (pg_name (i := 3) sc_ours.nd rfl (Or.inl rfl))) (fun _ _ _ _ _ => (pts_one (pt_cmp (pc_dnotin (hu_of hr) (pv 3) (pv 2))))) (fun _ _ _ _ _ => (pv 3))))))), ?_⟩
    obtain ⟨n, es, bs, ts, p⟩ := plan_is hP.2.2 hP.2.1
    have ed := p.form
    refine q_drop (ev_call (ea_cons (ev_var rfl) ea_nil) (spvReq hP)) fun H1 e1 => ?_
    have hd1 := dp_ex e1 hP.1
    subst ed
    refine q_asgK (kvs := putAll ts.length (fun i => .inr (kE (ts.getD i .none))) fun _ => .bl true) (ek_dcT _ _ (ed_ixT 3 (ed_of (ev_var rfl) hd1) ev_c rfl rfl) (by have := p.tsz; omega) fun i x d H4 e4 hi hx => ?_) fun a H2 ha e2 hk => ?_
    · refine ⟨_, ?_, goes_name, fun H1 e Q q => q H1 (Ex.refl H1), ?_, ev_c⟩
      · rfl
      · obtain ⟨b, e, l, g, rfl⟩ := isTask_form (p.tsk d (List.mem_of_getElem? hi))
        rw [getD_of hi]
        exact ev_strD (ed_ixT 1 (ed_of (ev_var rfl) hx) ev_c rfl rfl)
    · refine s_retN (e1.trans e2) ?_ q
      show EvN K _ _ _ (ourEvs es ts)
      have eq1 : ourEvs es ts = givenD es.length (fun i => !decide (strOf (es.getD i .none) ∈ ts.map kE)) (fun i => es.getD i .none) := by
        have h := givenD_sel es (fun e => !decide (strOf e ∈ ts.map kE)) id
        rw [List.map_id] at h
        exact h.symm
      rw [eq1]
      refine en_lcT _ _ (ed_ixT 1 (ed_of (ev_var rfl) (dp_ex e2 hd1)) ev_c rfl rfl) (by have := p.esz; omega) (fun i _ => ?_) fun i x d H3 e3 hi hx => ?_
      · by_cases hi : i < es.length
        · obtain ⟨y, e⟩ := isName_str (p.nam (es.getD i .none) (by simp [List.getD, hi]))
          rw [e]
          rfl
        · have e : es.getD i .none = .none := by simp [List.getD, hi]
          rw [e]
          rfl
      · obtain ⟨y, rfl⟩ := isName_str (p.nam d (List.mem_of_getElem? hi))
        cases hx
        refine ⟨_, ?_, goes_name, ?_, fun _ => ?_⟩
        · rfl
        · rw [getD_of hi]
          refine et_B (ev_dnin (k := .inr y) (ev_var rfl) (ev_var rfl) (e3 _ _ hk) ?_)
          rw [putAll_some]
          exact dec_congr mem_keys
        · rw [getD_of hi]
          exact ed_of (ev_var rfl) (.str y)
abbrev s_moments_by_place : Stmt := topS 21
theorem sc_moments_by_place : FnScope ["plan", "run", "moments", "event", "moment"] ["plan", "run"] (defScope s_moments_by_place) := ⟨rfl, rfl, rfl, by decide +kernel, rfl, by decide +kernel, by decide +kernel⟩
theorem ok_moments_by_place (F : Fun K "moments_by_place" "moments_by_place" s_moments_by_place f fd) (T : Txt mg tg) : FnOk P w K mg base CX0 1 f fd ["plan", "run"] (spMo K) := by
  refine F.ok sc_moments_by_place (fun vs H Q E h => ?_) (fun cdv A outer s H vs Q E hr h => ?_)
  · obtain ⟨v, d, n, es, bs, ts, u, ms, rfl, _⟩ := h
    rfl
  · obtain ⟨v, d, n, es, bs, ts, u, ms, rfl, hd, p, hu, hm, hl, q⟩ := h
    refine ⟨_, (pss_cons (ps_set (i := 2) sc_moments_by_place.nd rfl (Or.inl rfl) (pe_disp (pps_cons (pe_glob (v := .str "go") (by rfl) T.GO ⟨_, rfl⟩) pe_int pps_nil) (by rfl) (by rfl) (fun z => by cases z) (by decide))) (pss_cons (ps_for PassesOwn.never rfl (RZ.pi_zipA (by rfl) T.zip (pa_cons (pe_ix (ix_tupK (K := K) rfl) (pv 0) pe_int (fun _ _ => rfl)) (pa_cons (pv 1) pa_nil))) (pg_tupK (K := K) (n := 2) rfl rfl (pgs_cons (pg_name (i := 3) sc_moments_by_place.nd rfl (Or.inl rfl)) (pgs_cons (pg_name (i := 4) sc_moments_by_place.nd rfl (Or.inl rfl)) pgs_nil))) (pss_one (ps_dput (hu_of hr) (pv 2) (pv 3) (pv 4) rfl))) (pss_one (ps_ret (pv 2))))), ?_⟩
    obtain ⟨a, v1, v2, v3, rfl, hs, h1, h2, h3⟩ := plan_at hd p
    cases h1 with
    | @tup b xs _ hx ax =>
      cases hu with
      | @tup c ys _ hy ay =>
        intro m hm0
        refine ⟨upd_same, [(.inr "go", .int 0)], rfl, by decide, ?_⟩
        rw [upd_upd]
        show tSeq _ _ _ _ (upd H m (.dK [(.inr "go", .int 0)]))
        have e0 : Ex H (upd H m (.dK [(.inr "go", .int 0)])) := Ex.new hm0
        refine q_forZip (Hb := H) (a := b) (b := c) (xs := xs) (ys := ys) (ev_op (ev_var rfl) ev_c (rv_ixT (ex_t e0 hs) rfl)) (ev_var rfl) e0 hx hy (by rw [dpa_len ax, dpa_len ay]; exact hl.symm)
          (fun i σ' H' => ∃ x3 x4, σ' = [some (.ref a), some (.ref c), some (.ref m), x3, x4] ∧ Ex H H' ∧ H' m = some (.dK (momN es ms i))) (fun H1 e1 => ⟨none, none, rfl, e0.trans e1, e1 _ _ upd_same⟩) (fun i σ' H' ⟨_, _, _, e, _⟩ => e) (fun i x y t σ' H' hi hj ⟨x3, x4, eσ, e1, hk⟩ ht => ?_) fun σ' H' ⟨x3, x4, eσ, e1, hk⟩ => ?_
        · subst eσ
          obtain ⟨d1, g1, k1⟩ := dpa_get ax hi
          obtain ⟨d2, g2, k2⟩ := dpa_get ay hj
          obtain ⟨z, rfl⟩ := isName_str (p.nam d1 (List.mem_of_getElem? g1))
          have hz := hm d2 (List.mem_of_getElem? g2)
          cases d2 <;> first | (cases hz; done) | skip
          rename_i i2
          cases k1
          cases k2
          have hmt : m ≠ t := fun z => by subst z; rw [hk] at ht; cases ht
          refine s_dput (k := .inr z) (kvs := momN es ms i) (by rw [upd_ne hmt]; exact hk) (ev_var rfl) (ev_var rfl) (ev_var rfl) (by have := momN_len es ms i; have := (List.getElem?_eq_some_iff.mp g1).1; have := p.esz; omega) fun H2 e2 => ⟨_, _, rfl, ?_, ?_⟩
          · exact Ex.mut ((e1.trans (Ex.new ht)).trans e2) hm0
          · rw [upd_same]
            show _ = some (HO.dK (putK (momN es ms i) (.inr (strOf (es.getD i .none))) (toV (ms.getD i .none))))
            rw [getD_of g1, getD_of g2]
            rfl
        · subst eσ
          rw [dpa_len ax] at hk
          exact s_ret (ev_var rfl) fun H2 e2 => q m H2 hm0 (e1.trans e2) (e2 _ _ hk)
end
end Vf
end
section
set_option Elab.async false
set_option linter.all false
set_option maxRecDepth 100000
set_option maxHeartbeats 4000000
namespace Vf
open PySem PySem.Spec PyProof.Rows L2 Evl
/-! ### runs -/
/-- the moment of a place -/
def momOf (kvs : List (Key × V)) (x : Str) : Int := match valV kvs (.inr x) with | some (.int i) => i | _ => 0
def timeOk (kvs : List (Key × V)) : PyData → Bool
  | .tuple [.str b, .str e, .int l, .int g] => decide (l ≤ momOf kvs e - momOf kvs b) && decide (momOf kvs e - momOf kvs b ≤ g)
  | _ => false
def isRun : PyData → PyData → Bool
  | .tuple [_, .tuple es, _, .tuple ts], .tuple ms => decide ((ms.length : Int) = (es.length : Int)) && (ms.all isMom && ts.all (timeOk (momD es ms)))
  | _, _ => false
def fails (kvs : List (Key × V)) : PyData → Bool
  | .tuple [.str x, .str y, .int m] => decide (m < momOf kvs y - momOf kvs x)
  | _ => false
def behind (kvs : List (Key × V)) (n : Int) (e : PyData) : Bool := decide (n < momOf kvs (strOf e))
def brokenD : PyData → PyData → List PyData
  | .tuple [.int n, .tuple es, .tuple bs, _], .tuple ms => bs.filter (fails (momD es ms)) ++ (es.filter (behind (momD es ms) n)).map fun e => .tuple [.str "go", e, .int n]
  | _, _ => []
/-- every place has its moment -/
def Holds (es : List PyData) (kvs : List (Key × V)) : Prop := ∀ x : Str, x = "go" ∨ x ∈ es.map strOf → valV kvs (.inr x) = some (.int (momOf kvs x))
theorem momN_holds {es ms : List PyData} (hm : ∀ m ∈ ms, isMom m = true) : ∀ n, n ≤ ms.length → ∀ x : Str, (x = "go" ∨ ∃ i, i < n ∧ strOf (es.getD i .none) = x) → ∃ i, valV (momN es ms n) (.inr x) = some (.int i)
  | 0, _, x, h => by
    rcases h with rfl | ⟨i, hi, _⟩
    · exact ⟨0, by simp [momN, valV]⟩
    · exact absurd hi (Nat.not_lt_zero _)
  | n + 1, hn, x, h => by
    show ∃ i, valV (putK (momN es ms n) (.inr (strOf (es.getD n .none))) (toV (ms.getD n .none))) (.inr x) = some (.int i)
    rw [valV_put]
    by_cases e : (Sum.inr x : Key) = .inr (strOf (es.getD n .none))
    · rw [if_pos e]
      have h2 := hm (ms.getD n .none) (by simp [List.getD, show n < ms.length by omega])
      cases h3 : ms.getD n .none <;> rw [h3] at h2 <;> first | (cases h2; done) | skip
      exact ⟨_, rfl⟩
    · rw [if_neg e]
      refine momN_holds hm n (by omega) x ?_
      rcases h with h | ⟨i, hi, hk⟩
      · exact .inl h
      · refine .inr ⟨i, ?_, hk⟩
        by_cases hin : i = n
        · subst hin
          exact absurd (by rw [hk]) e
        · omega
theorem momD_holds {es ms : List PyData} (hm : ∀ m ∈ ms, isMom m = true) (hl : ms.length = es.length) : Holds es (momD es ms) := fun x h => by
  have key : ∃ i, valV (momD es ms) (.inr x) = some (.int i) := by
    refine momN_holds hm es.length (by omega) x ?_
    rcases h with h | h
    · exact .inl h
    · obtain ⟨i, hi, e⟩ := mem_keys.mpr h
      exact .inr ⟨i, hi, Sum.inr.inj e⟩
  obtain ⟨i, hi⟩ := key
  unfold momOf
  rw [hi]
abbrev rnOk (r : PyData) : Prop := ∀ ds, r = .tuple ds → ds.length ≤ 30000
abbrev spRun (K : PySem.W.Frag) : Sp := fun vs H Q _ => ∃ v d u r, vs = [v, u] ∧ PlanOk K H v d ∧ Dp K H u r ∧ rnOk r ∧ RetV (.bl (isRun d r)) H Q
theorem spvRun {K : PySem.W.Frag} {H : Hp} {v u : V} {d r : PyData} (h : PlanOk K H v d) (h2 : Dp K H u r) (h3 : rnOk r) : SpV (spRun K) [v, u] H (.bl (isRun d r)) := fun H1 e Q q E => ⟨v, d, u, r, rfl, planOk_ex e h, dp_ex e h2, h3, q⟩
abbrev spBroken (K : PySem.W.Frag) : Sp := fun vs H Q _ => ∃ v d u r, vs = [v, u] ∧ PlanOk K H v d ∧ Dp K H u r ∧ rnOk r ∧ isRun d r = true ∧ RetN K (brokenD d r) H Q
theorem call_mo {K : PySem.W.Frag} {H : Hp} {σ : L2.St} {ta tb : TE} {v u : V} {d : PyData} {n : Int} {es bs ts ms : List PyData} {E : XK} (h1 : Ev ta σ H v) (h2 : Ev tb σ H u) (hd : Dp K H v d) (p : PlanIs d n es bs ts) (hu : Dp K H u (.tuple ms)) (hm : ∀ m ∈ ms, isMom m = true) (hl : ms.length = es.length) :
    EvK (tCall (spMo K) [] E (tCons ta (tCons tb tNil))) σ H (momD es ms) := fun H1 e Q q => h1 H1 e _ fun H2 e2 => h2 H2 (e.trans e2) _ fun H3 e3 => by
  have e4 := (e.trans e2).trans e3
  exact ⟨v, d, n, es, bs, ts, u, ms, rfl, dp_ex e4 hd, p, dp_ex e4 hu, hm, hl, fun a H4 ha e5 hk => q a H4 (fresh_back (e2.trans e3) ha) ((e2.trans e3).trans e5) hk⟩
theorem mom_all {ms : List PyData} (h : ms.all isMom = true) : ∀ m ∈ ms, isMom m = true := List.all_eq_true.mp h
/-- two new lists, one behind the other -/
theorem en_cat {K : PySem.W.Frag} {H : Hp} {σ : L2.St} {ta tb : TE} {a b : Addr} {xs ys : List V} {ds es : List PyData} (h1 : Ev ta σ H (.ref a)) (h2 : Ev tb σ H (.ref b)) (ha : H a = some (.lst xs)) (hb : H b = some (.lst ys)) (da : DpAll K H xs ds) (db : DpAll K H ys es) (hz : ds.length + es.length ≤ 100000) :
    EvN K (tOp rCat ta tb) σ H (ds ++ es) := fun H1 e Q q => h1 H1 e _ fun H2 e2 => h2 H2 (e.trans e2) _ fun H3 e3 => by
  have e4 := (e.trans e2).trans e3
  refine ⟨a, b, xs, ys, rfl, rfl, e4 _ _ ha, e4 _ _ hb, ?_, fun p hp => ?_⟩
  · rw [dpa_len da, dpa_len db]
    exact sz_of hz
  · refine q p (xs ++ ys) _ (fresh_back (e2.trans e3) hp) ((e2.trans e3).trans (Ex.new hp)) upd_same ?_
    have app : ∀ {H : Hp} {vs : List V} {ds : List PyData} {us : List V} {es : List PyData}, DpAll K H vs ds → DpAll K H us es → DpAll K H (vs ++ us) (ds ++ es) := by
      intro H vs ds us es h1 h2
      induction vs generalizing ds with
      | nil => cases h1; exact h2
      | cons v r ih => cases h1 with | cons a t => exact .cons a (ih t)
    exact app (dpa_ex (e4.trans (Ex.new hp)) da) (dpa_ex (e4.trans (Ex.new hp)) db)
section
variable {P : Program} {w : World} {K : PySem.W.Frag} {mg : Str → Option Value} {base : Heap} {tg : Tok} {f : Addr} {fd : FuncData}
abbrev s_is_run : Stmt := topS 22
theorem sc_is_run : FnScope ["plan", "value", "moment", "moments", "begin", "end", "least", "greatest"] ["plan", "value"] (defScope s_is_run) := ⟨rfl, rfl, rfl, by decide +kernel, rfl, by decide +kernel, by decide +kernel⟩
theorem ok_is_run (F : Fun K "is_run" "is_run" s_is_run f fd) (T : Txt mg tg) (C_require_plan : Cal P w K mg base 6 "require_plan" ["plan"] (spReq K)) (C_is_moment : Cal P w K mg base 2 "is_moment" ["value"] (D1 K any isMom))
    (C_moments_by_place : Cal P w K mg base 1 "moments_by_place" ["plan", "run"] (spMo K)) : FnOk P w K mg base CX0 7 f fd ["plan", "value"] (spRun K) := by
  refine F.ok sc_is_run (fun vs H Q E h => ?_) (fun cdv A outer s H vs Q E hr h => ?_)
  · obtain ⟨v, d, u, r, rfl, _⟩ := h
    rfl
  · obtain ⟨v, d, u, r, rfl, hP, hu, hk, q⟩ := h
    refine ⟨_, (pss_cons (ps_expr (pe_cal C_require_plan (by first | exact hr | exact hr.mono (by decide)) (by rfl) (pa_cons (pv 0) pa_nil))) (pss_cons (ps_if (PW.pt (pw_or (pt_not (pt_val (pe_callB (call_isiK' (K := K) rfl) (by rfl) T.isinstance (by decide +kernel) (pa_cons (pv 1) (pa_cons (pe_bltn (v := .ty "tuple") (u := .type "tuple") (by rfl) T.tuple (by decide +kernel) rfl) pa_nil))))) (pw_or1 (pt_cmpR op_ne (pe_callB (call_len_seqK (K := K) rfl) (by rfl) T.len (by decide +kernel) (pa_cons (pv 1) pa_nil)) (pe_callB (call_len_seqK (K := K) rfl) (by rfl) T.len (by decide +kernel) (pa_cons (pe_ix (ix_tupK (K := K) rfl) (pv 0) pe_int (fun _ _ => rfl)) pa_nil)) (nomark _))))) (pss_one (ps_ret pe_bl)) pss_nil) (pss_cons (ps_if (pt_not (pt_val (pe_callB (cr_allK (K := K) rfl rfl) (by rfl) T.all (by decide +kernel) (pa_cons (pe_lc (own := [("moment", 2)]) rfl sc_is_run.nd (pi_tupK (K := K) rfl (pv 1)) (blkOk_by (own := [("moment", 2)]) (N := ["plan", "value", "moment", "moments", "begin", "end", "least", "greatest"]) (sc := defScope s_is_run) (by decide +kernel)) (fun _ _ _ _ _ => (pg_name (i := 2) sc_is_run.nd rfl (Or.inl rfl))) (fun _ _ _ _ _ => pts_nil) (fun _ _ _ _ _ => (pe_cal C_is_moment (by first | exact hr | exact hr.mono (by decide)) (by rfl) (pa_cons (pv 2) pa_nil)))) pa_nil)))) (pss_one (ps_ret pe_bl)) pss_nil) (pss_cons (ps_set (i := 3) sc_is_run.nd rfl (Or.inr rfl) (pe_cal C_moments_by_place (by first | exact hr | exact hr.mono (by decide)) (by rfl) (pa_cons (pv 0) (pa_cons (pv 1) pa_nil)))) (pss_one (ps_ret (pe_callB (cr_allK (K := K) rfl rfl) (by rfl) T.all (by decide +kernel) (pa_cons (pe_lc (own := [("begin", 4), ("end", 5), ("least", 6), ("greatest", 7)]) rfl sc_is_run.nd (pi_tupK (K := K) rfl (pe_ix (ix_tupK (K := K) rfl) (pv 0) pe_int (fun _ _ => rfl))) (blkOk_by (own := [("begin", 4), ("end", 5), ("least", 6), ("greatest", 7)]) (N := ["plan", "value", "moment", "moments", "begin", "end", "least", "greatest"]) (sc := defScope s_is_run) (by decide +kernel)) (fun _ _ _ _ _ => (pg_tupK (K := K) (n := 4) rfl rfl (pgs_cons (pg_name (i := 4) sc_is_run.nd rfl (Or.inl rfl)) (pgs_cons (pg_name (i := 5) sc_is_run.nd rfl (Or.inl rfl)) (pgs_cons (pg_name (i := 6) sc_is_run.nd rfl (Or.inl rfl)) (pgs_cons (pg_name (i := 7) sc_is_run.nd rfl (Or.inl rfl)) pgs_nil)))))) (fun _ _ _ _ _ => pts_nil) (fun _ _ _ _ _ => (pe_chain op_le op_le (pv 6) (pe_op op_sub (pe_dget (hu_of hr) (pv 3) (pv 5) (fun _ _ => rfl)) (pe_dget (hu_of hr) (pv 3) (pv 4) (fun _ _ => rfl))) (pv 7)))) pa_nil)))))))), ?_⟩
    obtain ⟨n, es, bs, ts, p⟩ := plan_is hP.2.2 hP.2.1
    have ed := p.form
    refine q_drop (ev_call (ea_cons (ev_var rfl) ea_nil) (spvReq hP)) fun H1 e1 => ?_
    have hd1 := dp_ex e1 hP.1
    have hu1 := dp_ex e1 hu
    subst ed
    cases hs : isT "tuple" r with
    | false =>
      refine q_when (b := true) (et_is (et_or (b := true) (et_not (et_B (ev_isi okT_tuple (ev_var rfl) hu1))) fun h => ?_) (by rw [hs]; rfl)) (fun _ H2 e2 => s_ret ev_c fun H3 e3 => ?_) (fun h => nomatch h)
      · rw [hs] at h
        cases h
      · have e : isRun (.tuple [.int n, .tuple es, .tuple bs, .tuple ts]) r = false := by
          rw [isT_tuple] at hs
          cases r <;> first | rfl | cases hs
        rw [e] at q
        exact q H3 ((e1.trans e2).trans e3)
    | true =>
      rw [isT_tuple] at hs
      cases r <;> cases hs
      rename_i ms
      have hz := hk ms rfl
      have ef : isRun (.tuple [.int n, .tuple es, .tuple bs, .tuple ts]) (.tuple ms) = (decide ((ms.length : Int) = (es.length : Int)) && (ms.all isMom && ts.all (timeOk (momD es ms)))) := rfl
      rw [ef] at q
      refine q_when (b := !decide ((ms.length : Int) = (es.length : Int))) (et_is (et_or (et_not (et_B (ev_isi okT_tuple (ev_var rfl) hu1))) fun _ => et_test (ev_opD (K := K) (ed_of (ev_lenD (K := K) (ed_of (ev_var rfl) hu1)) (.int _)) (ed_of (ev_lenD (K := K) (ed_ixT 1 (ed_of (ev_var rfl) hd1) ev_c rfl rfl)) (.int _)) rd_neI)) ?_) (fun hb H2 e2 => s_ret ev_c fun H3 e3 => ?_) (fun hb H2 e2 => ?_)
      · rw [isT_tuple]; rfl
      · have e : decide ((ms.length : Int) = (es.length : Int)) = false := by simpa using hb
        rw [e] at q
        exact q H3 ((e1.trans e2).trans e3)
      · have hle : (ms.length : Int) = (es.length : Int) := by simpa using hb
        rw [decide_eq_true hle] at q
        have hl : ms.length = es.length := by omega
        have hd2 := dp_ex e2 hd1
        have hu2 := dp_ex e2 hu1
        refine q_when (et_not (et_B (ev_is (ev_all (bs := ms.map isMom) ?_) (by rw [all_id])))) (fun hb2 H3 e3 => s_ret ev_c fun H4 e4 => ?_) (fun hb2 H3 e3 => ?_)
        · rw [← givenD_all]
          refine ed_n (en_lcT (fun _ => true) _ (ed_of (ev_var rfl) hu2) (by omega) (fun _ _ => rfl) fun i x d H3 e3 hi hx => ?_)
          refine ⟨_, ?_, goes_name, fun H1 e Q q => q H1 (Ex.refl H1), fun _ => ?_⟩
          · rfl
          rw [getD_of hi]
          exact ed_of (ev_call (ea_cons (ev_var rfl) ea_nil) (spv1 hx trivial)) (.bl _)
        · have e : ms.all isMom = false := by simpa using hb2
          rw [e] at q
          exact q H4 (((e1.trans e2).trans e3).trans e4)
        · have e : ms.all isMom = true := by
            cases h : ms.all isMom with
            | true => rfl
            | false => rw [h] at hb2; cases hb2
          rw [e, Bool.true_and, Bool.true_and] at q
          have hd3 := dp_ex e3 hd2
          refine q_asgK (call_mo (ev_var rfl) (ev_var rfl) hd3 p (dp_ex e3 hu2) (mom_all e) hl) fun a H4 ha e4 hk4 => ?_
          have hh := momD_holds (mom_all e) hl
          refine s_ret (ev_is (ev_all (bs := ts.map (timeOk (momD es ms))) ?_) (by rw [all_id])) fun H5 e5 => q H5 ((((e1.trans e2).trans e3).trans e4).trans e5)
          rw [← givenD_all]
          refine ed_n (en_lcT (fun _ => true) _ (ed_ixT 3 (ed_of (ev_var rfl) (dp_ex e4 hd3)) ev_c rfl rfl) (by have := p.tsz; omega) (fun _ _ => rfl) fun i x d H5 e5 hi hx => ?_)
          have hk' := p.tsk d (List.mem_of_getElem? hi)
          obtain ⟨b, e, l, g, rfl⟩ := isTask_form hk'
          have hin : (decide (b ∈ es.map strOf) && (decide (e ∈ es.map strOf) && (decide (1 ≤ l) && decide (l ≤ g)))) = true := hk'
          simp only [Bool.and_eq_true, decide_eq_true_eq] at hin
          cases hx with
          | tup hs ha =>
            cases ha with
            | cons h1 ha => cases ha with
              | cons h2 ha => cases ha with
                | cons h3 ha => cases ha with
                  | cons h4 ha =>
                    cases ha; cases h1; cases h2; cases h3; cases h4
                    refine ⟨_, ?_, goes_tup4 hs, fun H1 e Q q => q H1 (Ex.refl H1), fun _ => ?_⟩
                    · rfl
                    rw [getD_of hi]
                    have k5 := e5 _ _ hk4
                    have m1 := hh e (.inr hin.2.1)
                    have m2 := hh b (.inr hin.1)
                    refine ed_of (v := .bl (timeOk (momD es ms) (.tuple [.str b, .str e, .int l, .int g]))) ?_ (.bl _)
                    exact ev_chain (K := K) (ed_of (ev_var rfl) (.int l)) (ed_of (ev_op (ev_dget (k := .inr e) (d := .none) (ev_var rfl) k5 (ev_var rfl) m1) (ev_dget (k := .inr b) (d := .none) (ev_var rfl) k5 (ev_var rfl) m2) rv_I0) (.int _)) rd_I0 (fun _ => ed_of (ev_var rfl) (.int g)) fun _ => rd_I0
abbrev s_broken : Stmt := topS 23
theorem sc_broken : FnScope ["plan", "run", "latest", "events", "bounds", "_", "moments", "x", "y", "most", "failed", "event", "late"] ["plan", "run"] (defScope s_broken) := ⟨rfl, rfl, rfl, by decide +kernel, rfl, by decide +kernel, by decide +kernel⟩
theorem ok_broken (F : Fun K "broken" "broken" s_broken f fd) (T : Txt mg tg) (C_is_run : Cal P w K mg base 7 "is_run" ["plan", "value"] (spRun K)) (C_moments_by_place : Cal P w K mg base 1 "moments_by_place" ["plan", "run"] (spMo K)) :
    FnOk P w K mg base CX0 8 f fd ["plan", "run"] (spBroken K) := by
  refine F.ok sc_broken (fun vs H Q E h => ?_) (fun cdv A outer s H vs Q E hr h => ?_)
  · obtain ⟨v, d, u, r, rfl, _⟩ := h
    rfl
  · obtain ⟨v, d, u, r, rfl, hP, hu, hk, hR, q⟩ := h
    refine ⟨_, (pss_cons (ps_if (pt_not (pt_val (pe_cal C_is_run (by first | exact hr | exact hr.mono (by decide)) (by rfl) (pa_cons (pv 0) (pa_cons (pv 1) pa_nil))))) (pss_one ps_never) pss_nil) (pss_cons (ps_asg (pv 0) (pg_tupK (K := K) (n := 4) rfl rfl (pgs_cons (pg_name (i := 2) sc_broken.nd rfl (Or.inr rfl)) (pgs_cons (pg_name (i := 3) sc_broken.nd rfl (Or.inl rfl)) (pgs_cons (pg_name (i := 4) sc_broken.nd rfl (Or.inl rfl)) (pgs_cons (pg_name (i := 5) sc_broken.nd rfl (Or.inl rfl)) pgs_nil)))))) (pss_cons (ps_set (i := 6) sc_broken.nd rfl (Or.inr rfl) (pe_cal C_moments_by_place (by first | exact hr | exact hr.mono (by decide)) (by rfl) (pa_cons (pv 0) (pa_cons (pv 1) pa_nil)))) (pss_cons (ps_setLc (i := 10) (own := [("x", 7), ("y", 8), ("most", 9)]) rfl sc_broken.nd rfl rfl (sw_true rfl rfl rfl (by decide +kernel)) (pi_tupK (K := K) rfl (pv 4)) (blkOk_by (own := [("x", 7), ("y", 8), ("most", 9)]) (N := ["plan", "run", "latest", "events", "bounds", "_", "moments", "x", "y", "most", "failed", "event", "late"]) (sc := defScope s_broken) (by decide +kernel)) (fun _ _ _ _ _ => (pg_tupK (K := K) (n := 3) rfl rfl (pgs_cons (pg_name (i := 7) sc_broken.nd rfl (Or.inl rfl)) (pgs_cons (pg_name (i := 8) sc_broken.nd rfl (Or.inl rfl)) (pgs_cons (pg_name (i := 9) sc_broken.nd rfl (Or.inl rfl)) pgs_nil))))) (fun _ _ _ _ _ => (pts_one (pt_cmpR op_gt (pe_op op_sub (pe_dget (hu_of hr) (pv 6) (pv 8) (fun _ _ => rfl)) (pe_dget (hu_of hr) (pv 6) (pv 7) (fun _ _ => rfl))) (pv 9) (nomark _)))) (fun _ _ _ _ _ => (pe_tup (pa_cons (pv 7) (pa_cons (pv 8) (pa_cons (pv 9) pa_nil)))))) (pss_cons (ps_setLc (i := 12) (own := [("event", 11)]) rfl sc_broken.nd rfl rfl (sw_true rfl rfl rfl (by decide +kernel)) (pi_tupK (K := K) rfl (pv 3)) (blkOk_by (own := [("event", 11)]) (N := ["plan", "run", "latest", "events", "bounds", "_", "moments", "x", "y", "most", "failed", "event", "late"]) (sc := defScope s_broken) (by decide +kernel)) (fun _ _ _ _ _ => (pg_name (i := 11) sc_broken.nd rfl (Or.inl rfl))) (fun _ _ _ _ _ => (pts_one (pt_cmpR op_gt (pe_dget (hu_of hr) (pv 6) (pv 11) (fun _ _ => rfl)) (pv 2) (nomark _)))) (fun _ _ _ _ _ => (pe_tup (pa_cons (pe_glob (v := .str "go") (by rfl) T.GO ⟨_, rfl⟩) (pa_cons (pv 11) (pa_cons (pv 2) pa_nil)))))) (pss_one (ps_ret (pe_op op_cat (pv 10) (pv 12))))))))), ?_⟩
    obtain ⟨n, es, bs, ts, p⟩ := plan_is hP.2.2 hP.2.1
    have ed := p.form
    subst ed
    cases r <;> first | (cases hR; done) | skip
    rename_i ms
    have hR' : (decide ((ms.length : Int) = (es.length : Int)) && (ms.all isMom && ts.all (timeOk (momD es ms)))) = true := hR
    simp only [Bool.and_eq_true, decide_eq_true_eq] at hR'
    obtain ⟨hle, hma, _⟩ := hR'
    have hl : ms.length = es.length := by omega
    have hh := momD_holds (mom_all hma) hl
    refine q_when (b := false) (et_is (et_not (et_B (ev_call (ea_cons (ev_var rfl) (ea_cons (ev_var rfl) ea_nil)) (spvRun hP hu hk)))) (by rw [hR]; rfl)) (fun h => nomatch h) fun _ H1 e1 => ?_
    have hd1 := dp_ex e1 hP.1
    refine q_unp4 (ed_of (ev_var rfl) hd1) fun v1 v2 v3 v4 H2 e2 h1 h2 h3 h4 => ?_
    refine q_asgK (call_mo (ev_var rfl) (ev_var rfl) (dp_ex e2 hd1) p (dp_ex (e1.trans e2) hu) (mom_all hma) hl) fun a H3 ha e3 hk3 => ?_
    cases h1
    refine q_asgN (K := K) (ds := bs.filter (fails (momD es ms))) ?_ fun p1 xs1 H4 hp1 e4 g1 da1 => ?_
    · have eq1 := givenD_sel bs (fails (momD es ms)) id
      rw [List.map_id] at eq1
      rw [← eq1]
      refine en_lcT _ _ (ed_of (ev_var rfl) (dp_ex e3 h3)) (by have := p.bsz; omega) (fun i hi => ?_) fun i x d H5 e5 hi hx => ?_
      · show noL (bs.getD i .none) = true
        by_cases hlt : i < bs.length
        · obtain ⟨_, _, _, e⟩ := isBound_form (p.bnd (bs.getD i .none) (by simp [List.getD, hlt]))
          rw [e]
          rfl
        · have e : bs.getD i .none = .none := by simp [List.getD, hlt]
          rw [e]
          rfl
      · have hb := p.bnd d (List.mem_of_getElem? hi)
        obtain ⟨x1, y1, m, rfl⟩ := isBound_form hb
        have hb' : (isPlace (es.map strOf) (.str x1) && (isPlace (es.map strOf) (.str y1) && (neS (.str x1) (.str y1) && isInt (.int m)))) = true := hb
        simp only [Bool.and_eq_true] at hb'
        have place : ∀ z : Str, isPlace (es.map strOf) (.str z) = true → z = "go" ∨ z ∈ es.map strOf := fun z h => by
          have h' : (decide (z = "go") || decide (z ∈ es.map strOf)) = true := h
          rw [Bool.or_eq_true, decide_eq_true_eq, decide_eq_true_eq] at h'
          exact h'
        have m1 := hh y1 (place y1 hb'.2.1)
        have m2 := hh x1 (place x1 hb'.1)
        have k5 := e5 _ _ hk3
        cases hx with
        | tup hs ha =>
          cases ha with
          | cons g1 ha => cases ha with
            | cons g2 ha => cases ha with
              | cons g3 ha =>
                cases ha; cases g1; cases g2; cases g3
                refine ⟨_, ?_, goes_tup3 hs, ?_, fun _ => ?_⟩
                · rfl
                · rw [getD_of hi]
                  exact et_test (ev_op (ev_op (ev_dget (k := .inr y1) (d := .none) (ev_var rfl) k5 (ev_var rfl) m1) (ev_dget (k := .inr x1) (d := .none) (ev_var rfl) k5 (ev_var rfl) m2) rv_I0) (ev_var rfl) rv_I0)
                · show EvD K _ _ _ (bs.getD i .none)
                  rw [getD_of hi]
                  exact ed_tup (eds_cons (ed_of (ev_var rfl) (.str x1)) (eds_cons (ed_of (ev_var rfl) (.str y1)) (eds_cons (ed_of (ev_var rfl) (.int m)) eds_nil))) (by show 3 ≤ 100000; decide)
    · refine q_asgN (K := K) (ds := (es.filter (behind (momD es ms) n)).map fun e => .tuple [.str "go", e, .int n]) ?_ fun p2 xs2 H5 hp2 e5 g2 da2 => ?_
      · have eq1 := givenD_sel es (behind (momD es ms) n) fun e => .tuple [.str "go", e, .int n]
        rw [← eq1]
        refine en_lcT _ _ (ed_of (ev_var rfl) (dp_ex (e3.trans e4) h2)) (by have := p.esz; omega) (fun i hi => ?_) fun i x d H5 e5 hi hx => ?_
        · show noL (.tuple [.str "go", es.getD i .none, .int n]) = true
          by_cases hlt : i < es.length
          · obtain ⟨_, e⟩ := isName_str (p.nam (es.getD i .none) (by simp [List.getD, hlt]))
            rw [e]
            rfl
          · have e : es.getD i .none = .none := by simp [List.getD, hlt]
            rw [e]
            rfl
        · have hn := List.mem_of_getElem? hi
          obtain ⟨z, rfl⟩ := isName_str (p.nam d hn)
          cases hx
          have m1 := hh z (.inr (List.mem_map.mpr ⟨_, hn, rfl⟩))
          have k5 := e5 _ _ (e4 _ _ hk3)
          refine ⟨_, ?_, goes_name, ?_, fun _ => ?_⟩
          · rfl
          · rw [getD_of hi]
            exact et_test (ev_op (ev_dget (k := .inr z) (d := .none) (ev_var rfl) k5 (ev_var rfl) m1) (ev_var rfl) rv_I0)
          · show EvD K _ _ _ (.tuple [.str "go", es.getD i .none, .int n])
            rw [getD_of hi]
            exact ed_tup (eds_cons (ed_of ev_c (.str "go")) (eds_cons (ed_of (ev_var rfl) (.str z)) (eds_cons (ed_of (ev_var rfl) (.int n)) eds_nil))) (by show 3 ≤ 100000; decide)
      · refine s_retN ((((e1.trans e2).trans e3).trans e4).trans e5) (en_cat (ev_var rfl) (ev_var rfl) (e5 _ _ g1) g2 (dpa_ex e5 da1) da2 ?_) q
        have l1 := List.length_filter_le (fails (momD es ms)) bs
        have l2 := List.length_filter_le (behind (momD es ms) n) es
        have := p.bsz
        have := p.esz
        rw [List.length_map]
        omega
end
end Vf
end
section
set_option Elab.async false
set_option linter.all false
set_option maxRecDepth 100000
set_option maxHeartbeats 4000000
namespace Vf
open PySem PySem.Spec PyProof.Rows L2 Evl
/-! ### a def of the text that is called by keywords alone -/
structure CalK (P : Program) (w : World) (K : PySem.W.Frag) (mg : Str → Option Value) (base : Heap) (k : Nat) (x : Str) (ps ks : List Str) (gV : List V → List V → List V) (sp : Sp) : Prop where
  ex : ∃ f fd g, FnOk P w K mg base CX0 k f fd ps sp ∧ mg x = some (.ref f) ∧ PySem.W.keepIn K (.ref f) = true ∧ KBinds K fd ps ks g gV
section
variable {X : Cx} {k : Nat} {x : Str} {ps ks : List Str} {gV : List V → List V → List V} {sp : Sp} {p pos : Pos} {kws : List Keyword} {tk : TA}
theorem pe_calK0 (C : CalK X.prog X.w X.K X.mg X.base k x ps ks gV sp) (hr : Room k X.A) (hg : Gl X x) (hkw : PK X kws tk) (h1 : (backToKw pos (keywordEach kws X.env)).all (·.1.isSome) = true := by rfl)
    (h2 : (backToKw pos (keywordEach kws X.env)).filterMap (·.1) = ks := by rfl) (hdb : (x == ("__debug__" : Str)) = false := by decide)
    (h3 : ((backTo pos (starEach [] X.env)).any (·.1) || (backToKw pos (keywordEach kws X.env)).any (·.1.isNone)) = false := by rfl) : PE X (.Call (.Name x p) [] kws pos) (tCallK sp gV E0 tNil tk) := by
  obtain ⟨f, fd, g, F, hm, hk, hb⟩ := C.ex
  refine ⟨fun pins s σ H Q I h => ?_⟩
  refine wpAny_Call_Name_kw (ld_glob I hg hm ?_ hdb)
  refine PySem.W.callWith_KW0 (h₀ := X.base) I.ok.mod.kin hk h1 (thn (hkw.run pos pins s σ H _ I h) fun ws s2 ⟨zs, H2, I2, rz, q2⟩ => ⟨I2.kIn, ?_⟩) h3
  rw [h2]
  exact run_fnk F hr hb pass0 I2 .nil rz q2
end
abbrev g1 : List V → List V → List V := fun vs zs => match vs, zs with | [], [z1] => [z1] | _, _ => []
abbrev h1 : List Value → List Value → List Value := fun us ws => match us, ws with | [], [z1] => [z1] | _, _ => []
theorem vals_h1 {vs : List V} {us : List Value} {zs : List V} {ws : List Value} (r1 : Vals vs us) (r2 : Vals zs ws) : Vals (g1 vs zs) (h1 us ws) := by
  cases r1 with
  | cons _ _ => exact .nil
  | nil =>
    cases r2 with
    | nil => exact .nil
    | cons a1 r2 =>
      cases r2 with
      | nil => exact .cons a1 .nil
      | cons _ _ => exact .nil
abbrev g12 : List V → List V → List V := fun vs zs => match vs, zs with | [], [z1, z2] => [z1, z2] | _, _ => []
abbrev h12 : List Value → List Value → List Value := fun us ws => match us, ws with | [], [z1, z2] => [z1, z2] | _, _ => []
theorem vals_h12 {vs : List V} {us : List Value} {zs : List V} {ws : List Value} (r1 : Vals vs us) (r2 : Vals zs ws) : Vals (g12 vs zs) (h12 us ws) := by
  cases r1 with
  | cons _ _ => exact .nil
  | nil =>
    cases r2 with
    | nil => exact .nil
    | cons a1 r2 =>
      cases r2 with
      | nil => exact .nil
      | cons a2 r2 =>
        cases r2 with
        | nil => exact .cons a1 (.cons a2 .nil)
        | cons _ _ => exact .nil
abbrev g21 : List V → List V → List V := fun vs zs => match vs, zs with | [], [z1, z2] => [z2, z1] | _, _ => []
abbrev h21 : List Value → List Value → List Value := fun us ws => match us, ws with | [], [z1, z2] => [z2, z1] | _, _ => []
theorem vals_h21 {vs : List V} {us : List Value} {zs : List V} {ws : List Value} (r1 : Vals vs us) (r2 : Vals zs ws) : Vals (g21 vs zs) (h21 us ws) := by
  cases r1 with
  | cons _ _ => exact .nil
  | nil =>
    cases r2 with
    | nil => exact .nil
    | cons a1 r2 =>
      cases r2 with
      | nil => exact .nil
      | cons a2 r2 =>
        cases r2 with
        | nil => exact .cons a2 (.cons a1 .nil)
        | cons _ _ => exact .nil
abbrev g123 : List V → List V → List V := fun vs zs => match vs, zs with | [], [z1, z2, z3] => [z1, z2, z3] | _, _ => []
abbrev h123 : List Value → List Value → List Value := fun us ws => match us, ws with | [], [z1, z2, z3] => [z1, z2, z3] | _, _ => []
theorem vals_h123 {vs : List V} {us : List Value} {zs : List V} {ws : List Value} (r1 : Vals vs us) (r2 : Vals zs ws) : Vals (g123 vs zs) (h123 us ws) := by
  cases r1 with
  | cons _ _ => exact .nil
  | nil =>
    cases r2 with
    | nil => exact .nil
    | cons a1 r2 =>
      cases r2 with
      | nil => exact .nil
      | cons a2 r2 =>
        cases r2 with
        | nil => exact .nil
        | cons a3 r2 =>
          cases r2 with
          | nil => exact .cons a1 (.cons a2 (.cons a3 .nil))
          | cons _ _ => exact .nil
abbrev g132 : List V → List V → List V := fun vs zs => match vs, zs with | [], [z1, z2, z3] => [z1, z3, z2] | _, _ => []
abbrev h132 : List Value → List Value → List Value := fun us ws => match us, ws with | [], [z1, z2, z3] => [z1, z3, z2] | _, _ => []
theorem vals_h132 {vs : List V} {us : List Value} {zs : List V} {ws : List Value} (r1 : Vals vs us) (r2 : Vals zs ws) : Vals (g132 vs zs) (h132 us ws) := by
  cases r1 with
  | cons _ _ => exact .nil
  | nil =>
    cases r2 with
    | nil => exact .nil
    | cons a1 r2 =>
      cases r2 with
      | nil => exact .nil
      | cons a2 r2 =>
        cases r2 with
        | nil => exact .nil
        | cons a3 r2 =>
          cases r2 with
          | nil => exact .cons a1 (.cons a3 (.cons a2 .nil))
          | cons _ _ => exact .nil
abbrev g213 : List V → List V → List V := fun vs zs => match vs, zs with | [], [z1, z2, z3] => [z2, z1, z3] | _, _ => []
abbrev h213 : List Value → List Value → List Value := fun us ws => match us, ws with | [], [z1, z2, z3] => [z2, z1, z3] | _, _ => []
theorem vals_h213 {vs : List V} {us : List Value} {zs : List V} {ws : List Value} (r1 : Vals vs us) (r2 : Vals zs ws) : Vals (g213 vs zs) (h213 us ws) := by
  cases r1 with
  | cons _ _ => exact .nil
  | nil =>
    cases r2 with
    | nil => exact .nil
    | cons a1 r2 =>
      cases r2 with
      | nil => exact .nil
      | cons a2 r2 =>
        cases r2 with
        | nil => exact .nil
        | cons a3 r2 =>
          cases r2 with
          | nil => exact .cons a2 (.cons a1 (.cons a3 .nil))
          | cons _ _ => exact .nil
abbrev g231 : List V → List V → List V := fun vs zs => match vs, zs with | [], [z1, z2, z3] => [z2, z3, z1] | _, _ => []
abbrev h231 : List Value → List Value → List Value := fun us ws => match us, ws with | [], [z1, z2, z3] => [z2, z3, z1] | _, _ => []
theorem vals_h231 {vs : List V} {us : List Value} {zs : List V} {ws : List Value} (r1 : Vals vs us) (r2 : Vals zs ws) : Vals (g231 vs zs) (h231 us ws) := by
  cases r1 with
  | cons _ _ => exact .nil
  | nil =>
    cases r2 with
    | nil => exact .nil
    | cons a1 r2 =>
      cases r2 with
      | nil => exact .nil
      | cons a2 r2 =>
        cases r2 with
        | nil => exact .nil
        | cons a3 r2 =>
          cases r2 with
          | nil => exact .cons a2 (.cons a3 (.cons a1 .nil))
          | cons _ _ => exact .nil
abbrev g312 : List V → List V → List V := fun vs zs => match vs, zs with | [], [z1, z2, z3] => [z3, z1, z2] | _, _ => []
abbrev h312 : List Value → List Value → List Value := fun us ws => match us, ws with | [], [z1, z2, z3] => [z3, z1, z2] | _, _ => []
theorem vals_h312 {vs : List V} {us : List Value} {zs : List V} {ws : List Value} (r1 : Vals vs us) (r2 : Vals zs ws) : Vals (g312 vs zs) (h312 us ws) := by
  cases r1 with
  | cons _ _ => exact .nil
  | nil =>
    cases r2 with
    | nil => exact .nil
    | cons a1 r2 =>
      cases r2 with
      | nil => exact .nil
      | cons a2 r2 =>
        cases r2 with
        | nil => exact .nil
        | cons a3 r2 =>
          cases r2 with
          | nil => exact .cons a3 (.cons a1 (.cons a2 .nil))
          | cons _ _ => exact .nil
abbrev g321 : List V → List V → List V := fun vs zs => match vs, zs with | [], [z1, z2, z3] => [z3, z2, z1] | _, _ => []
abbrev h321 : List Value → List Value → List Value := fun us ws => match us, ws with | [], [z1, z2, z3] => [z3, z2, z1] | _, _ => []
theorem vals_h321 {vs : List V} {us : List Value} {zs : List V} {ws : List Value} (r1 : Vals vs us) (r2 : Vals zs ws) : Vals (g321 vs zs) (h321 us ws) := by
  cases r1 with
  | cons _ _ => exact .nil
  | nil =>
    cases r2 with
    | nil => exact .nil
    | cons a1 r2 =>
      cases r2 with
      | nil => exact .nil
      | cons a2 r2 =>
        cases r2 with
        | nil => exact .nil
        | cons a3 r2 =>
          cases r2 with
          | nil => exact .cons a3 (.cons a2 (.cons a1 .nil))
          | cons _ _ => exact .nil
end Vf
end
section
set_option Elab.async false
set_option linter.all false
set_option maxRecDepth 100000
set_option maxHeartbeats 4000000
namespace Vf
open PySem PySem.Spec PyProof.Rows L2 Evl
/-! ### the sack: three numbers; n: no more dips than that so far -/
def LIM : Nat := 100000
def SackAt (H : Hp) (p : Addr) (n : Nat) : Prop := ∃ x y z : Int, H p = some (.lst [.int x, .int y, .int z]) ∧ 0 ≤ x ∧ 0 ≤ y ∧ y < 2 ^ 150 ∧ 0 ≤ z ∧ z ≤ (n : Int)
theorem SackAt.ex {H H' : Hp} {p : Addr} {n : Nat} (h : SackAt H p n) (e : Ex H H') : SackAt H' p n := by
  obtain ⟨x, y, z, h1, h2⟩ := h
  exact ⟨x, y, z, e _ _ h1, h2⟩
theorem SackAt.mono {H : Hp} {p : Addr} {n m : Nat} (h : SackAt H p n) (e : n ≤ m) : SackAt H p m := by
  obtain ⟨x, y, z, h1, h2, h3, h4, h5, h6⟩ := h
  exact ⟨x, y, z, h1, h2, h3, h4, h5, by omega⟩
/-- what stands in B stands, and beside it the sack at p -/
structure Run (p : Addr) (n : Nat) (B H : Hp) : Prop where
  ex : Ex B (but H p)
  sk : SackAt H p n
theorem Run.on {p : Addr} {n : Nat} {B H H' : Hp} (r : Run p n B H) (e : Ex H H') : Run p n B H' := ⟨r.ex.trans (but_mono e), r.sk.ex e⟩
theorem Run.base {p : Addr} {n : Nat} {B H : Hp} (r : Run p n B H) : Ex B H := r.ex.trans (but_ex H p)
theorem Run.new {p : Addr} {n : Nat} {B H : Hp} (r : Run p n B H) : Run p n (but H p) H := ⟨Ex.refl _, r.sk⟩
theorem Run.from {p : Addr} {n : Nat} {B B' H : Hp} (r : Run p n B' H) (e : Ex B B') : Run p n B H := ⟨e.trans r.ex, r.sk⟩
theorem Run.mono {p : Addr} {n m : Nat} {B H : Hp} (r : Run p n B H) (e : n ≤ m) : Run p m B H := ⟨r.ex, r.sk.mono e⟩
theorem Run.no {p : Addr} {n : Nat} {B H : Hp} (r : Run p n B H) : B p = none := by
  cases h : B p with
  | none => rfl
  | some o =>
    have := r.ex p o h
    rw [but_same] at this
    cases this
abbrev spDip : Sp := fun vs H Q _ => ∃ (p : Addr) (b : Int) (n : Nat), vs = [.ref p, .int b] ∧ 1 ≤ b ∧ b ≤ 1000 ∧ SackAt H p n ∧ n < LIM ∧ ∀ (r : Int) (H' : Hp), 0 ≤ r → r < b → Ex (but H p) (but H' p) → SackAt H' p (n + 1) → Q (.int r) H'
/-- one dip within an expression -/
theorem st_dip {σ : L2.St} {H B : Hp} {p : Addr} {n i : Nat} {tb : TE} {b : Int} {E : XK} {Q : VK} (hi : σ[i]? = some (some (.ref p))) (hb : Ev tb σ H (.int b)) (h1 : 1 ≤ b) (h2 : b ≤ 1000) (R : Run p n B H) (hn : n < LIM)
    (k : ∀ (r : Int) (H' : Hp), 0 ≤ r → r < b → Run p (n + 1) B H' → Ex (but H p) (but H' p) → Q (.int r) H') : tCall spDip [] E (tCons (tVar i) (tCons tb tNil)) σ H Q :=
  ⟨.ref p, hi, hb H (Ex.refl H) _ fun H1 e1 => ⟨p, b, n, rfl, h1, h2, R.sk.ex e1, hn, fun r H' r1 r2 e2 sk => k r H' r1 r2 ⟨(R.on e1).ex.trans e2, sk⟩ ((but_mono e1).trans e2)⟩⟩
abbrev spSack (K : PySem.W.Frag) : Sp := fun vs H Q _ => ∃ (a : Addr) (ns : List Int) (i : Int), vs = [.ref a, .int i] ∧ SqL K H a (ns.map V.int) ∧ ns.length ≤ 1000 ∧ 0 ≤ i ∧ i ≤ 1000 ∧ ∀ (p : Addr) (H' : Hp), H p = none → Ex H H' → SackAt H' p 0 → Q (.ref p) H'
theorem ev_callB {σ : L2.St} {H : Hp} {ta : TA} {r : List V → Hp → VK → Prop} {vs : List V} {z : V} (h : EvA ta σ H vs) (hr : ∀ H1, ∀ Q : VK, Q z H1 → r vs H1 Q) : Ev (tCB r ta) σ H z := ev_cb h fun H1 _ Q q => hr H1 Q (q H1 (Ex.refl H1))
theorem ev_int {σ : L2.St} {H : Hp} {ta : TE} {i : Int} (h : Ev ta σ H (.int i)) : Ev (tCB (fun xs H Q => (∃ i, xs = [.int i] ∧ Q (.int i) H) ∨ ∃ k, xs = [.bl k] ∧ Q (.int (if k then 1 else 0)) H) (tCons ta tNil)) σ H (.int i) :=
  ev_callB (ea_cons h ea_nil) fun _ _ q => .inl ⟨i, rfl, q⟩
theorem ev_mod {σ : L2.St} {H : Hp} {ta tb : TE} {i j : Int} (h1 : Ev ta σ H (.int i)) (h2 : Ev tb σ H (.int j)) (hj : 0 < j) : Ev (tOp (rI (fun _ j => 0 < j) fun i j => .int (i % j)) ta tb) σ H (.int (i % j)) := ev_op h1 h2 (rv_I hj)
theorem ev_div {σ : L2.St} {H : Hp} {ta tb : TE} {i j : Int} (h1 : Ev ta σ H (.int i)) (h2 : Ev tb σ H (.int j)) (hj : 0 < j) (hk : j < 1073741824) : Ev (tOp (rI CDiv fun i j => .int (i / j)) ta tb) σ H (.int (i / j)) := ev_op h1 h2 (rv_I ⟨hj, hk⟩)
theorem ev_mulR {σ : L2.St} {H : Hp} {ta tb : TE} {i j : Int} (h1 : Ev ta σ H (.int i)) (h2 : Ev tb σ H (.int j)) (hj : -(2 ^ 64) < j ∧ j < 2 ^ 64) : Ev (tOp (rI CMul fun i j => .int (i * j)) ta tb) σ H (.int (i * j)) := ev_op h1 h2 (rv_I (.inr hj))
theorem ev_mulL {σ : L2.St} {H : Hp} {ta tb : TE} {i j : Int} (h1 : Ev ta σ H (.int i)) (h2 : Ev tb σ H (.int j)) (hj : -(2 ^ 64) < i ∧ i < 2 ^ 64) : Ev (tOp (rI CMul fun i j => .int (i * j)) ta tb) σ H (.int (i * j)) := ev_op h1 h2 (rv_I (.inl hj))
theorem ev_pow {σ : L2.St} {H : Hp} {ta tb : TE} {i j : Int} (k : Nat) (h1 : Ev ta σ H (.int i)) (h2 : Ev tb σ H (.int j)) (hi : i.natAbs < 2 ^ k) (hj : 0 ≤ j) (hk : (k : Int) * j ≤ 2 ^ 27) : Ev (tOp (rI CPowW fun i j => .int (i ^ j.toNat)) ta tb) σ H (.int (i ^ j.toNat)) := by
  refine ev_op h1 h2 (rv_I ⟨hj, Int.le_trans ?_ hk⟩)
  exact Int.mul_le_mul_of_nonneg_right (by exact_mod_cast PyProof.Rows.intBits_le hi) hj
theorem ev_add {σ : L2.St} {H : Hp} {ta tb : TE} {i j : Int} (h1 : Ev ta σ H (.int i)) (h2 : Ev tb σ H (.int j)) : Ev (tOp (rI0 fun i j => .int (i + j)) ta tb) σ H (.int (i + j)) := ev_op h1 h2 rv_I0
theorem ev_sub {σ : L2.St} {H : Hp} {ta tb : TE} {i j : Int} (h1 : Ev ta σ H (.int i)) (h2 : Ev tb σ H (.int j)) : Ev (tOp (rI0 fun i j => .int (i - j)) ta tb) σ H (.int (i - j)) := ev_op h1 h2 rv_I0
theorem ev_ixLi {K : PySem.W.Frag} {σ : L2.St} {H : Hp} {ta tb : TE} {a : Addr} {xs : List V} {i : Int} (j : Nat) {v : V} (h1 : Ev ta σ H (.ref a)) (h2 : Ev tb σ H (.int i)) (hs : SqL K H a xs) (hi : i = (j : Int)) (hv : xs[j]? = some v) : Ev (tOp (rIxL K) ta tb) σ H v := ev_op h1 h2 (rv_ixL hs (at_of hi hv))
section
variable {P : Program} {w : World} {K : PySem.W.Frag} {mg : Str → Option Value} {base : Heap} {tg : Tok} {f : Addr} {fd : FuncData}
abbrev s_law_dip : Stmt := topS 26
theorem sc_law_dip : FnScope ["sack", "below", "digit", "stir"] ["sack", "below"] (defScope s_law_dip) := ⟨rfl, rfl, rfl, by decide +kernel, rfl, by decide +kernel, by decide +kernel⟩
theorem ok_law_dip (F : Fun K "_law_dip" "_law_dip" s_law_dip f fd) (T : Txt mg tg) : FnOk P w K mg base CX0 1 f fd ["sack", "below"] spDip := by
  refine F.ok sc_law_dip (fun vs H Q E h => ?_) (fun cdv A outer s H vs Q E hr h => ?_)
  · obtain ⟨p, b, n, rfl, _⟩ := h
    rfl
  · obtain ⟨p, b, n, rfl, b1, b2, ⟨x, y, z, hp, x0, y0, y1, z0, z1⟩, hn, q⟩ := h
    have hn' : (n : Int) < 100000 := by
      have : n < 100000 := hn
      omega
    refine ⟨_, (pss_cons (ps_if (pt_cmpR op_gt (pe_ix (ix_listK (K := K) rfl) (pv 0) pe_int (fun _ _ => rfl)) pe_int (nomark _)) (pss_cons (ps_set (i := 2) sc_law_dip.nd rfl (Or.inl rfl) (pe_op op_mod (pe_callTy call_int1 (by rfl) T.int (by decide +kernel) (pa_cons (pe_ix (ix_listK (K := K) rfl) (pv 0) pe_int (fun _ _ => rfl)) pa_nil)) (pv 1))) (pss_cons (ps_asg (pe_op op_fdiv (pe_ix (ix_listK (K := K) rfl) (pv 0) pe_int (fun _ _ => rfl)) (pv 1)) (pg_sub (pv 0) pe_int set_list)) (pss_one (ps_ret (pv 2))))) pss_nil) (pss_cons (ps_asg (pe_op op_add (pe_ix (ix_listK (K := K) rfl) (pv 0) pe_int (fun _ _ => rfl)) pe_int) (pg_sub (pv 0) pe_int set_list)) (pss_cons (ps_set (i := 3) sc_law_dip.nd rfl (Or.inl rfl) (pe_op op_mod (pe_op op_powW (pe_callTy call_int1 (by rfl) T.int (by decide +kernel) (pa_cons (pe_op op_add (pe_ix (ix_listK (K := K) rfl) (pv 0) pe_int (fun _ _ => rfl)) (pe_op op_mul pe_int (pe_ix (ix_listK (K := K) rfl) (pv 0) pe_int (fun _ _ => rfl)))) pa_nil)) pe_int) (pe_op op_add (pe_op op_powW pe_int pe_int) pe_int))) (pss_cons (ps_set (i := 3) sc_law_dip.nd rfl (Or.inl rfl) (pe_op op_mod (pe_op op_powW (pe_callTy call_int1 (by rfl) T.int (by decide +kernel) (pa_cons (pe_op op_add (pv 3) (pe_op op_mul pe_int (pe_ix (ix_listK (K := K) rfl) (pv 0) pe_int (fun _ _ => rfl)))) pa_nil)) pe_int) (pe_op op_add (pe_op op_powW pe_int pe_int) pe_int))) (pss_one (ps_ret (pe_op op_mod (pe_op op_fdiv (pv 3) pe_int) (pv 1)))))))), ?_⟩
    refine q_when (b := decide (0 < x)) (et_test (ev_op (ev_ixLi 0 (ev_var rfl) ev_c (sq_of hp) rfl rfl) ev_c rv_I0)) (fun hx H1 e1 => ?_) (fun hx H1 e1 => ?_)
    · have g1 := e1 _ _ hp
      refine q_asg (ev_mod (ev_int (ev_ixLi 0 (ev_var rfl) ev_c (sq_of g1) rfl rfl)) (ev_var rfl) (by omega)) fun H2 e2 => ?_
      have g2 := e2 _ _ g1
      refine q_setL (j := 0) g2 (ev_div (ev_ixLi 0 (ev_var rfl) ev_c (sq_of g2) rfl rfl) (ev_var rfl) (by omega) (by omega)) (ev_var rfl) ev_c (by show 0 < 3; decide) fun H3 e3 => ?_
      refine s_ret (ev_var rfl) fun H4 e4 => q _ H4 (Int.emod_nonneg _ (by omega)) (Int.emod_lt_of_pos _ (by omega)) ?_ ?_
      · exact (but_mono (((e1.trans e2).trans e3))).trans ((by rw [but_put]; exact Ex.refl _ : Ex (but H3 p) (but (upd H3 p (.lst (List.set [V.int x, V.int y, V.int z] 0 (V.int (x / b))))) p)).trans (but_mono e4))
      · exact ⟨x / b, y, z, e4 _ _ upd_same, Int.ediv_nonneg x0 (by omega), y0, y1, z0, by omega⟩
    · have g1 := e1 _ _ hp
      refine q_setL (j := 2) g1 (ev_add (ev_ixLi 2 (ev_var rfl) ev_c (sq_of g1) rfl rfl) ev_c) (ev_var rfl) ev_c (by show 2 < 3; decide) fun H2 e2 => ?_
      have g2 : upd H2 p (.lst (List.set [V.int x, V.int y, V.int z] 2 (V.int (z + 1)))) p = some (.lst [.int x, .int y, .int (z + 1)]) := upd_same
      have s1 : (y + 60013 * (z + 1)).natAbs < 2 ^ 151 := by omega
      refine q_asg (ev_mod (ev_pow 151 (ev_int (ev_add (ev_ixLi 1 (ev_var rfl) ev_c (sq_of g2) rfl rfl) (ev_mulL ev_c (ev_ixLi 2 (ev_var rfl) ev_c (sq_of g2) rfl rfl) ⟨by decide, by decide⟩))) ev_c s1 (by decide) (by decide)) (ev_add (ev_pow 4 ev_c ev_c (by decide) (by decide) (by decide)) ev_c) (by decide)) fun H3 e3 => ?_
      have g3 := e3 _ _ g2
      have d1 := Int.emod_nonneg ((y + 60013 * (z + 1)) ^ (2 : Int).toNat) (show ((10 : Int) ^ (37 : Int).toNat + 43) ≠ 0 by decide)
      have d2 := Int.emod_lt_of_pos ((y + 60013 * (z + 1)) ^ (2 : Int).toNat) (show (0 : Int) < ((10 : Int) ^ (37 : Int).toNat + 43) by decide)
      have c1 : ((10 : Int) ^ (37 : Int).toNat + 43) = 10000000000000000000000000000000000043 := by decide
      have s2 : ((y + 60013 * (z + 1)) ^ (2 : Int).toNat % ((10 : Int) ^ (37 : Int).toNat + 43) + 1300021 * (z + 1)).natAbs < 2 ^ 151 := by
        rw [c1] at d1 d2 ⊢
        generalize (y + 60013 * (z + 1)) ^ (2 : Int).toNat % 10000000000000000000000000000000000043 = t at d1 d2 ⊢
        omega
      refine q_asg (ev_mod (ev_pow 151 (ev_int (ev_add (ev_var rfl) (ev_mulL ev_c (ev_ixLi 2 (ev_var rfl) ev_c (sq_of g3) rfl rfl) ⟨by decide, by decide⟩))) ev_c s2 (by decide) (by decide)) (ev_add (ev_pow 4 ev_c ev_c (by decide) (by decide) (by decide)) ev_c) (by decide)) fun H4 e4 => ?_
      refine s_ret (ev_mod (ev_div (ev_var rfl) ev_c (by decide) (by decide)) (ev_var rfl) (by omega)) fun H5 e5 => q _ H5 (Int.emod_nonneg _ (by omega)) (Int.emod_lt_of_pos _ (by omega)) ?_ ?_
      · exact (but_mono (e1.trans e2)).trans ((by rw [but_put]; exact Ex.refl _ : Ex (but H2 p) (but (upd H2 p (.lst (List.set [V.int x, V.int y, V.int z] 2 (V.int (z + 1))))) p)).trans (but_mono ((e3.trans e4).trans e5)))
      · exact ⟨x, y, z + 1, e5 _ _ (e4 _ _ g3), x0, y0, y1, by omega, by omega⟩
abbrev s_law_sack : Stmt := topS 25
theorem sc_law_sack : FnScope ["script", "at", "cell"] ["script", "at"] (defScope s_law_sack) := ⟨rfl, rfl, rfl, by decide +kernel, rfl, by decide +kernel, by decide +kernel⟩
theorem ok_law_sack (F : Fun K "_law_sack" "_law_sack" s_law_sack f fd) (T : Txt mg tg) : FnOk P w K mg base CX0 1 f fd ["script", "at"] (spSack K) := by
  refine F.ok sc_law_sack (fun vs H Q E h => ?_) (fun cdv A outer s H vs Q E hr h => ?_)
  · obtain ⟨a, ns, i, rfl, _⟩ := h
    rfl
  · obtain ⟨a, ns, i, rfl, hS, hz, i0, i1, q⟩ := h
    refine ⟨_, (pss_cons (ps_set (i := 2) sc_law_sack.nd rfl (Or.inl rfl) (pe_ifExp (pt_cmpR op_lt (pv 1) (pe_callB (call_len_seqK (K := K) rfl) (by rfl) T.len (by decide +kernel) (pa_cons (pv 0) pa_nil)) (nomark _)) (pe_ix (ix_listK (K := K) rfl) (pv 0) (pv 1) (fun _ _ => rfl)) pe_int)) (pss_one (ps_ret (pe_lst (pa_cons (pe_callB (call_max2 rfl) (by rfl) T.max (by decide +kernel) (pa_cons pe_int (pa_cons (pe_op op_sub (pe_callB call_abs (by rfl) T.abs (by decide +kernel) (pa_cons (pv 2) pa_nil)) (pe_op op_powW pe_int pe_int)) pa_nil))) (pa_cons (pe_op op_add (pe_op op_add (pe_op op_mul (pe_op op_mod (pe_callTy call_int1 (by rfl) T.int (by decide +kernel) (pa_cons (pv 2) pa_nil)) (pe_op op_add (pe_op op_powW pe_int pe_int) pe_int)) pe_int) (pe_op op_mul pe_int (pv 1))) pe_int) (pa_cons pe_int pa_nil))))))), ?_⟩
    have hlen : (ns.map V.int).length = ns.length := List.length_map ..
    have cell : ∃ c : Int, Ev (tIf (tTest (tOp (rI0 fun i j => .bl (decide (i < j))) (tVar 1) (tCB (rLenS K) (tCons (tVar 0) tNil)))) (tOp (rIxL K) (tVar 0) (tVar 1)) (tC (.int 0))) (L2.start ["script", "at", "cell"] [.ref a, .int i]) H (.int c) := by
      by_cases h : i < (ns.length : Int)
      · have hj : i.toNat < ns.length := by omega
        refine ⟨ns[i.toNat], ev_if (b := true) (et_is (et_test (ev_op (ev_var rfl) (ev_len (ev_var rfl) hS) rv_I0)) (by rw [hlen]; exact decide_eq_true h)) (fun _ => ev_ixLi i.toNat (ev_var rfl) (ev_var rfl) hS (by omega) (by rw [List.getElem?_map, List.getElem?_eq_getElem hj]; rfl)) (fun z => nomatch z)⟩
      · exact ⟨0, ev_if (b := false) (et_is (et_test (ev_op (ev_var rfl) (ev_len (ev_var rfl) hS) rv_I0)) (by rw [hlen]; exact decide_eq_false h)) (fun z => nomatch z) (fun _ => ev_c)⟩
    obtain ⟨c, hc⟩ := cell
    refine q_asg hc fun H1 e1 => ?_
    have d1 := Int.emod_nonneg c (show ((10 : Int) ^ (39 : Int).toNat + 3) ≠ 0 by decide)
    have d2 := Int.emod_lt_of_pos c (show (0 : Int) < ((10 : Int) ^ (39 : Int).toNat + 3) by decide)
    have c1 : ((10 : Int) ^ (39 : Int).toNat + 3) = 1000000000000000000000000000000000000003 := by decide
    refine s_retL (el_lst (ea_cons (ev_callB (z := .int (if (if c < 0 then -c else c) - (10 : Int) ^ (18 : Int).toNat > 0 then (if c < 0 then -c else c) - (10 : Int) ^ (18 : Int).toNat else 0)) (ea_cons ev_c (ea_cons (ev_sub (ev_callB (ea_cons (ev_var rfl) ea_nil) fun _ _ q => ⟨c, rfl, q⟩) (ev_pow 4 ev_c ev_c (by decide) (by decide) (by decide))) ea_nil)) fun _ _ q => ⟨0, _, rfl, q⟩)
      (ea_cons (ev_add (ev_add (ev_mulR (ev_mod (ev_int (ev_var rfl)) (ev_add (ev_pow 4 ev_c ev_c (by decide) (by decide) (by decide)) ev_c) (by decide)) ev_c ⟨by decide, by decide⟩) (ev_mulL ev_c (ev_var rfl) ⟨by decide, by decide⟩)) ev_c) (ea_cons ev_c ea_nil))) (by show 3 ≤ 100000; decide)) fun p H2 hp e2 h2 => ?_
    refine q p H2 (fresh_back e1 hp) (e1.trans e2) ⟨_, _, 0, h2, ?_, ?_, ?_, Int.le_refl _, Int.le_refl _⟩
    · split <;> omega
    · rw [c1] at d1 ⊢
      generalize c % 1000000000000000000000000000000000000003 = t at d1 ⊢
      omega
    · rw [c1] at d2 ⊢
      generalize c % 1000000000000000000000000000000000000003 = t at d2 ⊢
      omega
end
end Vf
end
section
set_option Elab.async false
set_option linter.all false
set_option maxRecDepth 100000
set_option maxHeartbeats 4000000
namespace Vf
open PySem PySem.Spec PyProof.Rows L2 Evl
/-! ### texts as rows of signs -/
abbrev cp (s : Str) : List Nat := s.cps.toList
theorem cp_app (a b : Str) : cp (a ++ b) = cp a ++ cp b := by
  show (a.cps ++ b.cps).toList = _
  simp
theorem cp_len (a : Str) : (cp a).length = a.length := by
  show a.cps.toList.length = a.cps.size
  simp
theorem cp_inj {a b : Str} (h : cp a = cp b) : a = b := PySem.W.str_of_cps h
def lets (l : List Nat) : Bool := l.all fun c => decide (97 ≤ c) && decide (c ≤ 122)
theorem lets_app (a b : List Nat) : lets (a ++ b) = (lets a && lets b) := List.all_append
theorem letters_cp (a : Str) : letters a = lets (cp a) := rfl
abbrev AL : Str := "abcdefghijklmnopqrstuvwxyz"
theorem cp_AL : cp AL = (List.range 26).map (97 + ·) := by decide +kernel
theorem len_AL : AL.length = 26 := by decide +kernel
theorem at_AL {i : Int} (h0 : 0 ≤ i) (h1 : i < 26) : atI (cp AL) i = some (97 + i.toNat) := by
  have h : (cp AL)[i.toNat]? = some (97 + i.toNat) := by
    rw [cp_AL, List.getElem?_map, List.getElem?_range (by omega)]
    rfl
  have h2 := atI_nat h
  rw [show ((i.toNat : Nat) : Int) = i by omega] at h2
  exact h2
theorem dpa_strs {K : PySem.W.Frag} {H : Hp} : ∀ es : List Str, DpAll K H (es.map V.str) (es.map PyData.str)
  | [] => .nil
  | e :: r => .cons (.str e) (dpa_strs r)
theorem dpa_strs_inv {K : PySem.W.Frag} {H : Hp} : ∀ {es : List Str} {xs : List V}, DpAll K H xs (es.map PyData.str) → xs = es.map V.str
  | [], xs, h => by cases h; rfl
  | e :: r, xs, h => by
    cases h with
    | cons h1 h2 =>
      cases h1
      rw [dpa_strs_inv h2]
      rfl
/-! ### the run goes on -/
theorem Run.upd {p l : Addr} {n : Nat} {B H : Hp} {o : HO} (r : Run p n B H) (hb : B l = none) (hl : l ≠ p) : Run p n B (upd H l o) := by
  refine ⟨fun a u h => ?_, ?_⟩
  · have hal : a ≠ l := fun z => by subst z; rw [hb] at h; cases h
    have h2 := r.ex a u h
    unfold but at h2 ⊢
    split
    · rename_i hap
      rw [if_pos hap] at h2
      cases h2
    · rename_i hap
      rw [if_neg hap] at h2
      rw [upd_ne hal]
      exact h2
  · obtain ⟨x, y, z, h1, h2⟩ := r.sk
    exact ⟨x, y, z, by rw [upd_ne hl.symm]; exact h1, h2⟩
theorem but_ne {H : Hp} {p a : Addr} (h : a ≠ p) : but H p a = H a := by unfold but; rw [if_neg h]
theorem kept {p a : Addr} {H H' : Hp} {o : HO} (e : Ex (but H p) (but H' p)) (h : H a = some o) (ha : a ≠ p) : H' a = some o := by
  have h2 := e a o (by rw [but_ne ha]; exact h)
  rw [but_ne ha] at h2
  exact h2
/-- [letters[dip 26] for turn in range(size)], joined -/
theorem st_word {K : PySem.W.Frag} {σ : L2.St} {H B : Hp} {p : Addr} {n z il isk isz it : Nat} {E : XK} {Q : VK} (hl : σ[il]? = some (some (.str AL))) (hs : σ[isk]? = some (some (.ref p))) (hz : σ[isz]? = some (some (.int (z : Int)))) (h7 : z ≤ 7)
    (e1 : il ≠ it) (e2 : isk ≠ it) (hw : ∀ x, wipe ((wipe σ [it]).set it (some x)) [it] = wipe σ [it]) (R : Run p n B H) (hn : n + 8 < LIM)
    (k : ∀ (s : Str) (H' : Hp), (cp s).length = z → lets (cp s) = true → Run p (n + z) B H' → Ex (but H p) (but H' p) → Q (.str s) H') :
    tM1 (fun x xs H Q => ∃ a p, ∃ ys : List Str, x = .str a ∧ xs = [.ref p] ∧ (SqL K H p (ys.map V.str) ∨ SqT K H p (ys.map V.str)) ∧ (ys.map (·.length)).sum + ys.length * a.length ≤ 16777216 ∧ Q (.str (Txt.join a ys)) H)
      (tC (.str "")) (tLc (iRng1 (tCons (tVar isz) tNil)) (gName it) tYes (tOp rIxS (tVar il) (tCall spDip [] E (tCons (tVar isk) (tCons (tC (.int 26)) tNil)))) [it]) σ H Q := by
  refine ⟨⟨"", rfl⟩, .int z, hz, z, rfl, by omega, by omega, fun Dl hD => ?_⟩
  have hDp : Dl ≠ p := fun e => by
    subst e
    obtain ⟨_, _, _, h, _⟩ := R.sk
    rw [h] at hD
    cases hD
  have hBD : (but H p) Dl = none := by rw [but_ne hDp]; exact hD
  have g1 : ∀ x, ((wipe σ [it]).set it (some x))[il]? = some (some (.str AL)) := fun x => by
    show ((σ.set it none).set it (some x))[il]? = _
    rw [List.getElem?_set_ne (Ne.symm e1), List.getElem?_set_ne (Ne.symm e1)]
    exact hl
  have g2 : ∀ x, ((wipe σ [it]).set it (some x))[isk]? = some (some (.ref p)) := fun x => by
    show ((σ.set it none).set it (some x))[isk]? = _
    rw [List.getElem?_set_ne (Ne.symm e2), List.getElem?_set_ne (Ne.symm e2)]
    exact hs
  have ez : (z : Int).toNat = z := by omega
  rw [ez]
  refine lc_range (lo := 0) (n := z) (fun i H' => Run p (n + i) (but H p) H' ∧ ∃ ys : List Str, H' Dl = some (.lst (ys.map V.str)) ∧ ys.length = i ∧ ∀ y ∈ ys, ∃ c, cp y = [c] ∧ 97 ≤ c ∧ c ≤ 122)
    ⟨R.new.upd hBD hDp, [], upd_same, rfl, fun y hy => by cases hy⟩ (fun i H' hi ⟨R', ys, hys, hl', hc⟩ => ⟨hw _, ?_⟩) (fun H' ⟨R', ys, hys, hl', hc⟩ => ?_)
  · show tOp rIxS (tVar il) _ _ H' _
    refine ⟨.str AL, g1 _, ?_⟩
    refine st_dip (B := but H p) (n := n + i) (b := 26) (g2 _) ev_c (by decide) (by decide) R' (by unfold LIM at hn ⊢; omega) fun r H2 r0 r1 R2 e3 => ?_
    refine ⟨AL, r, _, rfl, rfl, by rw [len_AL]; decide, at_AL r0 r1, ys.map V.str, kept e3 hys hDp, ?_, R2.upd hBD hDp, ys ++ [⟨#[97 + r.toNat]⟩], ?_, ?_, ?_⟩
    · rw [List.length_map, hl']
      exact sz_lt (by omega)
    · rw [upd_same, List.map_append]
      rfl
    · rw [List.length_append, hl']
      rfl
    · intro y hy
      rcases List.mem_append.mp hy with hy | hy
      · exact hc y hy
      · cases List.mem_singleton.mp hy
        exact ⟨97 + r.toNat, rfl, by omega, by omega⟩
  · have one : ∀ y ∈ ys, y.length = 1 := fun y hy => by
      obtain ⟨c, e, _⟩ := hc y hy
      rw [← cp_len, e]
      rfl
    have sum1 : ∀ zs : List Str, (∀ y ∈ zs, y.length = 1) → (zs.map (·.length)).sum = zs.length := by
      intro zs
      induction zs with
      | nil => exact fun _ => rfl
      | cons y r ih =>
        intro h
        rw [List.map_cons, List.sum_cons, ih fun a ha => h a (List.mem_cons_of_mem _ ha), h y List.mem_cons_self, List.length_cons]
        omega
    refine ⟨"", Dl, ys, rfl, rfl, .inl (sq_of hys), ?_, ?_⟩
    · rw [sum1 ys one, hl']
      show z + z * 0 ≤ 16777216
      omega
    · have ej : cp (Txt.join "" ys) = (ys.map cp).flatten := by
        have h := TL.tl_join "" ys
        have h2 : ∀ ps : List (List Nat), TL.joinL [] ps = ps.flatten := by
          intro ps
          induction ps with
          | nil => rfl
          | cons a r ih =>
            cases r with
            | nil => simp [TL.joinL]
            | cons b r => rw [TL.joinL, ih]; simp
        have h3 : TL.tl (Str.join "" ys) = TL.joinL [] (ys.map TL.tl) := h
        rw [h2] at h3
        show cp (Builtin.Str.glued "" ys) = _
        rw [StrLaws.glued_eq_join]
        exact h3
      have fl : ∀ zs : List Str, (∀ y ∈ zs, ∃ c, cp y = [c] ∧ 97 ≤ c ∧ c ≤ 122) → (zs.map cp).flatten.length = zs.length ∧ lets (zs.map cp).flatten = true := by
        intro zs
        induction zs with
        | nil => exact fun _ => ⟨rfl, rfl⟩
        | cons y r ih =>
          intro h
          obtain ⟨i1, i2⟩ := ih fun a ha => h a (List.mem_cons_of_mem _ ha)
          obtain ⟨c, ec, c1, c2⟩ := h y List.mem_cons_self
          rw [List.map_cons, List.flatten_cons, ec]
          refine ⟨by simp [i1], ?_⟩
          rw [lets_app, i2]
          simp [lets, c1, c2]
      obtain ⟨f1, f2⟩ := fl ys hc
      exact k _ H' (by rw [ej, f1, hl']) (by rw [ej]; exact f2) (R'.from R.ex) R'.ex
/-! ### a tuple whose object is known: it has no dict of its own -/
section
variable {X : Cx}
def rTupF (K : PySem.W.Frag) : List V → Hp → VK → Prop := fun xs H Q => ∃ p ys, xs = [.ref p] ∧ SqL K H p ys ∧ ∀ (l : Addr) (o : Obj), H l = none → o.dict = none → Q (.ref l) (upd H l (.frz o (.tup ys)))
theorem call_tupleF : CallR X (.type "tuple") (rTupF X.K) := by
  intro pins s σ H xs us Q I r h
  obtain ⟨p, ys, rfl, hq, q⟩ := h
  obtain ⟨u, rfl, rx⟩ := vals1 r
  cases rx
  obtain ⟨its, rv, pl, hz⟩ := I.list hq
  have hn := rv.length
  refine call_tuple_list pl.isList (fun h' kp => ?_) (by simp only [List.size_toArray] <;> omega)
  have J : Inv X pins σ H { s with heap := h' } := I.kept (t' := s.toks) kp
  have hnew : ObjOk X.prog X.w (upd H h'.objs.size (.frz { cls := .type "tuple", data := .seq its.toArray } (.tup ys))) (h'.push { cls := .type "tuple", data := .seq its.toArray }) h'.objs.size (.frz { cls := .type "tuple", data := .seq its.toArray } (.tup ys)) :=
    ⟨Heap.get?_push_size _ rfl, hz, its, rv, IsTup.new _ _⟩
  exact ⟨.ref h'.objs.size, _, J.laid (t' := s.toks) (fun b o e => Heap.get?_push_of_some _ e) (Nat.le_refl _) hnew, rfl, q _ _ (J.hok.fresh (Nat.le_refl _)) rfl⟩
/-- the value is such a tuple -/
def tyF (x : V) (H : Hp) : Prop := ∃ u o xs, x = .ref u ∧ H u = some (.frz o (.tup xs)) ∧ o.dict = none
def tBMF (r : V → List V → Hp → VK → Prop) (to : TE) (t : TA) : TE := fun σ H Q => to σ H fun x H1 => tyF x H1 ∧ t σ H1 fun xs H2 => r x xs H2 Q
variable {o e : Expr} {es : List Expr} {to : TE} {t : TA} {name : Str} {apos cpos : Pos} {id : String} {r : V → List V → Hp → VK → Prop}
theorem pe_bmF (pa : PlainAttrs "tuple") (slot : Slot "tuple" name id) (hty : typeOf (.builtin id) = pure (.type "method_descriptor")) (hm : MtR X id r) (ho : PE X o to) (ha : PA X (e :: es) t)
    (h1 : attributeBase o name X.env (eval o X.env) = eval o X.env := by rfl)
    (h2 : ((backTo cpos (starEach (e :: es) X.env)).all (fun x => !x.1) && (backToKw cpos (keywordEach [] X.env)).all (fun x => x.1.isSome) && decide ((e :: es).length + ([] : List Keyword).length + (if ([] : List Keyword).isEmpty then 0 else 1) < 30)) = true := by rfl)
    (h3 : (apos.endLine == cpos.line) = true := by rfl) (h4 : starEach (e :: es) X.env = (false, eval e X.env) :: starEach es X.env := by rfl) (h5 : (backTo cpos (starEach es X.env)).any (·.1) = false := by rfl) :
    PE X (.Call (.Attribute o name apos) (e :: es) [] cpos) (tBMF r to t) := by
  refine ⟨fun pins s σ H Q I h => ?_⟩
  refine wpAny_Call_method_late h1 h2 h3 rfl (thn (ho.run pins s σ H _ I h) fun v s1 ⟨x, H1, I1, r1, ty, q1⟩ => ?_)
  obtain ⟨u, ob, ys, rfl, hu, hd⟩ := ty
  cases r1
  obtain ⟨g1, z, its, rv, o2, g2, gc, gn⟩ := (show ObjOk X.prog X.w H1 s1.heap u (.frz ob (.tup ys)) from I1.hok u _ hu)
  have hA := ha.run cpos pins s1 σ H1 _ I1 q1
  rw [h4] at hA ⊢
  refine ⟨"tuple", id, pa, slot, hty, ⟨o2, g2, gc⟩, fun a ea => ?_, Calls.callWith_builtin (by show (false || (backTo cpos (starEach es X.env)).any (·.1)) = false; rw [h5] <;> rfl) (Calls.evalArgs_plain (thn hA fun us s2 ⟨vs, H2, I2, r2, q2⟩ => hm pins s2 σ H2 (.ref u) vs _ us Q I2 rfl r2 q2))⟩
  cases ea
  exact ⟨ob, g1, hd⟩
end
theorem sf_of {K : PySem.W.Frag} {H : Hp} {a : Addr} {o : Obj} {xs : List V} (h : H a = some (.frz o (.tup xs))) : SqT K H a xs := .inl (.inr ⟨o, h⟩)
end Vf
end
section
set_option Elab.async false
set_option linter.all false
set_option maxRecDepth 100000
set_option maxHeartbeats 4000000
namespace Vf
open PySem PySem.Spec PyProof.Rows L2 Evl
/-! ### the order of rows of signs -/
theorem lt_first {a b : Nat} {r s : List Nat} (h : a < b) : (a :: r) < (b :: s) := List.Lex.rel h
theorem lt_more : ∀ (l : List Nat) (c : Nat) (r : List Nat), l < l ++ c :: r
  | [], _, _ => List.Lex.nil
  | _ :: l, c, r => List.Lex.cons (lt_more l c r)
theorem lt_mid : ∀ (p : List Nat) {c d : Nat} {r s : List Nat}, c < d → p ++ c :: r < p ++ d :: s
  | [], _, _, _, _, h => List.Lex.rel h
  | _ :: p, _, _, _, _, h => List.Lex.cons (lt_mid p h)
theorem ascD_snoc : ∀ (ds : List PyData) (b : PyData), ascD ds = true → (∀ a, ds.getLast? = some a → PySem.W.dataLt a b = true) → ascD (ds ++ [b]) = true
  | [], _, _, _ => rfl
  | [a], b, _, h => by
    show (PySem.W.dataLt a b && true) = true
    rw [h a rfl]
    rfl
  | a :: c :: r, b, h1, h2 => by
    have h3 : (PySem.W.dataLt a c && ascD (c :: r)) = true := h1
    rw [Bool.and_eq_true] at h3
    show (PySem.W.dataLt a c && ascD ((c :: r) ++ [b])) = true
    rw [h3.1, ascD_snoc (c :: r) b h3.2 (fun x hx => h2 x (by rw [List.getLast?_cons_cons]; exact hx))]
    rfl
/-! ### names that are drawn -/
structure Names (first : Int) (es : List Str) : Prop where
  nam : ∀ e ∈ es, isName (.str e) = true
  asc : ascD (es.map .str) = true
  top : ∀ e, es.getLast? = some e → ∃ c r, cp e = c :: r ∧ (c : Int) ≤ 96 + first + 3 * es.length
structure Cand (first : Int) (es : List Str) (y : Str) : Prop where
  let_ : lets (cp y) = true
  lo : 1 ≤ (cp y).length
  hi : (cp y).length ≤ 8
  lt : ∀ e, es.getLast? = some e → cp e < cp y
  top : ∃ c r, cp y = c :: r ∧ (c : Int) ≤ 99 + first + 3 * es.length
theorem isName_of {y : Str} (h0 : y ≠ "go") (h1 : lets (cp y) = true) (h2 : 1 ≤ (cp y).length) (h3 : (cp y).length ≤ 8) : isName (.str y) = true := by
  rw [cp_len] at h2 h3
  show (!decide (y = "go") && ((decide (1 ≤ (y.length : Int)) && decide ((y.length : Int) ≤ 8)) && letters y)) = true
  rw [decide_eq_false h0, decide_eq_true (show 1 ≤ (y.length : Int) by omega), decide_eq_true (show (y.length : Int) ≤ 8 by omega), letters_cp, h1]
  rfl
theorem of_isName {y : Str} (h : isName (.str y) = true) : y ≠ "go" ∧ lets (cp y) = true ∧ 1 ≤ (cp y).length ∧ (cp y).length ≤ 8 := by
  have h' : (!decide (y = "go") && ((decide (1 ≤ (y.length : Int)) && decide ((y.length : Int) ≤ 8)) && letters y)) = true := h
  rw [Bool.and_eq_true, Bool.and_eq_true, Bool.and_eq_true, decide_eq_true_eq, decide_eq_true_eq] at h'
  obtain ⟨h0, ⟨h1, h2⟩, h3⟩ := h'
  rw [cp_len]
  refine ⟨fun z => ?_, h3, by omega, by omega⟩
  subst z
  rw [decide_eq_true rfl] at h0
  cases h0
theorem cp_go : cp "go" = [103, 111] := by decide +kernel
theorem cp_gone : cp "gone" = [103, 111, 110, 101] := by decide +kernel
abbrev noGo (y : Str) : Str := if y = "go" then "gone" else y
theorem Cand.fix {first : Int} {es : List Str} {y : Str} (c : Cand first es y) : Cand first es (noGo y) ∧ isName (.str (noGo y)) = true := by
  by_cases h : y = "go"
  · subst h
    have e : noGo "go" = "gone" := if_pos rfl
    rw [e]
    refine ⟨⟨by rw [cp_gone]; rfl, by rw [cp_gone]; decide, by rw [cp_gone]; decide, fun e he => ?_, ?_⟩, by decide +kernel⟩
    · have h1 := c.lt e he
      rw [cp_go] at h1
      rw [cp_gone]
      exact List.lt_trans h1 (lt_more [103, 111] 110 [101])
    · obtain ⟨a, r, e1, e2⟩ := c.top
      rw [cp_go] at e1
      cases e1
      exact ⟨103, _, cp_gone, e2⟩
  · have e : noGo y = y := if_neg h
    rw [e]
    exact ⟨c, isName_of h c.let_ c.lo c.hi⟩
theorem Names.snoc {first : Int} {es : List Str} {y : Str} (N : Names first es) (c : Cand first es y) (hn : isName (.str y) = true) : Names first (es ++ [y]) := by
  refine ⟨fun e he => ?_, ?_, fun e he => ?_⟩
  · rcases List.mem_append.mp he with he | he
    · exact N.nam e he
    · cases List.mem_singleton.mp he
      exact hn
  · rw [List.map_append]
    refine ascD_snoc _ _ N.asc fun a ha => ?_
    rw [List.getLast?_map] at ha
    cases h : es.getLast? with
    | none => rw [h] at ha; cases ha
    | some e =>
      rw [h] at ha
      cases ha
      rw [PySem.W.dataLt_str]
      exact decide_eq_true (c.lt e h)
  · rw [List.getLast?_append] at he
    cases he
    obtain ⟨a, r, e1, e2⟩ := c.top
    refine ⟨a, r, e1, ?_⟩
    rw [List.length_append]
    have : (([y] : List Str).length : Int) = 1 := rfl
    push_cast
    omega
theorem Names.nil (first : Int) : Names first [] := ⟨fun e he => (by cases he), rfl, fun e he => (by cases he)⟩
/-- a letter of its own, and some more -/
theorem cand_new {first : Int} {es : List Str} {c : Nat} {y rest : Str} (N : Names first es) (ey : cp y = c :: cp rest) (h1 : 97 + first + 3 * es.length ≤ c) (h2 : (c : Int) ≤ 99 + first + 3 * es.length) (h3 : 97 ≤ c) (h4 : c ≤ 122)
    (hr : lets (cp rest) = true) (hz : (cp rest).length ≤ 7) : Cand first es y := by
  refine ⟨?_, by rw [ey, List.length_cons]; omega, by rw [ey, List.length_cons]; omega, fun e he => ?_, c, _, ey, h2⟩
  · rw [ey]
    show ((decide (97 ≤ c) && decide (c ≤ 122)) && lets (cp rest)) = true
    rw [hr, decide_eq_true h3, decide_eq_true h4]
    rfl
  · obtain ⟨a, r, e1, e2⟩ := N.top e he
    rw [e1, ey]
    exact lt_first (by omega)
/-- the last one, and a letter more -/
theorem cand_more {first : Int} {es : List Str} {e y : Str} {c : Nat} (N : Names first es) (he : es.getLast? = some e) (ey : cp y = cp e ++ [c]) (h3 : 97 ≤ c) (h4 : c ≤ 122) (hz : (cp e).length < 8) : Cand first es y := by
  have hm := List.mem_of_getLast? he
  obtain ⟨_, n2, n3, n4⟩ := of_isName (N.nam e hm)
  refine ⟨?_, by rw [ey, List.length_append]; omega, by rw [ey, List.length_append]; show _ + 1 ≤ 8; omega, fun e' he' => ?_, ?_⟩
  · rw [ey, lets_app, n2]
    simp [lets, h3, h4]
  · rw [he] at he'
    cases he'
    rw [ey]
    exact lt_more _ _ _
  · obtain ⟨a, r, e1, e2⟩ := N.top e he
    exact ⟨a, r ++ [c], by rw [ey, e1]; rfl, by omega⟩
/-- the last one, a letter of it greater by one -/
theorem cand_up {first : Int} {es : List Str} {e y : Str} {p r s : List Nat} {c : Nat} (N : Names first es) (he : es.getLast? = some e) (ee : cp e = p ++ c :: r) (ey : cp y = p ++ (c + 1) :: s) (hc : c + 1 ≤ 122) (hs : lets s = true) (hz : p.length + 1 + s.length ≤ 8) : Cand first es y := by
  have hm := List.mem_of_getLast? he
  obtain ⟨_, n2, n3, n4⟩ := of_isName (N.nam e hm)
  rw [ee, lets_app, Bool.and_eq_true] at n2
  have h97 : 97 ≤ c := by
    have h := n2.2
    have h' : ((decide (97 ≤ c) && decide (c ≤ 122)) && lets r) = true := h
    rw [Bool.and_eq_true, Bool.and_eq_true, decide_eq_true_eq] at h'
    exact h'.1.1
  refine ⟨?_, by rw [ey, List.length_append, List.length_cons]; omega, by rw [ey, List.length_append, List.length_cons]; omega, fun e' he' => ?_, ?_⟩
  · rw [ey, lets_app, n2.1]
    show (true && ((decide (97 ≤ c + 1) && decide (c + 1 ≤ 122)) && lets s)) = true
    rw [decide_eq_true (show 97 ≤ c + 1 by omega), decide_eq_true hc, hs]
    rfl
  · rw [he] at he'
    cases he'
    rw [ee, ey]
    exact lt_mid p (Nat.lt_succ_self c)
  · obtain ⟨a, t, e1, e2⟩ := N.top e he
    cases p with
    | nil =>
      rw [ee] at e1
      cases e1
      exact ⟨c + 1, s, ey, by push_cast; omega⟩
    | cons x q =>
      rw [ee] at e1
      cases e1
      exact ⟨_, _, ey, by omega⟩
/-! ### cutting and picking -/
theorem cp_cut (z : Str) (lo hi : Option Int) : cp (cutS z lo hi) = ((cp z).drop (HT.sIx z.length 0 lo)).take (HT.sIx z.length z.length hi - HT.sIx z.length 0 lo) := rfl
theorem cp_from (z : Str) (j : Nat) : cp (cutS z (some (j : Int)) none) = (cp z).drop j := by
  rw [cp_cut, HT.sIx_nat, HT.sIx_none]
  have e : (cp z).length = z.length := cp_len z
  by_cases h : j ≤ z.length
  · rw [Nat.min_eq_left h]
    refine List.take_of_length_le ?_
    rw [List.length_drop]
    omega
  · rw [Nat.min_eq_right (by omega)]
    rw [List.drop_of_length_le (show (cp z).length ≤ z.length by omega), List.drop_of_length_le (show (cp z).length ≤ j by omega)]
    simp
theorem cp_to (z : Str) (j : Nat) : cp (cutS z none (some (j : Int))) = (cp z).take j := by
  rw [cp_cut, HT.sIx_none, HT.sIx_nat, List.drop_zero, Nat.sub_zero]
  have e : (cp z).length = z.length := cp_len z
  by_cases h : j ≤ z.length
  · rw [Nat.min_eq_left h]
  · rw [Nat.min_eq_right (by omega), List.take_of_length_le (by omega), List.take_of_length_le (by omega)]
theorem lets_take {l : List Nat} (j : Nat) (h : lets l = true) : lets (l.take j) = true := by
  unfold lets at h ⊢
  rw [List.all_eq_true] at h ⊢
  exact fun c hc => h c (List.mem_of_mem_take hc)
theorem lets_drop {l : List Nat} (j : Nat) (h : lets l = true) : lets (l.drop j) = true := by
  unfold lets at h ⊢
  rw [List.all_eq_true] at h ⊢
  exact fun c hc => h c (List.mem_of_mem_drop hc)
theorem pick26 {c : Nat} (h1 : 97 ≤ c) (h2 : c ≤ 122) : (givenD 26 (fun i => decide (97 + i = c)) fun i => .int (i : Int))[0]? = some (.int ((c - 97 : Nat) : Int)) := by
  have hm : PyData.int ((c - 97 : Nat) : Int) ∈ givenD 26 (fun i => decide (97 + i = c)) fun i => .int (i : Int) := by
    unfold givenD
    refine List.mem_map.mpr ⟨c - 97, List.mem_filter.mpr ⟨List.mem_range.mpr (by omega), decide_eq_true (by omega)⟩, rfl⟩
  have hall : ∀ d ∈ givenD 26 (fun i => decide (97 + i = c)) fun i => PyData.int (i : Int), d = .int ((c - 97 : Nat) : Int) := by
    intro d hd
    unfold givenD at hd
    obtain ⟨i, hi, rfl⟩ := List.mem_map.mp hd
    have h3 : 97 + i = c := of_decide_eq_true (List.mem_filter.mp hi).2
    have h4 : i = c - 97 := by omega
    rw [h4]
  cases e : givenD 26 (fun i => decide (97 + i = c)) fun i => PyData.int (i : Int) with
  | nil => rw [e] at hm; cases hm
  | cons d r =>
    have h := hall d (by rw [e]; exact List.mem_cons_self)
    rw [h]
    rfl
theorem one_eq {a b : Nat} : decide ((⟨#[a]⟩ : Str) = ⟨#[b]⟩) = decide (a = b) := by
  by_cases h : a = b
  · subst h; simp
  · rw [decide_eq_false h]
    refine decide_eq_false fun z => h ?_
    have h2 : cp (⟨#[a]⟩ : Str) = cp ⟨#[b]⟩ := by rw [z]
    cases h2
    rfl
/-! ### readings of texts -/
section
variable {K : PySem.W.Frag} {σ : L2.St} {H : Hp} {ta tb te : TE} {to th : TO} {lo hi : Option Int} {z : Str}
theorem ev_slS (h : Ev te σ H (.str z)) (h1 : EvO to σ H lo) (h2 : EvO th σ H hi) (hz : z.length ≤ 100000) : Ev (tSl rSlS te to th) σ H (.str (cutS z lo hi)) := fun H1 e Q q =>
  h H1 e _ fun H2 e2 => h1 H2 (e.trans e2) _ fun H3 e3 => h2 H3 ((e.trans e2).trans e3) _ fun H4 e4 => ⟨z, rfl, sz_of hz, q H4 ((e2.trans e3).trans e4)⟩
def rAddS : R2 := fun x y H Q => ∃ i j, x = .str i ∧ y = .str j ∧ i.length + j.length ≤ sizeLine ∧ Q (.str (i ++ j)) H
theorem ev_addS {a b : Str} (h1 : Ev ta σ H (.str a)) (h2 : Ev tb σ H (.str b)) (hz : a.length + b.length ≤ 100000) : Ev (tOp rAddS ta tb) σ H (.str (a ++ b)) := ev_op h1 h2 fun H1 _ Q q => ⟨a, b, rfl, rfl, sz_of hz, q H1 (Ex.refl H1)⟩
theorem ev_ixS {i : Int} {c : Nat} (j : Nat) (h1 : Ev ta σ H (.str z)) (h2 : Ev tb σ H (.int i)) (hz : z.length ≤ 100000) (hi : i = (j : Int)) (hc : (cp z)[j]? = some c) : Ev (tOp rIxS ta tb) σ H (.str ⟨#[c]⟩) := by
  refine ev_op h1 h2 (rv_ixS hz ?_)
  rw [hi]
  exact atI_nat hc
end
end Vf
end
section
set_option Elab.async false
set_option linter.all false
set_option maxRecDepth 100000
set_option maxHeartbeats 8000000
namespace Vf
open PySem PySem.Spec PyProof.Rows L2 Evl
theorem op_addS {X : Cx} : OpR X (binaryOp .Add) rAddS := op_add_str
theorem Run.fresh {p a : Addr} {n : Nat} {B H : Hp} (R : Run p n B H) (h : H a = none) : B a = none ∧ a ≠ p := by
  refine ⟨?_, fun e => ?_⟩
  · cases q : B a with
    | none => rfl
    | some o =>
      have := R.base a o q
      rw [h] at this
      cases this
  · subst e
    obtain ⟨_, _, _, h2, _⟩ := R.sk
    rw [h] at h2
    cases h2
abbrev spNames (K : PySem.W.Frag) : Sp := fun vs H Q _ => ∃ (p : Addr) (m n : Nat), vs = [.ref p, .int (m : Int)] ∧ m ≤ 7 ∧ SackAt H p n ∧ n + 120 < LIM ∧
  ∀ (a : Addr) (o : Obj) (es : List Str) (H' : Hp), o.dict = none → es.length = m → (∀ e ∈ es, isName (.str e) = true) → ascD (es.map .str) = true → Ex (but H p) (but H' p) → SackAt H' p (n + 100) → (but H' p) a = some (.frz o (.tup (es.map V.str))) → Q (.ref a) H'
theorem eqvAll_nil : ∀ es : List Str, PyData.eqvAll (es.map PyData.str) [] = decide (es = [])
  | [] => rfl
  | e :: r => by
    rw [decide_eq_false (show ¬ (e :: r = []) by simp)]
    rfl
theorem shaped_strs {es : List Str} (h : ∀ e ∈ es, lets (cp e) = true) : SeqAt.shaped (.list (es.map .str)) = true := by
  have h1 : ∀ es : List Str, (∀ e ∈ es, lets (cp e) = true) → PyData.canLayAll0 (es.map .str) = true ∧ PyData.depthAll (es.map .str) = 0 := by
    intro es
    induction es with
    | nil => exact fun _ => ⟨rfl, rfl⟩
    | cons e r ih =>
      intro h
      obtain ⟨i1, i2⟩ := ih fun a ha => h a (List.mem_cons_of_mem _ ha)
      have he := h e List.mem_cons_self
      rw [List.map_cons]
      refine ⟨?_, ?_⟩
      · rw [PyData.canLayAll0, i1, PyData.canLay0]
        rw [Bool.and_true]
        unfold PyData.strOk
        rw [Array.all_eq_true']
        intro c hc
        unfold lets at he
        rw [List.all_eq_true] at he
        have h2 := he c (Array.mem_toList_iff.mpr hc)
        rw [Bool.and_eq_true, decide_eq_true_eq, decide_eq_true_eq] at h2
        exact decide_eq_true (by omega)
      · rw [PyData.depthAll, i2, PyData.depth]
        rfl
  obtain ⟨g1, g2⟩ := h1 es h
  unfold SeqAt.shaped
  rw [PyData.canLay0, g1, PyData.depth, g2]
  rfl
/-- xs != [] -/
theorem ev_neNil {K : PySem.W.Frag} {σ : L2.St} {H : Hp} {ta : TE} {l : Addr} {es : List Str} (ha : Ev ta σ H (.ref l)) (hl : H l = some (.lst (es.map V.str))) (hn : ∀ e ∈ es, lets (cp e) = true) : Ev (tOp (rNeD K) ta (tLst tNil)) σ H (.bl (!decide (es = []))) := by
  have h := ev_opD (ed_of ha (Dp.lst (K := K) (sq_of hl) (dpa_strs es))) (ed_n (en_lst (K := K) (σ := σ) (H := H) eds_nil (by decide))) (rd_neD (K := K) (H := H) (shaped_strs hn) (d' := .list []) rfl)
  have e : PyData.eqv (.list (es.map .str)) (.list []) = decide (es = []) := by rw [PyData.eqv, eqvAll_nil]
  rw [e] at h
  exact h
theorem last_of {es : List Str} (h : es ≠ []) : ∃ e, es.getLast? = some e ∧ atI (es.map V.str) (-1) = some (.str e) := by
  refine ⟨es.getLast h, List.getLast?_eq_getLast h, ?_⟩
  have e1 : es.map V.str = es.dropLast.map V.str ++ [.str (es.getLast h)] := by rw [← List.map_singleton, ← List.map_append, List.dropLast_concat_getLast]
  rw [e1]
  exact atI_last _ _
theorem ev_last {K : PySem.W.Frag} {σ : L2.St} {H : Hp} {ta : TE} {l : Addr} {es : List Str} {e : Str} (ha : Ev ta σ H (.ref l)) (hl : H l = some (.lst (es.map V.str))) (he : atI (es.map V.str) (-1) = some (.str e)) : Ev (tOp (rIxL K) ta (tUn (rU fun i => .int (-i)) (tC (.int 1)))) σ H (.str e) :=
  ev_op ha (ev_un ev_c ru_neg) (rv_ixL (sq_of hl) he)
theorem q_any {te : TE} {tz : TS} {D : Ends} {σ : L2.St} {H : Hp} {i : Nat} (h : te σ H fun x H1 => tz D (σ.set i (some x)) H1) : tSeq (tAsg te (gName i)) tz D σ H := h
section
variable {P : Program} {w : World} {K : PySem.W.Frag} {mg : Str → Option Value} {base : Heap} {tg : Tok} {f : Addr} {fd : FuncData}
abbrev s_law_names : Stmt := topS 28
theorem sc_law_names : FnScope ["sack", "many_here", "letters", "found", "first", "k", "size", "way", "turn", "rest", "name", "at", "spot"] ["sack", "many_here"] (defScope s_law_names) := ⟨rfl, rfl, rfl, by decide +kernel, rfl, by decide +kernel, by decide +kernel⟩
theorem ok_law_names (F : Fun K "_law_names" "_law_names" s_law_names f fd) (T : Txt mg tg) (C_law_dip : Cal P w K mg base 1 "_law_dip" ["sack", "below"] spDip) : FnOk P w K mg base CX0 2 f fd ["sack", "many_here"] (spNames K) := by
  refine F.ok sc_law_names (fun vs H Q E h => ?_) (fun cdv A outer s H0 vs Q E hr h => ?_)
  · obtain ⟨p, m, n, rfl, _⟩ := h
    rfl
  · obtain ⟨p, m, n, rfl, hm, hsk, hn, q⟩ := h
    have hn' : n + 120 < 100000 := hn
    refine ⟨_, (pss_cons (ps_asg (pe_tup (pa_cons pe_str (pa_cons (pe_lst pa_nil) (pa_cons (pe_cal C_law_dip (by first | exact hr | exact hr.mono (by decide)) (by rfl) (pa_cons (pv 0) (pa_cons pe_int pa_nil))) pa_nil)))) (pg_tupK (K := K) (n := 3) rfl rfl (pgs_cons (pg_name (i := 2) sc_law_names.nd rfl (Or.inr rfl)) (pgs_cons (pg_name (i := 3) sc_law_names.nd rfl (Or.inr rfl)) (pgs_cons (pg_name (i := 4) sc_law_names.nd rfl (Or.inl rfl)) pgs_nil))))) (pss_cons (ps_for PassesOwn.never rfl (pi_range1 rfl T.range (pa_cons (pv 1) pa_nil)) (pg_name (i := 5) sc_law_names.nd rfl (Or.inl rfl)) (pss_cons (ps_par (i := 6) (j := 7) rfl sc_law_names.nd rfl rfl (by decide) rfl rfl (pa_cons (pe_ix (ix_listK (K := K) rfl) (pe_lst (pa_cons pe_int (pa_cons pe_int (pa_cons pe_int (pa_cons (pe_cal C_law_dip (by first | exact hr | exact hr.mono (by decide)) (by rfl) (pa_cons (pv 0) (pa_cons pe_int pa_nil))) pa_nil))))) (pe_cal C_law_dip (by first | exact hr | exact hr.mono (by decide)) (by rfl) (pa_cons (pv 0) (pa_cons pe_int pa_nil))) (fun _ _ => rfl)) (pa_cons (pe_cal C_law_dip (by first | exact hr | exact hr.mono (by decide)) (by rfl) (pa_cons (pv 0) (pa_cons pe_int pa_nil))) pa_nil)) (by rfl)) (pss_cons (ps_set (i := 9) sc_law_names.nd rfl (Or.inl rfl) (pe_join pe_str (pe_lc (own := [("turn", 8)]) rfl sc_law_names.nd (pi_range1 rfl T.range (pa_cons (pv 6) pa_nil)) (blkOk_by (own := [("turn", 8)]) (N := ["sack", "many_here", "letters", "found", "first", "k", "size", "way", "turn", "rest", "name", "at", "spot"]) (sc := defScope s_law_names) (by decide +kernel)) (fun _ _ _ _ _ => (pg_name (i := 8) sc_law_names.nd rfl (Or.inl rfl))) (fun _ _ _ _ _ => pts_nil) (fun _ _ _ _ _ => (pe_ix ix_str (pv 2) (pe_cal C_law_dip (by first | exact hr | exact hr.mono (by decide)) (by rfl) (pa_cons (pv 0) (pa_cons pe_int pa_nil))) (fun _ _ => rfl)))))) (pss_cons (ps_set (i := 10) sc_law_names.nd rfl (Or.inl rfl) (pe_op op_addS (pe_ix ix_str (pv 2) (pe_op op_add (pe_op op_add (pv 4) (pe_op op_mul pe_int (pe_callB (call_min2 rfl) (by rfl) T.min (by decide +kernel) (pa_cons (pv 5) (pa_cons pe_int pa_nil))))) (pe_cal C_law_dip (by first | exact hr | exact hr.mono (by decide)) (by rfl) (pa_cons (pv 0) (pa_cons pe_int pa_nil)))) (fun _ _ => rfl)) (pv 9))) (pss_cut (ps_if (PW.pt (pw_and (pt_cmpR (op_neDK (K := K) rfl (hu64 hr)) (pv 3) (pe_lst pa_nil) (nomark _)) (pw_and (pt_cmpR op_eq (pv 7) pe_int (nomark _)) (pw_and1 (pt_cmpR op_lt (pe_callB call_len_str (by rfl) T.len (by decide +kernel) (pa_cons (pe_ix (ix_listK (K := K) rfl) (pv 3) (pe_un un_neg pe_int) (fun _ _ => rfl)) pa_nil)) pe_int (nomark _)))))) (pss_one (ps_set (i := 10) sc_law_names.nd rfl (Or.inl rfl) (pe_op op_addS (pe_ix (ix_listK (K := K) rfl) (pv 3) (pe_un un_neg pe_int) (fun _ _ => rfl)) (pe_ix ix_str (pv 2) (pe_cal C_law_dip (by first | exact hr | exact hr.mono (by decide)) (by rfl) (pa_cons (pv 0) (pa_cons pe_int pa_nil))) (fun _ _ => rfl))))) pss_nil) (pss_cut (ps_if (PW.pt (pw_and (pt_cmpR (op_neDK (K := K) rfl (hu64 hr)) (pv 3) (pe_lst pa_nil) (nomark _)) (pw_and1 (pt_cmpR (op_in_seqK (K := K) rfl) (pv 7) (pe_tup (pa_cons pe_int (pa_cons pe_int pa_nil))) (by rfl))))) (pss_cons (ps_set (i := 11) sc_law_names.nd rfl (Or.inr rfl) (pe_callB (call_min2 rfl) (by rfl) T.min (by decide +kernel) (pa_cons (pe_op op_sub (pe_callB call_len_str (by rfl) T.len (by decide +kernel) (pa_cons (pe_ix (ix_listK (K := K) rfl) (pv 3) (pe_un un_neg pe_int) (fun _ _ => rfl)) pa_nil)) pe_int) (pa_cons (pe_op op_add pe_int (pe_cal C_law_dip (by first | exact hr | exact hr.mono (by decide)) (by rfl) (pa_cons (pv 0) (pa_cons pe_int pa_nil)))) pa_nil)))) (pss_cons (ps_set (i := 12) sc_law_names.nd rfl (Or.inl rfl) (pe_ix (ix_listK (K := K) rfl) (pe_lc (own := [("turn", 8)]) rfl sc_law_names.nd (pi_range1 rfl T.range (pa_cons pe_int pa_nil)) (blkOk_by (own := [("turn", 8)]) (N := ["sack", "many_here", "letters", "found", "first", "k", "size", "way", "turn", "rest", "name", "at", "spot"]) (sc := defScope s_law_names) (by decide +kernel)) (fun _ _ _ _ _ => (pg_name (i := 8) sc_law_names.nd rfl (Or.inl rfl))) (fun _ _ _ _ _ => (pts_one (pt_cmpR op_eq (pe_ix ix_str (pv 2) (pv 8) (fun _ _ => rfl)) (pe_ix ix_str (pe_ix (ix_listK (K := K) rfl) (pv 3) (pe_un un_neg pe_int) (fun _ _ => rfl)) (pv 11) (fun _ _ => rfl)) (nomark _)))) (fun _ _ _ _ _ => (pv 8))) pe_int (fun _ _ => rfl))) (pss_cons (ps_set (i := 9) sc_law_names.nd rfl (Or.inl rfl) (pe_ifExp (pt_cmpR op_eq (pv 7) pe_int (nomark _)) (pe_slice sl_str (pe_ix (ix_listK (K := K) rfl) (pv 3) (pe_un un_neg pe_int) (fun _ _ => rfl)) (po_some (pe_op op_add (pv 11) pe_int)) po_none) (pe_slice sl_str (pv 9) po_none (po_some (pe_op op_sub pe_int (pv 11)))))) (pss_one (ps_set (i := 10) sc_law_names.nd rfl (Or.inl rfl) (pe_ifExp (pt_cmpR op_lt (pv 12) pe_int (nomark _)) (pe_op op_addS (pe_op op_addS (pe_slice sl_str (pe_ix (ix_listK (K := K) rfl) (pv 3) (pe_un un_neg pe_int) (fun _ _ => rfl)) po_none (po_some (pv 11))) (pe_ix ix_str (pv 2) (pe_op op_add (pv 12) pe_int) (fun _ _ => rfl))) (pv 9)) (pv 10))))))) pss_nil) (pss_one (ps_expr (pe_bm PySem.F.plainAttrs_list PySem.F.slot_list_append PySem.F.type_list_append mt_append (pv 3) (pa_cons (pe_ifExp (pt_cmpR op_eq (pv 10) pe_str (nomark _)) pe_str (pv 10)) pa_nil)))))))))) (pss_one (ps_ret (pe_callTy call_tupleF (by rfl) T.tuple (by decide +kernel) (pa_cons (pv 3) pa_nil)))))), ?_⟩
    -- letters, found, first = ..
    refine ⟨Nat.zero_le _, fun l hl => ?_⟩
    have R0 : Run p n (but H0 p) H0 := ⟨Ex.refl _, hsk⟩
    obtain ⟨hBl, hlp⟩ := R0.fresh hl
    refine st_dip (B := but H0 p) (n := n) (b := 6) rfl ev_c (by decide) (by decide) (R0.upd hBl hlp) (by unfold LIM; omega) fun first H1 f0 f1 R1 e1 => ?_
    have hl1 : H1 l = some (.lst []) := kept e1 upd_same hlp
    refine ⟨by show 3 ≤ sizeLine; decide, fun t ht => ?_⟩
    refine ⟨t, _, rfl, st_of upd_same, rfl, _, _, rfl, _, _, rfl, _, _, rfl, rfl, ?_⟩
    have R2 := R1.on (Ex.new (o := .tup [.str AL, .ref l, .int first]) ht)
    have hlt : l ≠ t := ne_of_none hl1 ht
    refine q_forR1 (n := (m : Int)) (ea_cons (ev_var rfl) ea_nil) (by omega) (fun i σ' H' => ∃ x5 x6 x7 x8 x9 x10 x11 x12 es, σ' = [some (.ref p), some (.int (m : Int)), some (.str AL), some (.ref l), some (.int first), x5, x6, x7, x8, x9, x10, x11, x12] ∧
        Run p (n + 1 + 13 * i) (but H0 p) H' ∧ H' l = some (.lst (es.map V.str)) ∧ es.length = i ∧ Names first es) (fun H3 e3 => ⟨none, none, none, none, none, none, none, none, [], rfl, R2.on e3, e3 _ _ (by rw [upd_ne hlt]; exact hl1), rfl, Names.nil _⟩) ?_ ?_
    · -- a turn
      rintro i σ' H3 hi ⟨x5, x6, x7, x8, x9, x10, x11, x12, es, rfl, R, hL, hlen, N⟩
      have hi7 : i < 7 := by omega
      have hlet : ∀ e ∈ es, lets (cp e) = true := fun e he => (of_isName (N.nam e he)).2.1
      have hle8 : ∀ e ∈ es, (cp e).length ≤ 8 := fun e he => (of_isName (N.nam e he)).2.2.2
      -- size, way = ..
      refine st_dip (B := but H0 p) (b := 8) rfl ev_c (by decide) (by decide) R (by unfold LIM; omega) fun r8 H4 a0 a1 R4 e4 => ?_
      refine ⟨by show 4 ≤ sizeLine; decide, fun u hu => ?_⟩
      obtain ⟨hBu, hup⟩ := R4.fresh hu
      refine st_dip (B := but H0 p) (b := 4) rfl ev_c (by decide) (by decide) (R4.upd hBu hup) (by unfold LIM; omega) fun r4 H5 b0 b1 R5 e5 => ?_
      have hlu : l ≠ u := ne_of_none (kept e4 hL hlp) hu
      have hL5 : H5 l = some (.lst (es.map V.str)) := kept e5 (by rw [upd_ne hlu]; exact kept e4 hL hlp) hlp
      have hu5 : H5 u = some (.lst [.int 0, .int 1, .int 1, .int r8]) := kept e5 upd_same hup
      obtain ⟨z, hz7, hz⟩ : ∃ z : Nat, z ≤ 7 ∧ atI [V.int 0, .int 1, .int 1, .int r8] r4 = some (.int (z : Int)) := by
        have h4 : r4 = 0 ∨ r4 = 1 ∨ r4 = 2 ∨ r4 = 3 := by omega
        rcases h4 with rfl | rfl | rfl | rfl
        · exact ⟨0, by omega, rfl⟩
        · exact ⟨1, by omega, rfl⟩
        · exact ⟨1, by omega, rfl⟩
        · refine ⟨r8.toNat, by omega, ?_⟩
          have : ((r8.toNat : Nat) : Int) = r8 := by omega
          rw [this]
          rfl
      refine ⟨u, _, r4, _, rfl, rfl, sq_of hu5, hz, ?_⟩
      refine st_dip (B := but H0 p) (b := 6) rfl ev_c (by decide) (by decide) R5 (by unfold LIM; omega) fun way H6 c0 c1 R6 e6 => ?_
      refine ⟨_, _, rfl, ?_⟩
      -- rest = ..
      refine q_any (st_word (K := K) (B := but H0 p) (il := 2) (isk := 0) (isz := 6) (it := 8) rfl rfl rfl hz7 (by decide) (by decide) (by intro x; rfl) R6 (by unfold LIM; omega) fun rest H7 w1 w2 R7 e7 => ?_)
      have hL7 : H7 l = some (.lst (es.map V.str)) := kept e7 (kept e6 hL5 hlp) hlp
      -- name = ..
      refine ⟨.str AL, rfl, ?_⟩
      have emin : Ev (tCB (fun xs H Q => ∃ i j, xs = [.int i, .int j] ∧ Q (.int (if j < i then j else i)) H) (tCons (tVar 5) (tCons (tC (.int 6)) tNil))) [some (.ref p), some (.int (m : Int)), some (.str AL), some (.ref l), some (.int first), some (.int (i : Int)), some (.int (z : Int)), some (.int way), x8, some (.str rest), x10, x11, x12] H7 (.int (i : Int)) :=
        ev_callB (ea_cons (ev_var rfl) (ea_cons ev_c ea_nil)) fun _ _ q => ⟨(i : Int), 6, rfl, by rw [if_neg (by omega)]; exact q⟩
      refine ev_add (ev_var rfl) (ev_mulL ev_c emin ⟨by decide, by decide⟩) H7 (Ex.refl _) _ fun H8 e8 => ?_
      refine st_dip (B := but H0 p) (b := 3) rfl ev_c (by decide) (by decide) (R7.on e8) (by unfold LIM; omega) fun r3 H9 d0 d1 R9 e9 => ?_
      have hL9 : H9 l = some (.lst (es.map V.str)) := kept e9 (e8 _ _ hL7) hlp
      refine ⟨_, _, rfl, rfl, AL, _, _, rfl, rfl, by rw [len_AL]; decide, at_AL (by omega) (by omega), .str rest, rfl, ⟨#[97 + (first + 3 * (i : Int) + r3).toNat]⟩, rest, rfl, rfl, ?_, ?_⟩
      · have : rest.length = z := by rw [← cp_len, w1]
        show 1 + rest.length ≤ sizeLine
        exact sz_of (by omega)
      have C0 : Cand first es ((⟨#[97 + (first + 3 * (i : Int) + r3).toNat]⟩ : Str) ++ rest) := cand_new N (c := 97 + (first + 3 * (i : Int) + r3).toNat) (by rw [cp_app]; rfl) (by omega) (by omega) (by omega) (by omega) w2 (by omega)
      generalize ((⟨#[97 + (first + 3 * (i : Int) + r3).toNat]⟩ : Str) ++ rest) = y0 at C0 ⊢
      -- the first if
      refine q_cut (M := fun σ' H' => ∃ y, σ' = [some (.ref p), some (.int (m : Int)), some (.str AL), some (.ref l), some (.int first), some (.int (i : Int)), some (.int (z : Int)), some (.int way), x8, some (.str rest), some (.str y), x11, x12] ∧
          Run p (n + 1 + 13 * i + 12) (but H0 p) H' ∧ H' l = some (.lst (es.map V.str)) ∧ Cand first es y) ?_ ?_
      · by_cases hes : es = []
        · refine s_when (b := false) (et_is (et_and (b := true) (et_test (ev_neNil (ev_var rfl) hL9 hlet)) fun h => ?_) (by rw [hes]; rfl)) (fun h => nomatch h) fun _ H10 e10 => ⟨y0, rfl, (R9.on e10).mono (by omega), e10 _ _ hL9, C0⟩
          rw [hes] at h
          cases h
        · obtain ⟨e, he1, he2⟩ := last_of hes
          have hem := List.mem_of_getLast? he1
          have he8 : e.length ≤ 8 := by rw [← cp_len]; exact hle8 e hem
          refine s_when (et_and (et_test (ev_neNil (ev_var rfl) hL9 hlet)) fun _ => et_and (et_test (ev_opD (K := K) (ed_of (ev_var rfl) (.int way)) (ed_of ev_c (.int 0)) rd_eqI)) fun _ => et_test (ev_op (ev_lenStr (ev_last (ev_var rfl) hL9 he2) (by omega)) ev_c rv_I0)) (fun hb H10 e10 => ?_) fun _ H10 e10 => ⟨y0, rfl, (R9.on e10).mono (by omega), e10 _ _ hL9, C0⟩
          have h8 : (e.length : Int) < 8 := by
            rw [Bool.and_eq_true, Bool.and_eq_true, decide_eq_true_eq, decide_eq_true_eq] at hb
            exact hb.2.2
          have hL10 := e10 _ _ hL9
          refine ev_last (ev_var rfl) hL10 he2 H10 (Ex.refl _) _ fun H11 e11 => ?_
          refine ⟨.str AL, rfl, ?_⟩
          refine st_dip (B := but H0 p) (b := 26) rfl ev_c (by decide) (by decide) ((R9.on e10).on e11) (by unfold LIM; omega) fun r H12 g0 g1 R12 e12 => ?_
          refine ⟨AL, r, _, rfl, rfl, by rw [len_AL]; decide, at_AL g0 g1, e, ⟨#[97 + r.toNat]⟩, rfl, rfl, ?_, ?_⟩
          · show e.length + 1 ≤ sizeLine
            exact sz_of (by omega)
          · exact ⟨_, rfl, R12.mono (by omega), kept e12 (e11 _ _ hL10) hlp, cand_more N he1 (by rw [cp_app]) (by omega) (by omega) (by rw [cp_len]; omega)⟩
      · rintro σ' H10 ⟨y1, rfl, R10, hL10, C1⟩
        -- the second if
        refine q_cut (M := fun σ' H' => ∃ y x8 x9 x11 x12, σ' = [some (.ref p), some (.int (m : Int)), some (.str AL), some (.ref l), some (.int first), some (.int (i : Int)), some (.int (z : Int)), some (.int way), x8, x9, some (.str y), x11, x12] ∧
            Run p (n + 1 + 13 * i + 13) (but H0 p) H' ∧ H' l = some (.lst (es.map V.str)) ∧ Cand first es y) ?_ ?_
        · by_cases hes : es = []
          · refine s_when (b := false) (et_is (et_and (b := true) (et_test (ev_neNil (ev_var rfl) hL10 hlet)) fun h => ?_) (by rw [hes]; rfl)) (fun h => nomatch h) fun _ H11 e11 => ⟨y1, _, _, _, _, rfl, (R10.on e11).mono (by omega), e11 _ _ hL10, C1⟩
            rw [hes] at h
            cases h
          · obtain ⟨e, he1, he2⟩ := last_of hes
            have hem := List.mem_of_getLast? he1
            have hq := of_isName (N.nam e hem)
            have hlenE : (cp e).length = e.length := cp_len e
            have he8 : e.length ≤ 8 := by rw [← cp_len]; exact hle8 e hem
            refine s_when (et_and (et_test (ev_neNil (ev_var rfl) hL10 hlet)) fun _ => et_test (ev_inU (ev_var rfl) (eu_tup (ea_cons ev_c (ea_cons ev_c ea_nil)) (by show 2 ≤ 100000; decide)) rfl rfl)) (fun hb H11 e11 => ?_) fun _ H11 e11 => ⟨y1, _, _, _, _, rfl, (R10.on e11).mono (by omega), e11 _ _ hL10, C1⟩
            have hL11 := e11 _ _ hL10
            -- at = ..
            refine ev_sub (ev_lenStr (ev_last (ev_var rfl) hL11 he2) (by omega)) ev_c H11 (Ex.refl _) _ fun H12 e12 => ?_
            refine st_dip (B := but H0 p) (b := 8) rfl ev_c (by decide) (by decide) ((R10.on e11).on e12) (by unfold LIM; omega) fun r H13 g0 g1 R13 e13 => ?_
            refine ⟨1, r, rfl, rfl, (e.length : Int) - 1, 1 + r, rfl, ?_⟩
            have hL13 : H13 l = some (.lst (es.map V.str)) := kept e13 (e12 _ _ hL11) hlp
            have hlo : 1 ≤ e.length := by rw [← cp_len]; exact hq.2.2.1
            obtain ⟨j, hj, ej⟩ : ∃ j : Nat, j < e.length ∧ (if 1 + r < (e.length : Int) - 1 then 1 + r else (e.length : Int) - 1) = (j : Int) := by
              by_cases h : 1 + r < (e.length : Int) - 1
              · rw [if_pos h]; exact ⟨(1 + r).toNat, by omega, by omega⟩
              · rw [if_neg h]; exact ⟨e.length - 1, by omega, by omega⟩
            rw [ej]
            have hj2 : j < (cp e).length := by omega
            obtain ⟨c, hc⟩ : ∃ c, (cp e)[j]? = some c := ⟨_, List.getElem?_eq_getElem hj2⟩
            have hcl : 97 ≤ c ∧ c ≤ 122 := by
              have h := hq.2.1
              unfold lets at h
              rw [List.all_eq_true] at h
              have h2 := h c (List.mem_of_getElem? hc)
              rw [Bool.and_eq_true, decide_eq_true_eq, decide_eq_true_eq] at h2
              exact h2
            have hsplit : cp e = (cp e).take j ++ c :: (cp e).drop (j + 1) := by
              obtain ⟨h1, h2⟩ := List.getElem?_eq_some_iff.mp hc
              rw [← h2, ← List.drop_eq_getElem_cons h1, List.take_append_drop]
            -- spot = ..
            refine q_asgD (K := K) (ed_ixL 0 (d := .int ((c - 97 : Nat) : Int)) (ed_n (en_lcR 26 (fun t => decide (97 + t = c)) (fun t => .int (t : Int)) (ea_cons ev_c ea_nil) rfl ⟨by decide, by decide⟩ (fun _ _ => rfl) fun t H14 e14 ht => ?_)) ev_c rfl (pick26 hcl.1 hcl.2)) fun v14 H14 e14 hv => ?_
            · refine ⟨_, ?_, goes_name, ?_, fun _ => ed_of (ev_var rfl) (.int _)⟩
              · rfl
              · have ht26 : (cp AL)[t]? = some (97 + t) := by
                  rw [cp_AL, List.getElem?_map, List.getElem?_range ht]
                  rfl
                have hl14 := e14 _ _ hL13
                refine et_is (et_test (ev_opD (K := K) (ed_of (ev_ixS t (ev_var rfl) (ev_var rfl) (by rw [len_AL]; decide) rfl ht26) (.str _)) (ed_of (ev_ixS j (ev_last (ev_var rfl) hl14 he2) (ev_var rfl) (by omega) rfl hc) (.str _)) rd_eqS)) one_eq
            · cases hv
              have hL14 := e14 _ _ hL13
              -- rest = ..
              have hrest : ∃ s : Str, lets (cp s) = true ∧ (cp s).length ≤ 7 - j ∧ Ev (tIf (tTest (tOp rEq (tVar 7) (tC (.int 1)))) (tSl rSlS (tOp (rIxL K) (tVar 3) (tUn (rU fun i => .int (-i)) (tC (.int 1)))) (tPart (tOp (rI0 fun i j => .int (i + j)) (tVar 11) (tC (.int 1)))) tNoPart) (tSl rSlS (tVar 9) tNoPart (tPart (tOp (rI0 fun i j => .int (i - j)) (tC (.int 7)) (tVar 11)))))
                  [some (.ref p), some (.int (m : Int)), some (.str AL), some (.ref l), some (.int first), some (.int (i : Int)), some (.int (z : Int)), some (.int way), x8, some (.str rest), some (.str y1), some (.int (j : Int)), some (.int ((c - 97 : Nat) : Int))] H14 (.str s) := by
                by_cases hw1 : way = 1
                · refine ⟨cutS e (some ((j + 1 : Nat) : Int)) none, ?_, ?_, ev_if (b := true) (et_is (et_test (ev_opD (K := K) (ed_of (ev_var rfl) (.int way)) (ed_of ev_c (.int 1)) rd_eqI)) (decide_eq_true hw1)) (fun _ => ?_) fun h => nomatch h⟩
                  · rw [cp_from]; exact lets_drop _ hq.2.1
                  · rw [cp_from, List.length_drop]; omega
                  · have e7 : (((j + 1 : Nat)) : Int) = (j : Int) + 1 := by omega
                    rw [e7]
                    exact ev_slS (ev_last (ev_var rfl) hL14 he2) (eo_some (ev_add (ev_var rfl) ev_c)) eo_none (by omega)
                · refine ⟨cutS rest none (some ((7 - j : Nat) : Int)), ?_, ?_, ev_if (b := false) (et_is (et_test (ev_opD (K := K) (ed_of (ev_var rfl) (.int way)) (ed_of ev_c (.int 1)) rd_eqI)) (decide_eq_false hw1)) (fun h => nomatch h) fun _ => ?_⟩
                  · rw [cp_to]; exact lets_take _ w2
                  · rw [cp_to, List.length_take]; omega
                  · have e7 : (((7 - j : Nat)) : Int) = 7 - (j : Int) := by omega
                    rw [e7]
                    exact ev_slS (ev_var rfl) eo_none (eo_some (ev_sub ev_c (ev_var rfl))) (by rw [← cp_len, w1]; omega)
              obtain ⟨s2, s2l, s2z, hev⟩ := hrest
              refine q_asg hev fun H15 e15 => ?_
              have hL15 := e15 _ _ hL14
              have R15 : Run p (n + 1 + 13 * i + 13) (but H0 p) H15 := ((R13.on e14).on e15).mono (by omega)
              -- name = ..
              by_cases hsp : c - 97 < 25
              · have hc1 : (cp AL)[c - 97 + 1]? = some (c + 1) := by
                  rw [cp_AL, List.getElem?_map, List.getElem?_range (by omega)]
                  show some (97 + (c - 97 + 1)) = some (c + 1)
                  congr 1
                  omega
                have hlen1 : (cutS e none (some (j : Int))).length = j := by
                  rw [← cp_len, cp_to, List.length_take]
                  omega
                have hs2 : s2.length ≤ 7 := by rw [← cp_len]; omega
                refine s_asg (v := .str ((cutS e none (some (j : Int)) ++ (⟨#[c + 1]⟩ : Str)) ++ s2)) (ev_if (b := true) (et_is (et_test (ev_op (ev_var rfl) ev_c rv_I0)) (decide_eq_true (by omega))) (fun _ => ev_addS (ev_addS (ev_slS (ev_last (ev_var rfl) hL15 he2) eo_none (eo_some (ev_var rfl)) (by omega)) (ev_ixS (c - 97 + 1) (ev_var rfl) (ev_add (ev_var rfl) ev_c) (by rw [len_AL]; decide) (by push_cast; rfl) hc1) ?_) (ev_var rfl) ?_) fun h => nomatch h) fun H16 e16 => ⟨_, _, _, _, _, rfl, R15.on e16, e16 _ _ hL15, ?_⟩
                · rw [hlen1]; show j + 1 ≤ 100000; omega
                · have : (cutS e none (some (j : Int)) ++ (⟨#[c + 1]⟩ : Str)).length = j + 1 := by
                    rw [← cp_len, cp_app, List.length_append, cp_len, hlen1]
                    rfl
                  omega
                · refine cand_up N he1 hsplit (s := cp s2) ?_ (by omega) s2l ?_
                  · rw [cp_app, cp_app, cp_to, List.append_assoc]
                    rfl
                  · rw [List.length_take]; omega
              · refine s_asg (v := .str y1) (ev_if (b := false) (et_is (et_test (ev_op (ev_var rfl) ev_c rv_I0)) (decide_eq_false (by omega))) (fun h => nomatch h) fun _ => ev_var rfl) fun H16 e16 => ⟨_, _, _, _, _, rfl, R15.on e16, e16 _ _ hL15, C1⟩
        · rintro σ' H11 ⟨y, x8', x9', x11', x12', rfl, R11, hL11, C2⟩
          -- found.append(..)
          obtain ⟨C3, nm⟩ := C2.fix
          refine s_app hL11 (ev_var rfl) (v := .str (noGo y)) ?_ (by rw [List.length_map]; omega) fun H12 e12 => ?_
          · by_cases hg : y = "go"
            · refine ev_is (ev_if (b := true) (et_is (et_test (ev_opD (K := K) (ed_of (ev_var rfl) (.str y)) (ed_of ev_c (.str "go")) rd_eqS)) (decide_eq_true hg)) (fun _ => ev_c) fun h => nomatch h) ?_
              show V.str "gone" = V.str (noGo y)
              rw [show noGo y = "gone" from if_pos hg]
            · refine ev_is (ev_if (b := false) (et_is (et_test (ev_opD (K := K) (ed_of (ev_var rfl) (.str y)) (ed_of ev_c (.str "go")) rd_eqS)) (decide_eq_false hg)) (fun h => nomatch h) fun _ => ev_var rfl) ?_
              rw [show noGo y = y from if_neg hg]
          · refine ⟨_, _, _, _, _, _, _, _, es ++ [noGo y], rfl, ?_, ?_, ?_, N.snoc C3 nm⟩
            · have h13 : n + 1 + 13 * i + 13 = n + 1 + 13 * (i + 1) := by omega
              rw [← h13]
              exact (R11.on e12).upd hBl hlp
            · rw [upd_same, List.map_append]
              rfl
            · rw [List.length_append, hlen]
              rfl
    · -- return tuple(found)
      rintro σ' H3 ⟨x5, x6, x7, x8, x9, x10, x11, x12, es, rfl, R, hL, hlen, N⟩
      refine ⟨_, rfl, l, es.map V.str, rfl, sq_of hL, fun a o ha hod => ?_⟩
      have hm2 : es.length = m := by omega
      have R3 := R.on (Ex.new (o := .frz o (.tup (es.map V.str))) ha)
      obtain ⟨hBa, hap⟩ := R.fresh ha
      refine q a o es _ hod hm2 N.nam N.asc R3.ex (R3.sk.mono ?_) (by rw [but_ne hap, upd_same])
      omega
end
end Vf
end
section
set_option Elab.async false
set_option linter.all false
set_option maxRecDepth 100000
set_option maxHeartbeats 4000000
namespace Vf
open PySem PySem.Spec PyProof.Rows L2 Evl
/-! ### sorted(..) of data that are alike -/
def rSortedD (K : PySem.W.Frag) : List V → Hp → VK → Prop := fun vs H Q => ∃ (a : Addr) (xs : List V) (ds : List PyData), vs = [.ref a] ∧ SqL K H a xs ∧ DpAll K H xs ds ∧ PySem.W.AllAlike ds ∧ PySem.W.Sortable ds ∧ (∀ d ∈ ds, d.depth ≤ 64) ∧ ds.length ≤ 10000 ∧
  ∀ (p : Addr) (qs : List (V × PyData)), qs.Perm (xs.zip ds) → (qs.map (·.2)).Pairwise (fun a b => PySem.W.dataLt b a = false) → DpAll K H (qs.map (·.1)) (qs.map (·.2)) → H p = none → Q (.ref p) (upd H p (.lst (qs.map (·.1))))
theorem each_of {K : PySem.W.Frag} {H : Hp} {h : Heap} : ∀ {xs : List V} {ds : List PyData} {us : List Value} {as : List Addr}, DpAll K H xs ds → Vals xs us → ReadsAll h us ds as →
    PySem.W.EachIs (fun (u : Value) (b : V × PyData) => RelV b.1 u ∧ Dp K H b.1 b.2) us (xs.zip ds) ∧ PySem.W.EachIs (fun (u : Value) (b : V × PyData) => ∃ as, Reads h u b.2 as) us (xs.zip ds)
  | _, _, _, _, .nil, .nil, _ => ⟨.nil, .nil⟩
  | _, _, _, _, .cons hd ha, .cons r rr, q => by
    cases q with
    | cons q1 q2 =>
      obtain ⟨i1, i2⟩ := each_of ha rr q2
      exact ⟨.cons ⟨r, hd⟩ i1, .cons ⟨_, q1⟩ i2⟩
theorem each_back {K : PySem.W.Frag} {H : Hp} : ∀ {us : List Value} {qs : List (V × PyData)}, PySem.W.EachIs (fun (u : Value) (b : V × PyData) => RelV b.1 u ∧ Dp K H b.1 b.2) us qs → Vals (qs.map (·.1)) us ∧ DpAll K H (qs.map (·.1)) (qs.map (·.2))
  | _, _, .nil => ⟨.nil, .nil⟩
  | _, _, .cons r t => by
    obtain ⟨i1, i2⟩ := each_back t
    exact ⟨.cons r.1 i1, .cons r.2 i2⟩
theorem zip_snd {α β : Type} : ∀ {xs : List α} {ys : List β}, xs.length = ys.length → (xs.zip ys).map (·.2) = ys
  | [], [], _ => rfl
  | _ :: xs, _ :: ys, h => by
    rw [List.zip_cons_cons, List.map_cons, zip_snd (Nat.succ.inj h)]
theorem cr_sortedD {X : Cx} (hu : X.A.units + 100 < cLine) : CallR X (.builtin "sorted") (rSortedD X.K) := by
  intro pins s σ H vs us Q I r h
  obtain ⟨a, xs, ds, rfl, hs, hall, hal, hk, hdep, hz, q⟩ := h
  obtain ⟨its, rv, hl, _⟩ := I.list hs
  rw [Vals.ref1 r]
  obtain ⟨as, hr⟩ := Dp.readsAll I ds xs its hall rv
  obtain ⟨g1, g2⟩ := each_of hall rv hr
  have hlen := dpa_len hall
  have ez := zip_snd hlen
  have lz : (xs.zip ds).length = ds.length := by rw [← List.length_map (f := fun b : V × PyData => b.2), ez]
  refine PySem.W.sorted_data (enc := fun b : V × PyData => b.2) hl.isList g1 g2 (by rw [ez]; exact hal) (by rw [ez]; exact hk) (by rw [lz]; exact sz_of (by omega)) (fun b hb => ?_) fun out lo ho => ?_
  · have hm : b.2 ∈ ds := by rw [← ez]; exact List.mem_map.mpr ⟨b, hb, rfl⟩
    have := hdep _ hm
    omega
  · obtain ⟨v1, v2⟩ := each_back ho
    have pm : ((xs.zip ds).mergeSort (PySem.W.dataLe false fun b : V × PyData => b.2)).Perm (xs.zip ds) := List.mergeSort_perm _ _
    have pw := PySem.W.sort_pairwise (PySem.W.sortLe_total (listOrd itemOrd) false fun b : V × PyData => PySem.W.keyToks b.2) (xs.zip ds)
    obtain ⟨ep, he'⟩ := PyProof.Rows.sortedAll_at s.heap its out.toArray
    have hle : (((xs.zip ds).mergeSort (PySem.W.dataLe false fun b : V × PyData => b.2)).map (·.1)).length ≤ sizeLine := by
      rw [List.length_map, pm.length_eq, lz]
      exact sz_of (by omega)
    refine ⟨.ref _, upd H (s.heap.objs.size + 1) (.lst (((xs.zip ds).mergeSort (PySem.W.dataLe false fun b : V × PyData => b.2)).map (·.1))), I.laid (t' := s.toks) (fun _ _ => PyProof.Rows.sortedAll_old) (Nat.le_succ _) ⟨hle, out, ep, v1, he'⟩, rfl, ?_⟩
    refine q _ ((xs.zip ds).mergeSort (PySem.W.dataLe false fun b : V × PyData => b.2)) pm ?_ v2 (I.hok.fresh (Nat.le_succ _))
    · rw [List.pairwise_map]
      refine pw.imp fun {x y} h => ?_
      have h' : (!PySem.W.dataLt y.2 x.2) = true := h
      cases e : PySem.W.dataLt y.2 x.2 with
      | false => rfl
      | true => rw [e] at h'; cases h'
theorem data_total {a b : PyData} (h1 : PySem.W.dataLt a b = false) (h2 : PySem.W.dataLt b a = false) : PySem.W.keyToks a = PySem.W.keyToks b := (listOrd itemOrd).total _ _ h1 h2
/-- rows that ascend, none twice -/
theorem asc_of : ∀ ds : List PyData, ds.Pairwise (fun a b => PySem.W.dataLt b a = false) → ds.Pairwise (fun a b => PySem.W.keyToks a ≠ PySem.W.keyToks b) → ascD ds = true
  | [], _, _ => rfl
  | [_], _, _ => rfl
  | a :: b :: r, h1, h2 => by
    rw [List.pairwise_cons] at h1 h2
    have h3 : PySem.W.dataLt a b = true := by
      cases e : PySem.W.dataLt a b with
      | true => rfl
      | false => exact absurd (data_total e (h1.1 b List.mem_cons_self)) (h2.1 b List.mem_cons_self)
    show (PySem.W.dataLt a b && ascD (b :: r)) = true
    rw [h3, asc_of (b :: r) h1.2 h2.2]
    rfl
end Vf
end
section
set_option Elab.async false
set_option linter.all false
set_option maxRecDepth 100000
set_option maxHeartbeats 4000000
namespace Vf
open PySem PySem.Spec PyProof.Rows L2 Evl
/-! ### tasks that are drawn -/
abbrev Job := Str × Str × Int × Int
/-- between the least and the greatest time lie at most 900 moments -/
def spanOk : PyData → Prop | .tuple [_, _, .int l, .int g] => g - l ≤ 900 | _ => False
def jobD (j : Job) : PyData := .tuple [.str j.1, .str j.2.1, .int j.2.2.1, .int j.2.2.2]
structure Jobs (es : List Str) (js : List Job) (sp : List Str) : Prop where
  ok : ∀ j ∈ js, j.1 ∈ es ∧ j.2.1 ∈ es ∧ 1 ≤ j.2.2.1 ∧ j.2.2.1 ≤ j.2.2.2 ∧ j.2.2.2 - j.2.2.1 ≤ 900
  sp : ∀ x, x ∈ sp ↔ x ∈ es ∧ x ∉ js.map (·.2.1)
  uniq : (js.map (·.2.1)).Nodup
  back : js.Pairwise fun i j => j.1 ≠ i.2.1
  own : ∀ j ∈ js, j.1 ≠ j.2.1
theorem Jobs.nil (es : List Str) : Jobs es [] es := ⟨fun j h => (by cases h), fun x => by simp, List.nodup_nil, List.Pairwise.nil, fun j h => (by cases h)⟩
theorem Jobs.snoc {es : List Str} {js : List Job} {sp : List Str} (J : Jobs es js sp) {b e : Str} {l g : Int} (he : e ∈ sp) (hb : b ∈ sp.filter fun x => !decide (x = e)) (hl : 1 ≤ l) (hg : l ≤ g) (hs : g - l ≤ 900) : Jobs es (js ++ [(b, e, l, g)]) (sp.filter fun x => !decide (x = e)) := by
  have hb1 := List.mem_filter.mp hb
  have hbe : b ≠ e := by simpa using hb1.2
  have e1 := (J.sp e).mp he
  have b1 := (J.sp b).mp hb1.1
  refine ⟨fun j hj => ?_, fun x => ?_, ?_, ?_, fun j hj => ?_⟩
  · rcases List.mem_append.mp hj with hj | hj
    · exact J.ok j hj
    · cases List.mem_singleton.mp hj
      exact ⟨b1.1, e1.1, hl, hg, hs⟩
  · rw [List.mem_filter, J.sp, List.map_append, List.mem_append]
    simp only [List.map_cons, List.map_nil, List.mem_singleton, Bool.not_eq_true', decide_eq_false_iff_not]
    constructor
    · rintro ⟨⟨h1, h2⟩, h3⟩
      exact ⟨h1, fun h => h.elim h2 h3⟩
    · rintro ⟨h1, h2⟩
      exact ⟨⟨h1, fun h => h2 (.inl h)⟩, fun h => h2 (.inr h)⟩
  · rw [List.map_append, List.nodup_append]
    refine ⟨J.uniq, by simp, fun a ha c hc => ?_⟩
    have : c = e := by simpa using hc
    subst this
    exact fun z => e1.2 (z ▸ ha)
  · rw [List.pairwise_append]
    refine ⟨J.back, List.pairwise_singleton _ _, fun i hi j hj => ?_⟩
    cases List.mem_singleton.mp hj
    exact fun z => b1.2 (List.mem_map.mpr ⟨i, hi, z.symm⟩)
  · rcases List.mem_append.mp hj with hj | hj
    · exact J.own j hj
    · cases List.mem_singleton.mp hj
      exact hbe
theorem putAll_val {k : Nat → Key} {u : Nat → V} {x : Key} {v : V} : ∀ n, valV (putAll n k u) x = some v → ∃ i, i < n ∧ k i = x ∧ u i = v
  | 0, h => by cases h
  | n + 1, h => by
    rw [putAll_succ, valV_put] at h
    split at h
    · rename_i e
      cases h
      exact ⟨n, Nat.lt_succ_self _, e.symm, rfl⟩
    · obtain ⟨i, hi, h1, h2⟩ := putAll_val n h
      exact ⟨i, Nat.lt_succ_of_lt hi, h1, h2⟩
theorem putAll_full {k : Nat → Key} {u : Nat → V} : ∀ n, (∀ i j, i < n → j < n → k i = k j → i = j) → (putAll n k u).length = n
  | 0, _ => rfl
  | n + 1, h => by
    rw [putAll_succ, putK_new]
    · rw [List.length_append, putAll_full n fun i j hi hj => h i j (Nat.lt_succ_of_lt hi) (Nat.lt_succ_of_lt hj)]
      rfl
    · have e := putAll_some (k := k) (u := u) (x := k n) n
      have hf : ¬ ∃ i, i < n ∧ k i = k n := fun ⟨i, hi, hk⟩ => by
        have := h i n (Nat.lt_succ_of_lt hi) (Nat.lt_succ_self _) hk
        omega
      rw [decide_eq_false hf] at e
      cases q : valV (putAll n k u) (k n) with
      | none => rfl
      | some _ => rw [q] at e; cases e
theorem kE_job (j : Job) : kE (jobD j) = j.2.1 := rfl
theorem kB_job (j : Job) : kB (jobD j) = j.1 := rfl
theorem isTask_job {es : List Str} {j : Job} (h : j.1 ∈ es ∧ j.2.1 ∈ es ∧ 1 ≤ j.2.2.1 ∧ j.2.2.1 ≤ j.2.2.2 ∧ j.2.2.2 - j.2.2.1 ≤ 900) : isTask es (jobD j) = true := by
  show (decide (j.1 ∈ es) && (decide (j.2.1 ∈ es) && (decide (1 ≤ j.2.2.1) && decide (j.2.2.1 ≤ j.2.2.2)))) = true
  rw [decide_eq_true h.1, decide_eq_true h.2.1, decide_eq_true h.2.2.1, decide_eq_true h.2.2.2.1]
  rfl
theorem toks_job {i j : Job} (h : PySem.W.keyToks (jobD i) = PySem.W.keyToks (jobD j)) : i.2.1 = j.2.1 := by
  simp [jobD, PySem.W.keyToks, PySem.W.keyToksAll] at h
  exact cp_inj (congrArg Array.toList h.2.1)
/-- the tasks in another order: what goes back from ends to begins -/
theorem bg_val {js : List Job} {ts : List PyData} (hp : ts.Perm (js.map jobD)) {x y : Str} (h : valV (bg ts) (.inr x) = some (.str y)) : ∃ j ∈ js, j.2.1 = x ∧ j.1 = y := by
  obtain ⟨i, hi, h1, h2⟩ := putAll_val _ h
  have hm : ts.getD i .none ∈ ts := by simp [List.getD, hi]
  obtain ⟨j, hj, ej⟩ := List.mem_map.mp (hp.mem_iff.mp hm)
  rw [← ej] at h1 h2
  exact ⟨j, hj, Sum.inr.inj h1, V.str.inj h2⟩
theorem bg_none {js : List Job} {ts : List PyData} (hp : ts.Perm (js.map jobD)) {x : Str} (h : x ∉ js.map (·.2.1)) : valV (bg ts) (.inr x) = none := by
  have e := putAll_some (k := fun i => (.inr (kE (ts.getD i .none)) : Key)) (u := fun i => .str (kB (ts.getD i .none))) (x := .inr x) ts.length
  have hf : ¬ ∃ i, i < ts.length ∧ (Sum.inr (kE (ts.getD i .none)) : Key) = .inr x := fun z => by
    have h2 := mem_keys.mp z
    obtain ⟨t, ht, et⟩ := List.mem_map.mp h2
    obtain ⟨j, hj, ej⟩ := List.mem_map.mp (hp.mem_iff.mp ht)
    rw [← ej] at et
    exact h (List.mem_map.mpr ⟨j, hj, et⟩)
  rw [decide_eq_false hf] at e
  cases q : valV (bg ts) (.inr x) with
  | none => rfl
  | some _ =>
    unfold bg at q
    rw [q] at e
    cases e
theorem Jobs.out {es : List Str} {js : List Job} {sp : List Str} {ts : List PyData} (J : Jobs es js sp) (hp : ts.Perm (js.map jobD)) : ∀ (suf pre : List Job), js = pre ++ suf → ∀ x, x ∉ pre.map (·.2.1) → Out (bg ts) x
  | [], pre, e, x, hx => .stop (bg_none hp (by rw [e, List.append_nil]; exact hx))
  | j :: suf, pre, e, x, hx => by
    have e2 : js = (pre ++ [j]) ++ suf := by rw [List.append_assoc]; exact e
    by_cases hxj : x = j.2.1
    · subst hxj
      cases hv : valV (bg ts) (.inr j.2.1) with
      | none => exact .stop hv
      | some v =>
        obtain ⟨_, y, _, rfl⟩ := putAll_strD ts.length _ _ (valV_mem hv)
        obtain ⟨j2, hj2, h1, h2⟩ := bg_val hp hv
        have hj : j ∈ js := by rw [e]; simp
        have hsame : j2 = j := by
          have inj : ∀ (l : List Job), (l.map (·.2.1)).Nodup → ∀ a ∈ l, ∀ b ∈ l, a.2.1 = b.2.1 → a = b := by
            intro l
            induction l with
            | nil => exact fun _ a ha => by cases ha
            | cons c r ih =>
              intro hN a ha b hb hab
              rw [List.map_cons, List.nodup_cons] at hN
              cases ha with
              | head => cases hb with
                | head => rfl
                | tail _ hb => exact absurd (List.mem_map.mpr ⟨b, hb, hab.symm⟩) hN.1
              | tail _ ha => cases hb with
                | head => exact absurd (List.mem_map.mpr ⟨a, ha, hab⟩) hN.1
                | tail _ hb => exact ih hN.2 a ha b hb hab
          exact inj js J.uniq j2 hj2 j hj h1
        subst hsame
        refine .step hv (Jobs.out J hp suf (pre ++ [j2]) e2 y ?_)
        rw [← h2, List.map_append, List.mem_append]
        rintro (h3 | h3)
        · obtain ⟨i, hi, ei⟩ := List.mem_map.mp h3
          have hb := J.back
          rw [e, List.pairwise_append] at hb
          exact hb.2.2 i hi j2 List.mem_cons_self ei.symm
        · have h4 : j2.1 = j2.2.1 := by simpa using h3
          exact J.own j2 hj h4
    · refine Jobs.out J hp suf (pre ++ [j]) e2 x ?_
      rw [List.map_append, List.mem_append]
      rintro (h3 | h3)
      · exact hx h3
      · exact hxj (by simpa using h3)
theorem Jobs.spans {es : List Str} {js : List Job} {sp : List Str} {ts : List PyData} (J : Jobs es js sp) (hp : ts.Perm (js.map jobD)) : ∀ t ∈ ts, spanOk t := fun t ht => by
  obtain ⟨j, hj, rfl⟩ := List.mem_map.mp (hp.mem_iff.mp ht)
  exact (J.ok j hj).2.2.2.2
theorem Jobs.tasks {es : List Str} {js : List Job} {sp : List Str} {ts : List PyData} (J : Jobs es js sp) (hp : ts.Perm (js.map jobD)) (hs : ts.Pairwise fun a b => PySem.W.dataLt b a = false) : areTasks es (.tuple ts) = true := by
  have hform : ∀ t ∈ ts, ∃ j ∈ js, t = jobD j := fun t ht => by
    obtain ⟨j, hj, ej⟩ := List.mem_map.mp (hp.mem_iff.mp ht)
    exact ⟨j, hj, ej.symm⟩
  have hN : (ts.map kE).Nodup := by
    have h1 : (ts.map kE).Perm (js.map (·.2.1)) := by
      have h2 := hp.map kE
      rw [List.map_map] at h2
      exact h2
    exact h1.nodup_iff.mpr J.uniq
  have a1 : ts.all (isTask es) = true := List.all_eq_true.mpr fun t ht => by
    obtain ⟨j, hj, rfl⟩ := hform t ht
    exact isTask_job (J.ok j hj)
  have a2 : ascD ts = true := by
    refine asc_of ts hs ?_
    have hN2 : ts.Pairwise fun a b => kE a ≠ kE b := by
      have := hN
      unfold List.Nodup at this
      rw [List.pairwise_map] at this
      exact this
    refine hN2.imp_of_mem fun {a b} ha hb hab hk => ?_
    obtain ⟨i, _, rfl⟩ := hform a ha
    obtain ⟨j, _, rfl⟩ := hform b hb
    exact hab (toks_job hk)
  have a3 : (bg ts).length = ts.length := by
    refine putAll_full ts.length fun i j hi hj hk => ?_
    have h1 : (ts.map kE)[i]? = some (kE (ts.getD i .none)) := by
      rw [List.getElem?_map]
      simp [List.getD, hi]
    have h2 : (ts.map kE)[j]? = some (kE (ts.getD j .none)) := by
      rw [List.getElem?_map]
      simp [List.getD, hj]
    rw [← Sum.inr.inj hk] at h2
    exact nd_ix hN h1 h2
  have a4 : Rooted (bg ts) := fun x => J.out hp js [] rfl x (by simp)
  show (ts.all (isTask es) && (ascD ts && (decide (((bg ts).length : Int) = (ts.length : Int)) && @decide (Rooted (bg ts)) (Classical.propDecidable _)))) = true
  rw [a1, a2, a3, decide_eq_true rfl, @decide_eq_true _ (Classical.propDecidable _) a4]
  rfl
end Vf
end
section
set_option Elab.async false
set_option linter.all false
set_option maxRecDepth 100000
set_option maxHeartbeats 8000000
namespace Vf
open PySem PySem.Spec PyProof.Rows L2 Evl
theorem hu100 {A : Around} {k : Nat} (hr : Room k A) : A.units + 100 < cLine := Nat.lt_of_le_of_lt (by omega) hr.un
theorem ite_t {c : Bool} {A B : Prop} (hc : c = true) (h : A) : if c = true then A else B := by rw [if_pos hc]; exact h
theorem ite_f {c : Bool} {A B : Prop} (hc : c = false) (h : B) : if c = true then A else B := by rw [hc, if_neg (by decide)]; exact h
theorem cr_sortedDK {X : Cx} {K : PySem.W.Frag} (h : X.K = K) (hu : X.A.units + 100 < cLine) : CallR X (.builtin "sorted") (rSortedD K) := h ▸ cr_sortedD hu
abbrev bb (H : Hp) (p l : Addr) : Hp := but (but H p) l
theorem bb_upd {H : Hp} {p l : Addr} {o : HO} (h : l ≠ p) : bb (upd H l o) p l = bb H p l := by
  funext b
  unfold bb but upd
  split
  · rfl
  · rename_i h1
    split
    · rfl
    · rfl
theorem bb_ex {H : Hp} {p l : Addr} : Ex (bb H p l) H := (but_ex _ l).trans (but_ex H p)
theorem bb_at {H : Hp} {p l a : Addr} {o : HO} (h : H a = some o) (h1 : a ≠ p) (h2 : a ≠ l) : bb H p l a = some o := (but_ne h2).trans ((but_ne h1).trans h)
theorem noLs_of : ∀ {ds : List PyData}, (∀ d ∈ ds, noL d = true) → noLs ds = true
  | [], _ => rfl
  | d :: r, h => by
    show (noL d && noLs r) = true
    rw [h d List.mem_cons_self, noLs_of fun a ha => h a (List.mem_cons_of_mem _ ha)]
    rfl
theorem dpa_job {K : PySem.W.Frag} {H : Hp} {t : Addr} {j : Job} (h : H t = some (.tup [.str j.1, .str j.2.1, .int j.2.2.1, .int j.2.2.2])) : Dp K H (.ref t) (jobD j) := .tup (st_of h) (.cons (.str _) (.cons (.str _) (.cons (.int _) (.cons (.int _) .nil))))
theorem alike_jobs {js : List Job} : PySem.W.AllAlike (js.map jobD) := fun a ha b hb => by
  obtain ⟨i, _, rfl⟩ := List.mem_map.mp ha
  obtain ⟨j, _, rfl⟩ := List.mem_map.mp hb
  simp [jobD, PySem.W.alike, PySem.W.alikeAll]
theorem sortable_jobs {js : List Job} : PySem.W.Sortable (js.map jobD) := .inl fun d hd => by
  obtain ⟨i, _, rfl⟩ := List.mem_map.mp hd
  exact ⟨_, _, rfl⟩
theorem depth_jobs {js : List Job} : ∀ d ∈ js.map jobD, d.depth ≤ 64 := fun d hd => by
  obtain ⟨i, _, rfl⟩ := List.mem_map.mp hd
  simp [jobD, PyData.depth, PyData.depthAll]
abbrev spJobs (K : PySem.W.Frag) : Sp := fun vs H Q _ => ∃ (p u : Addr) (es : List Str) (m n : Nat) (g : Int), vs = [.ref p, .ref u, .int (m : Int), .int g] ∧ SqT K (but H p) u (es.map V.str) ∧ es.Nodup ∧ es.length ≤ 900 ∧ m ≤ 10 ∧ 1 ≤ g ∧ g ≤ 900 ∧ SackAt H p n ∧ n + 100 < LIM ∧
  ∀ (a : Addr) (ts : List PyData) (H' : Hp), ts.length ≤ m → areTasks es (.tuple ts) = true → (∀ t ∈ ts, spanOk t) → Ex (but H p) (but H' p) → SackAt H' p (n + 7 * m) → Dp K (but H' p) (.ref a) (.tuple ts) → Q (.ref a) H'
theorem filter_strs (sp : List Str) (x : Str) : givenD sp.length (fun i => !decide (strOf ((sp.map PyData.str).getD i .none) = x)) (fun i => (sp.map PyData.str).getD i .none) = (sp.filter fun y => !decide (y = x)).map PyData.str := by
  have h := givenD_sel (sp.map PyData.str) (fun d => !decide (strOf d = x)) id
  rw [List.map_id, List.length_map] at h
  have h2 : (sp.map PyData.str).filter (fun d => !decide (strOf d = x)) = (sp.filter fun y => !decide (y = x)).map PyData.str := by
    rw [List.filter_map]
    rfl
  rw [h2] at h
  exact h
section
variable {P : Program} {w : World} {K : PySem.W.Frag} {mg : Str → Option Value} {base : Heap} {tg : Tok} {f : Addr} {fd : FuncData}
abbrev s_law_jobs : Stmt := topS 29
theorem sc_law_jobs : FnScope ["sack", "points", "many_here", "great", "found", "spare", "k", "stop", "name", "start", "low"] ["sack", "points", "many_here", "great"] (defScope s_law_jobs) := ⟨rfl, rfl, rfl, by decide +kernel, rfl, by decide +kernel, by decide +kernel⟩
theorem ok_law_jobs (F : Fun K "_law_jobs" "_law_jobs" s_law_jobs f fd) (T : Txt mg tg) (C_law_dip : Cal P w K mg base 1 "_law_dip" ["sack", "below"] spDip) : FnOk P w K mg base CX0 2 f fd ["sack", "points", "many_here", "great"] (spJobs K) := by
  refine F.ok sc_law_jobs (fun vs H Q E h => ?_) (fun cdv A outer s H0 vs Q E hr h => ?_)
  · obtain ⟨p, u, es, m, n, g, rfl, _⟩ := h
    rfl
  · obtain ⟨p, u, es, m, n, g, rfl, hu, hN, hz, hm, g1, g2, hsk, hn, q⟩ := h
    have hn' : n + 100 < 100000 := hn
    refine ⟨_, (pss_cons (ps_par (i := 4) (j := 5) rfl sc_law_jobs.nd rfl rfl (by decide) rfl rfl (pa_cons (pe_lst pa_nil) (pa_cons (pe_callTy call_list_of (by rfl) T.list (by decide +kernel) (pa_cons (pv 1) pa_nil)) pa_nil)) (by rfl)) (pss_cons (ps_for PassesOwn.never rfl (pi_range1 rfl T.range (pa_cons (pv 2) pa_nil)) (pg_name (i := 6) sc_law_jobs.nd rfl (Or.inl rfl)) (pss_one (ps_if (PW.pt (pw_and (pt_cmpR op_gt (pe_callB (call_len_seqK (K := K) rfl) (by rfl) T.len (by decide +kernel) (pa_cons (pv 5) pa_nil)) pe_int (nomark _)) (pw_and1 (pt_cmpR op_gt (pe_cal C_law_dip (by first | exact hr | exact hr.mono (by decide)) (by rfl) (pa_cons (pv 0) (pa_cons pe_int pa_nil))) pe_int (nomark _))))) (pss_cons (ps_set (i := 7) sc_law_jobs.nd rfl (Or.inr rfl) (pe_ix (ix_listK (K := K) rfl) (pv 5) (pe_cal C_law_dip (by first | exact hr | exact hr.mono (by decide)) (by rfl) (pa_cons (pv 0) (pa_cons (pe_callB (call_len_seqK (K := K) rfl) (by rfl) T.len (by decide +kernel) (pa_cons (pv 5) pa_nil)) pa_nil))) (fun _ _ => rfl))) (pss_cons (ps_setLc (i := 5) (own := [("name", 8)]) rfl sc_law_jobs.nd rfl rfl (sw_true rfl rfl rfl (by decide +kernel)) (pi_listK (K := K) rfl (pv 5)) (blkOk_by (own := [("name", 8)]) (N := ["sack", "points", "many_here", "great", "found", "spare", "k", "stop", "name", "start", "low"]) (sc := defScope s_law_jobs) (by decide +kernel)) (fun _ _ _ _ _ => (pg_name (i := 8) sc_law_jobs.nd rfl (Or.inl rfl))) (fun _ _ _ _ _ => (pts_one (pt_cmpR op_ne (pv 8) (pv 7) (nomark _)))) (fun _ _ _ _ _ => (pv 8))) (pss_cons (ps_set (i := 9) sc_law_jobs.nd rfl (Or.inl rfl) (pe_ix (ix_listK (K := K) rfl) (pv 5) (pe_cal C_law_dip (by first | exact hr | exact hr.mono (by decide)) (by rfl) (pa_cons (pv 0) (pa_cons (pe_callB (call_len_seqK (K := K) rfl) (by rfl) T.len (by decide +kernel) (pa_cons (pv 5) pa_nil)) pa_nil))) (fun _ _ => rfl))) (pss_cons (ps_set (i := 10) sc_law_jobs.nd rfl (Or.inl rfl) (pe_op op_add pe_int (pe_cal C_law_dip (by first | exact hr | exact hr.mono (by decide)) (by rfl) (pa_cons (pv 0) (pa_cons (pv 3) pa_nil))))) (pss_one (ps_expr (pe_bm PySem.F.plainAttrs_list PySem.F.slot_list_append PySem.F.type_list_append mt_append (pv 4) (pa_cons (pe_tup (pa_cons (pv 9) (pa_cons (pv 7) (pa_cons (pv 10) (pa_cons (pe_op op_add (pv 10) (pe_ix (ix_listK (K := K) rfl) (pe_lst (pa_cons pe_int (pa_cons (pe_cal C_law_dip (by first | exact hr | exact hr.mono (by decide)) (by rfl) (pa_cons (pv 0) (pa_cons pe_int pa_nil))) (pa_cons (pe_cal C_law_dip (by first | exact hr | exact hr.mono (by decide)) (by rfl) (pa_cons (pv 0) (pa_cons (pv 3) pa_nil))) pa_nil)))) (pe_cal C_law_dip (by first | exact hr | exact hr.mono (by decide)) (by rfl) (pa_cons (pv 0) (pa_cons pe_int pa_nil))) (fun _ _ => rfl))) pa_nil))))) pa_nil)))))))) pss_nil))) (pss_one (ps_ret (pe_callTy call_tuple_of (by rfl) T.tuple (by decide +kernel) (pa_cons (pe_callB (cr_sortedDK (K := K) rfl (hu100 hr)) (by rfl) T.sorted (by decide +kernel) (pa_cons (pv 4) pa_nil)) pa_nil)))))), ?_⟩
    have R0 : Run p n (but H0 p) H0 := ⟨Ex.refl _, hsk⟩
    -- found, spare = [], list(points)
    refine ⟨Nat.zero_le _, fun lf hlf => ?_⟩
    obtain ⟨hBf, hfp⟩ := R0.fresh hlf
    have R1 := R0.upd (o := .lst []) hBf hfp
    refine ⟨.ref u, rfl, u, _, rfl, .inr (ex_t R1.base hu), fun ls hls => ?_⟩
    have hsf : ls ≠ lf := fun e => by subst e; rw [upd_same] at hls; cases hls
    have hls0 : H0 ls = none := by rw [upd_ne hsf] at hls; exact hls
    obtain ⟨hBs, hsp⟩ := R0.fresh hls0
    refine ⟨_, _, rfl, ?_⟩
    refine q_forR1 (n := (m : Int)) (ea_cons (ev_var rfl) ea_nil) (by omega) (fun i σ' H' => ∃ ls x6 x7 x8 x9 x10 js sp fs, σ' = [some (.ref p), some (.ref u), some (.int (m : Int)), some (.int g), some (.ref lf), some (.ref ls), x6, x7, x8, x9, x10] ∧
        Run p (n + 7 * i) (but H0 p) H' ∧ H' lf = some (.lst fs) ∧ DpAll K (bb H' p lf) fs (js.map jobD) ∧ H' ls = some (.lst (sp.map V.str)) ∧ ls ≠ lf ∧ ls ≠ p ∧ sp.length ≤ 900 ∧ sp.Nodup ∧ Jobs es js sp ∧ js.length ≤ i)
      (fun H3 e3 => ⟨ls, none, none, none, none, none, [], es, [], rfl, (R1.upd hBs hsp).on e3, e3 _ _ (by rw [upd_ne hsf.symm, upd_same]), .nil, e3 _ _ upd_same, hsf, hsp, hz, hN, Jobs.nil es, Nat.le_refl _⟩) ?_ ?_
    · rintro i σ' H3 hi ⟨ls, x6, x7, x8, x9, x10, js, sp, fs, rfl, R, hF, hFd, hS, hsf, hsp, hspz, hspN, J, hjl⟩
      have keep : ∀ (H4 : Hp) (N : Nat), N ≤ n + 7 * (i + 1) → Run p N (but H0 p) H4 → Ex (but H3 p) (but H4 p) → ∃ ls' x6' x7' x8' x9' x10' js' sp' fs', ([some (.ref p), some (.ref u), some (.int (m : Int)), some (.int g), some (.ref lf), some (.ref ls), some (.int (i : Int)), x7, x8, x9, x10] : L2.St) = [some (.ref p), some (.ref u), some (.int (m : Int)), some (.int g), some (.ref lf), some (.ref ls'), x6', x7', x8', x9', x10'] ∧
          Run p (n + 7 * (i + 1)) (but H0 p) H4 ∧ H4 lf = some (.lst fs') ∧ DpAll K (bb H4 p lf) fs' (js'.map jobD) ∧ H4 ls' = some (.lst (sp'.map V.str)) ∧ ls' ≠ lf ∧ ls' ≠ p ∧ sp'.length ≤ 900 ∧ sp'.Nodup ∧ Jobs es js' sp' ∧ js'.length ≤ i + 1 := fun H4 N hN R4 e4 =>
        ⟨ls, _, _, _, _, _, js, sp, fs, rfl, R4.mono hN, kept e4 hF hfp, dpa_ex (but_mono e4) hFd, kept e4 hS hsp, hsf, hsp, hspz, hspN, J, by omega⟩
      refine ev_lenL (K := K) (ed_of (ev_var rfl) (Dp.lst (sq_of hS) (dpa_strs sp))) H3 (Ex.refl _) _ fun H4 e4 => ?_
      refine ⟨_, _, rfl, rfl, _, rfl, ?_⟩
      by_cases hlen : (1 : Int) < ((sp.map PyData.str).length : Int)
      · refine ite_t (decide_eq_true hlen) ?_
        rw [List.length_map] at hlen
        refine st_dip (B := but H0 p) (b := 4) rfl ev_c (by decide) (by decide) (R.on e4) (by unfold LIM; omega) fun r1 H5 a0 a1 R5 e5 => ?_
        have f5 : Ex (but H3 p) (but H5 p) := (but_mono e4).trans e5
        refine ⟨_, _, rfl, rfl, _, rfl, ?_⟩
        by_cases hr1 : (0 : Int) < r1
        · refine ite_t (decide_eq_true hr1) ?_
          -- stop = ..
          have hS5 := kept f5 hS hsp
          refine q_any ⟨.ref ls, rfl, st_dip (B := but H0 p) (b := (sp.length : Int)) rfl (ev_is (ev_lenL (K := K) (ed_of (ev_var rfl) (Dp.lst (sq_of hS5) (dpa_strs sp)))) (by rw [List.length_map])) (by omega) (by omega) R5 (by unfold LIM; omega) fun r2 H6 b0 b1 R6 e6 => ?_⟩
          have f6 := f5.trans e6
          have hS6 := kept f6 hS hsp
          have hr2 : r2.toNat < sp.length := by omega
          refine ⟨ls, _, r2, .str sp[r2.toNat], rfl, rfl, sq_of hS6, at_of (j := r2.toNat) (by omega) (by rw [List.getElem?_map, List.getElem?_eq_getElem hr2]; rfl), ?_⟩
          have hmem : sp[r2.toNat] ∈ sp := List.getElem_mem hr2
          generalize sp[r2.toNat] = e at hmem ⊢
          -- spare = [name for name in spare if name != stop]
          refine q_asgN (K := K) (ds := (sp.filter fun y => !decide (y = e)).map PyData.str) ?_ fun l2 xs2 H7 hl2 e7 h7 d7 => ?_
          · rw [← filter_strs]
            have hlm : (sp.map PyData.str).length = sp.length := List.length_map ..
            rw [← hlm]
            refine en_lcL _ _ (ed_of (ev_var rfl) (Dp.lst (sq_of hS6) (dpa_strs sp))) (by omega) (fun t ht => ?_) fun t x d H7 e7 ht hx => ?_
            · by_cases hlt : t < sp.length
              · simp [List.getD, hlt, noL]
              · simp [List.getD, hlt, noL]
            · rw [List.getElem?_map] at ht
              obtain ⟨y, hy, rfl⟩ := Option.map_eq_some_iff.mp ht
              cases hx
              have hg : (sp.map PyData.str).getD t .none = .str y := getD_of (by rw [List.getElem?_map, hy]; rfl)
              refine ⟨_, ?_, goes_name, ?_, fun _ => ?_⟩
              · rfl
              · rw [hg]
                exact et_test (ev_opD (K := K) (ed_of (ev_var rfl) (.str y)) (ed_of (ev_var rfl) (.str e)) rd_neS)
              · rw [hg]
                exact ed_of (ev_var rfl) (.str y)
          · cases dpa_strs_inv d7
            have R7 := R6.on e7
            have f7 : Ex (but H3 p) (but H7 p) := f6.trans (but_mono e7)
            obtain ⟨_, hl2p⟩ := R6.fresh hl2
            have hl2f : l2 ≠ lf := (ne_of_none (kept f6 hF hfp) hl2).symm
            have hne : ∃ y ∈ sp, y ≠ e := by
              match sp, hspN, hlen with
              | a :: b :: r, hN2, _ =>
                by_cases hae : a = e
                · refine ⟨b, by simp, fun z => ?_⟩
                  rw [List.nodup_cons] at hN2
                  exact hN2.1 (by rw [hae, ← z]; simp)
                · exact ⟨a, by simp, hae⟩
            have hl3 : 1 ≤ (sp.filter fun y => !decide (y = e)).length := by
              obtain ⟨y, hy, hye⟩ := hne
              exact List.length_pos_of_mem (List.mem_filter.mpr ⟨hy, by simp [hye]⟩)
            have hl4 : (sp.filter fun y => !decide (y = e)).length ≤ sp.length := List.length_filter_le ..
            have hJ : ∀ b ∈ sp.filter fun y => !decide (y = e), ∀ l g2, 1 ≤ l → l ≤ g2 → g2 - l ≤ 900 → Jobs es (js ++ [(b, e, l, g2)]) (sp.filter fun y => !decide (y = e)) := fun b hb l g2 h1 h2 h3 => J.snoc hmem hb h1 h2 h3
            have hN3 : (sp.filter fun y => !decide (y = e)).Nodup := hspN.filter _
            generalize (sp.filter fun y => !decide (y = e)) = sp2 at h7 hl3 hl4 hJ hN3 d7 ⊢
            -- start = ..
            refine q_any ⟨.ref l2, rfl, st_dip (B := but H0 p) (b := (sp2.length : Int)) rfl (ev_is (ev_lenL (K := K) (ed_of (ev_var rfl) (Dp.lst (sq_of h7) (dpa_strs sp2)))) (by rw [List.length_map])) (by omega) (by omega) R7 (by unfold LIM; omega) fun r3 H8 c0 c1 R8 e8 => ?_⟩
            have f8 := f7.trans e8
            have hr3 : r3.toNat < sp2.length := by omega
            have hS8 := kept e8 h7 hl2p
            refine ⟨l2, _, r3, .str sp2[r3.toNat], rfl, rfl, sq_of hS8, at_of (j := r3.toNat) (by omega) (by rw [List.getElem?_map, List.getElem?_eq_getElem hr3]; rfl), ?_⟩
            have hbm : sp2[r3.toNat] ∈ sp2 := List.getElem_mem hr3
            generalize sp2[r3.toNat] = b at hbm ⊢
            -- low = 1 + ..
            refine q_any (st_dip (B := but H0 p) (b := g) rfl (ev_var rfl) (by omega) (by omega) R8 (by unfold LIM; omega) fun r4 H9 d0 d1 R9 e9 => ?_)
            have f9 := f8.trans e9
            refine ⟨_, _, rfl, rfl, ?_⟩
            -- found.append(..)
            have hF9 := kept f9 hF hfp
            refine ⟨.ref lf, rfl, Or.inl ⟨rfl, fs, sq_of hF9⟩, .str b, rfl, .str e, rfl, .int (1 + r4), rfl, .int (1 + r4), rfl, ?_⟩
            refine st_dip (B := but H0 p) (b := 3) rfl ev_c (by decide) (by decide) R9 (by unfold LIM; omega) fun r5 H10 g0 g1' R10 e10 => ?_
            refine st_dip (B := but H0 p) (b := g) rfl (ev_var rfl) (by omega) (by omega) R10 (by unfold LIM; omega) fun r6 H11 i0 i1 R11 e11 => ?_
            refine ⟨by show 3 ≤ sizeLine; decide, fun v hv => ?_⟩
            obtain ⟨hBv, hvp⟩ := R11.fresh hv
            refine st_dip (B := but H0 p) (b := 3) rfl ev_c (by decide) (by decide) (R11.upd hBv hvp) (by unfold LIM; omega) fun r7 H12 j0 j1 R12 e12 => ?_
            have hv12 : H12 v = some (.lst [.int 0, .int r5, .int r6]) := kept e12 upd_same hvp
            obtain ⟨x, hx0, hx9, hx⟩ : ∃ x : Int, 0 ≤ x ∧ x ≤ 900 ∧ atI [V.int 0, .int r5, .int r6] r7 = some (.int x) := by
              have h4 : r7 = 0 ∨ r7 = 1 ∨ r7 = 2 := by omega
              rcases h4 with rfl | rfl | rfl
              · exact ⟨0, by omega, by omega, rfl⟩
              · exact ⟨r5, g0, by omega, rfl⟩
              · exact ⟨r6, i0, by omega, rfl⟩
            refine ⟨v, _, r7, _, rfl, rfl, sq_of hv12, hx, _, _, rfl, rfl, by show 4 ≤ sizeLine; decide, fun t ht => ?_⟩
            have f12 : Ex (but H3 p) (but H12 p) := (f9.trans (e10.trans e11)).trans ((but_mono (Ex.new hv)).trans e12)
            obtain ⟨hBt, htp⟩ := R12.fresh ht
            have hF12 := kept f12 hF hfp
            have htf : t ≠ lf := (ne_of_none hF12 ht).symm
            have hfl := dpa_len hFd
            rw [List.length_map] at hfl
            refine ⟨lf, fs, .ref t, rfl, rfl, by rw [upd_ne htf.symm]; exact hF12, sz_lt (by omega), ?_⟩
            have hbt : (upd (upd H12 t (.tup [.str b, .str e, .int (1 + r4), .int (1 + r4 + x)])) lf (.lst (fs ++ [.ref t]))) t = some (.tup [.str b, .str e, .int (1 + r4), .int (1 + r4 + x)]) := by rw [upd_ne htf, upd_same]
            refine ⟨l2, _, _, _, _, _, js ++ [(b, e, 1 + r4, 1 + r4 + x)], sp2, fs ++ [.ref t], rfl, ?_, upd_same, ?_, ?_, hl2f, hl2p, by omega, hN3, hJ b hbm _ _ (by omega) (by omega) (by omega), ?_⟩
            · exact ((R12.upd hBt htp).upd hBf hfp).mono (by omega)
            · rw [List.map_append]
              refine dpa_snoc (dpa_ex ?_ hFd) (dpa_job (j := (b, e, 1 + r4, 1 + r4 + x)) (bb_at hbt htp htf))
              rw [bb_upd hfp]
              exact but_mono (f12.trans (but_mono (Ex.new ht)))
            · rw [upd_ne hl2f]
              have h13 : H12 l2 = some (.lst (sp2.map V.str)) := kept ((e8.trans e9).trans ((e10.trans e11).trans ((but_mono (Ex.new hv)).trans e12))) h7 hl2p
              exact Ex.new ht _ _ h13
            · rw [List.length_append]
              show js.length + 1 ≤ i + 1
              omega
        · refine ite_f (decide_eq_false hr1) ?_
          exact keep H5 _ (by omega) R5 f5
      · refine ite_f (decide_eq_false hlen) ?_
        exact iteF (keep H4 _ (by omega) (R.on e4) (but_mono e4))
    · rintro σ' H3 ⟨ls, x6, x7, x8, x9, x10, js, sp, fs, rfl, R, hF, hFd, hS, hsf, hsp, hspz, hspN, J, hjl⟩
      have hjl' : js.length ≤ m := by omega
      refine ⟨.ref lf, rfl, lf, fs, _, rfl, sq_of hF, dpa_ex bb_ex hFd, alike_jobs, sortable_jobs, depth_jobs, by rw [List.length_map]; omega, fun a qs hp0 hs hd ha => ?_⟩
      have hp : (qs.map (·.2)).Perm (js.map jobD) := by
        have h := hp0.map (fun b : V × PyData => b.2)
        rw [zip_snd (dpa_len hFd)] at h
        exact h
      generalize qs.map (·.2) = ts at hp hs hd ⊢
      generalize qs.map (·.1) = ys at hd ⊢
      refine ⟨a, ys, rfl, .inl ⟨sq_of upd_same, fun b hb => ?_⟩⟩
      obtain ⟨hBa, hap⟩ := R.fresh ha
      have R4 := R.upd (o := .lst ys) hBa hap
      obtain ⟨hBb, hbp⟩ := R4.fresh hb
      have R5 := R4.upd (o := .tup ys) hBb hbp
      have hnl : noLs ts = true := noLs_of fun d hd => by
        obtain ⟨j, _, rfl⟩ := List.mem_map.mp (hp.mem_iff.mp hd)
        rfl
      obtain ⟨x, y, z, hpp, _⟩ := R.sk
      have hd2 : DpAll K (but H3 p) ys ts := dpa_but hnl hd hpp
      have e5 : Ex (but H3 p) (but (upd (upd H3 a (.lst ys)) b (.tup ys)) p) := (but_mono (Ex.new ha)).trans (but_mono (Ex.new hb))
      refine q b ts _ ?_ (J.tasks hp hs) (J.spans hp) R5.ex (R5.sk.mono ?_) (.tup (st_of (by rw [but_ne hbp, upd_same])) (dpa_ex e5 hd2))
      · have := hp.length_eq
        rw [List.length_map] at this
        omega
      · omega
end
end Vf
end
section
set_option Elab.async false
set_option linter.all false
set_option maxRecDepth 100000
set_option maxHeartbeats 8000000
namespace Vf
open PySem PySem.Spec PyProof.Rows L2 Evl
/-! ### bounds that are drawn -/
abbrev GO1 : List Str := ["go"]
theorem upd_old {H : Hp} {a b : Addr} {o u : HO} (h : H a = some o) (hb : H b = none) : upd H b u a = some o := (upd_ne (ne_of_none h hb)).trans h
def keyP (x y : Str) : List Key := [.inr x, .inr y]
structure Lims (es : List Str) (kvs : List (List Key × V)) : Prop where
  form : ∀ k v, (k, v) ∈ kvs → ∃ x y i, k = keyP x y ∧ v = .int i ∧ isPlace es (.str x) = true ∧ isPlace es (.str y) = true ∧ x ≠ y
  uniq : (kvs.map (·.1)).Nodup
theorem putT_keys {kvs : List (List Key × V)} {k : List Key} {v : V} (h : (kvs.map (·.1)).Nodup) : ((putK kvs k v).map (·.1)).Nodup := by
  unfold putK
  split
  · rw [List.map_map]
    have e : kvs.map ((fun x => x.1) ∘ fun kv : List Key × V => if kv.1 = k then (kv.1, v) else kv) = kvs.map (·.1) := by
      refine List.map_congr_left fun p _ => ?_
      show (if p.1 = k then (p.1, v) else p).1 = p.1
      split <;> rfl
    rw [e]
    exact h
  · rename_i hn
    rw [List.map_append, List.map_cons, List.map_nil, List.nodup_append]
    refine ⟨h, by simp, fun a ha b hb => ?_⟩
    have hbk : b = k := by simpa using hb
    subst hbk
    intro hab
    subst hab
    obtain ⟨p, hp, e⟩ := List.mem_map.mp ha
    exact hn (List.any_eq_true.mpr ⟨p, hp, decide_eq_true e⟩)
theorem putT_mem {kvs : List (List Key × V)} {k k' : List Key} {v v' : V} (h : (k', v') ∈ putK kvs k v) : (k', v') ∈ kvs ∨ (k' = k ∧ v' = v) := by
  unfold putK at h
  split at h
  · obtain ⟨p, hp, e⟩ := List.mem_map.mp h
    split at e
    · rename_i hk
      cases e
      exact .inr ⟨hk, rfl⟩
    · subst e
      exact .inl hp
  · rcases List.mem_append.mp h with h | h
    · exact .inl h
    · cases List.mem_singleton.mp h
      exact .inr ⟨rfl, rfl⟩
theorem Lims.nil (es : List Str) : Lims es [] := ⟨fun k v h => (by cases h), List.nodup_nil⟩
theorem Lims.put {es : List Str} {kvs : List (List Key × V)} (L : Lims es kvs) {x y : Str} {i : Int} (hx : isPlace es (.str x) = true) (hy : isPlace es (.str y) = true) (hn : x ≠ y) : Lims es (putK kvs (keyP x y) (.int i)) :=
  ⟨fun k v h => by
    rcases putT_mem h with h | ⟨h1, h2⟩
    · exact L.form k v h
    · exact ⟨x, y, i, h1, h2, hx, hy, hn⟩, putT_keys L.uniq⟩
theorem place_of {es : List Str} {x : Str} (h : x ∈ es ++ GO1) : isPlace es (.str x) = true := by
  show (decide (x = "go") || decide (x ∈ es)) = true
  rcases List.mem_append.mp h with h | h
  · rw [decide_eq_true h, Bool.or_true]
  · rw [decide_eq_true (List.mem_singleton.mp h), Bool.true_or]
def firstS : List Key → Str | .inr x :: _ => x | _ => ""
def secS : List Key → Str | _ :: .inr y :: _ => y | _ => ""
def pairD (k : List Key) : PyData := .tuple [.str (firstS k), .str (secS k)]
def valI : V → Int | .int i => i | _ => 0
def limD (kv : List Key × V) : PyData := .tuple [.str (firstS kv.1), .str (secS kv.1), .int (valI kv.2)]
theorem toks_pair {a b : List Key} (h : PySem.W.keyToks (pairD a) = PySem.W.keyToks (pairD b)) : firstS a = firstS b ∧ secS a = secS b := by
  simp [pairD, PySem.W.keyToks, PySem.W.keyToksAll] at h
  exact ⟨cp_inj (congrArg Array.toList h.1), cp_inj (congrArg Array.toList h.2)⟩
theorem Lims.bounds {es : List Str} {kvs ks : List (List Key × V)} (L : Lims es kvs) (hp : ks.Perm kvs) (hs : (ks.map fun kv => pairD kv.1).Pairwise fun a b => PySem.W.dataLt b a = false) : areBounds es (.tuple (ks.map limD)) = true := by
  have a1 : (ks.map limD).all (isBound es) = true := List.all_eq_true.mpr fun d hd => by
    obtain ⟨⟨k, v⟩, hkv, rfl⟩ := List.mem_map.mp hd
    obtain ⟨x, y, i, rfl, rfl, hx, hy, hn⟩ := L.form k v (hp.mem_iff.mp hkv)
    show (isPlace es (.str x) && (isPlace es (.str y) && (!decide (x = y) && true))) = true
    rw [hx, hy, decide_eq_false hn]
    rfl
  have e2 : (ks.map limD).map cut2 = ks.map fun kv => pairD kv.1 := by
    rw [List.map_map]
    rfl
  have a2 : ascD ((ks.map limD).map cut2) = true := by
    rw [e2]
    refine asc_of _ hs ?_
    rw [List.pairwise_map]
    have hN : (ks.map (·.1)).Nodup := ((hp.map (·.1)).nodup_iff).mpr L.uniq
    have hN2 : ks.Pairwise fun a b => a.1 ≠ b.1 := by
      unfold List.Nodup at hN
      rw [List.pairwise_map] at hN
      exact hN
    refine hN2.imp_of_mem fun {a b} ha hb hab hk => ?_
    obtain ⟨x, y, _, ea, _⟩ := L.form a.1 a.2 (hp.mem_iff.mp ha)
    obtain ⟨x', y', _, eb, _⟩ := L.form b.1 b.2 (hp.mem_iff.mp hb)
    rw [ea, eb] at hk
    obtain ⟨h1, h2⟩ := toks_pair hk
    have h1' : x = x' := h1
    have h2' : y = y' := h2
    subst h1' h2'
    exact hab (ea.trans eb.symm)
  show ((ks.map limD).all (isBound es) && ascD ((ks.map limD).map cut2)) = true
  rw [a1, a2]
  rfl
abbrev spLimits (K : PySem.W.Frag) : Sp := fun vs H Q _ => ∃ (p u : Addr) (es : List Str) (m n : Nat) (g : Int), vs = [.ref p, .ref u, .int (m : Int), .int g] ∧ SqT K (but H p) u (es.map V.str) ∧ es.length ≤ 900 ∧ m ≤ 30 ∧ 0 ≤ g ∧ g ≤ 900 ∧ SackAt H p n ∧ n + 200 < LIM ∧
  ∀ (a : Addr) (bs : List PyData) (H' : Hp), bs.length ≤ m → areBounds es (.tuple bs) = true → Ex (but H p) (but H' p) → SackAt H' p (n + 5 * m) → Dp K (but H' p) (.ref a) (.tuple bs) → Q (.ref a) H'
/-- what the sorted keys are, with their values -/
theorem keys_back {K : PySem.W.Frag} {H : Hp} {kvs : List (List Key × V)} {bs : List Addr} (hk : IsKeys H kvs bs) {qs : List (V × PyData)} (hp : qs.Perm ((bs.map V.ref).zip (kvs.map fun kv => pairD kv.1))) :
    ∃ rs : List (Addr × (List Key × V)), qs = rs.map (fun r => (V.ref r.1, pairD r.2.1)) ∧ (rs.map (·.2)).Perm kvs ∧ ∀ r ∈ rs, H r.1 = some (.tup (r.2.1.map kV)) := by
  have e1 : ∀ {kvs : List (List Key × V)} {bs : List Addr}, IsKeys H kvs bs → (bs.map V.ref).zip (kvs.map fun kv => pairD kv.1) = (bs.zip kvs).map (fun r => (V.ref r.1, pairD r.2.1)) ∧ (bs.zip kvs).map (·.2) = kvs ∧ ∀ r ∈ bs.zip kvs, H r.1 = some (.tup (r.2.1.map kV)) := by
    intro kvs bs h
    unfold IsKeys at h
    induction h with
    | nil => exact ⟨rfl, rfl, fun r hr => by cases hr⟩
    | @cons a b l m hab _ ih =>
      obtain ⟨i1, i2, i3⟩ := ih
      refine ⟨?_, ?_, fun r hr => ?_⟩
      · rw [List.map_cons, List.map_cons, List.zip_cons_cons, i1]
        rfl
      · rw [List.zip_cons_cons, List.map_cons, i2]
      · rw [List.zip_cons_cons] at hr
        cases hr with
        | head => exact hab
        | tail _ hr => exact i3 r hr
  obtain ⟨g1, g2, g3⟩ := e1 hk
  rw [g1] at hp
  have lift : ∀ {α β : Type} (f : α → β) {l : List β} {m : List α}, l.Perm (m.map f) → ∃ r : List α, l = r.map f ∧ r.Perm m := by
    intro α β f l m h
    generalize e : m.map f = t at h
    induction h generalizing m with
    | nil =>
      cases m with
      | nil => exact ⟨[], rfl, .nil⟩
      | cons _ _ => cases e
    | cons x _ ih =>
      cases m with
      | nil => cases e
      | cons a m =>
        rw [List.map_cons] at e
        injection e with e1 e2
        obtain ⟨r, hr, hp⟩ := ih e2
        exact ⟨a :: r, by rw [List.map_cons, ← hr, e1], .cons a hp⟩
    | swap x y l =>
      match m, e with
      | a :: b :: m, e =>
        rw [List.map_cons, List.map_cons] at e
        injection e with e1 e2
        injection e2 with e2 e3
        exact ⟨b :: a :: m, by rw [List.map_cons, List.map_cons, e1, e2, e3], .swap a b m⟩
    | trans _ _ ih1 ih2 =>
      obtain ⟨r, hr, hp⟩ := ih2 e
      obtain ⟨r2, hr2, hp2⟩ := ih1 hr.symm
      exact ⟨r2, hr2, hp2.trans hp⟩
  obtain ⟨rs, hrs, hpm⟩ := lift _ hp
  refine ⟨rs, hrs, ?_, fun r hr => g3 r (hpm.mem_iff.mp hr)⟩
  have h2 := hpm.map (·.2)
  rw [g2] at h2
  exact h2
theorem valT_of {kvs : List (List Key × V)} (hN : (kvs.map (·.1)).Nodup) {k : List Key} {v : V} (h : (k, v) ∈ kvs) : valV kvs k = some v := by
  cases e : valV kvs k with
  | none => have := valV_isSome h; rw [e] at this; cases this
  | some v' =>
    have h2 := valV_mem e
    have inj : ∀ l : List (List Key × V), (l.map (·.1)).Nodup → (k, v) ∈ l → (k, v') ∈ l → v' = v := by
      intro l
      induction l with
      | nil => exact fun _ h => by cases h
      | cons p r ih =>
        intro hN h1 h2
        rw [List.map_cons, List.nodup_cons] at hN
        cases h1 with
        | head => cases h2 with
          | head => rfl
          | tail _ h2 => exact absurd (List.mem_map.mpr ⟨_, h2, rfl⟩) hN.1
        | tail _ h1 => cases h2 with
          | head => exact absurd (List.mem_map.mpr ⟨_, h1, rfl⟩) hN.1
          | tail _ h2 => exact ih hN.2 h1 h2
    rw [inj kvs hN h h2]
section
variable {P : Program} {w : World} {K : PySem.W.Frag} {mg : Str → Option Value} {base : Heap} {tg : Tok} {f : Addr} {fd : FuncData}
abbrev s_law_limits : Stmt := topS 30
theorem sc_law_limits : FnScope ["sack", "points", "many_here", "great", "known", "spots", "k", "left", "right", "pair"] ["sack", "points", "many_here", "great"] (defScope s_law_limits) := ⟨rfl, rfl, rfl, by decide +kernel, rfl, by decide +kernel, by decide +kernel⟩
theorem ok_law_limits (F : Fun K "_law_limits" "_law_limits" s_law_limits f fd) (T : Txt mg tg) (C_law_dip : Cal P w K mg base 1 "_law_dip" ["sack", "below"] spDip) : FnOk P w K mg base CX0 2 f fd ["sack", "points", "many_here", "great"] (spLimits K) := by
  refine F.ok sc_law_limits (fun vs H Q E h => ?_) (fun cdv A outer s H0 vs Q E hr h => ?_)
  · obtain ⟨p, u, es, m, n, g, rfl, _⟩ := h
    rfl
  · obtain ⟨p, u, es, m, n, g, rfl, hu, hz, hm, g1, g2, hsk, hn, q⟩ := h
    have hn' : n + 200 < 100000 := hn
    refine ⟨_, (pss_cons (ps_asg (pe_tup (pa_cons pe_dnewT (pa_cons (pe_op op_cat (pe_callTy call_list_of (by rfl) T.list (by decide +kernel) (pa_cons (pv 1) pa_nil)) (pe_lst (pa_cons pe_str pa_nil))) pa_nil))) (pg_tupK (K := K) (n := 2) rfl rfl (pgs_cons (pg_name (i := 4) sc_law_limits.nd rfl (Or.inr rfl)) (pgs_cons (pg_name (i := 5) sc_law_limits.nd rfl (Or.inl rfl)) pgs_nil)))) (pss_cons (ps_for PassesOwn.never rfl (pi_range1 rfl T.range (pa_cons (pv 2) pa_nil)) (pg_name (i := 6) sc_law_limits.nd rfl (Or.inl rfl)) (pss_cons (ps_par (i := 7) (j := 8) rfl sc_law_limits.nd rfl rfl (by decide) rfl rfl (pa_cons (pe_ix (ix_listK (K := K) rfl) (pv 5) (pe_cal C_law_dip (by first | exact hr | exact hr.mono (by decide)) (by rfl) (pa_cons (pv 0) (pa_cons (pe_callB (call_len_seqK (K := K) rfl) (by rfl) T.len (by decide +kernel) (pa_cons (pv 5) pa_nil)) pa_nil))) (fun _ _ => rfl)) (pa_cons (pe_ix (ix_listK (K := K) rfl) (pv 5) (pe_cal C_law_dip (by first | exact hr | exact hr.mono (by decide)) (by rfl) (pa_cons (pv 0) (pa_cons (pe_callB (call_len_seqK (K := K) rfl) (by rfl) T.len (by decide +kernel) (pa_cons (pv 5) pa_nil)) pa_nil))) (fun _ _ => rfl)) pa_nil)) (by rfl)) (pss_one (ps_if (pt_cmpR op_ne (pv 7) (pv 8) (nomark _)) (pss_one (ps_dput (hu_of hr) (pv 4) (pe_tup (pa_cons (pv 7) (pa_cons (pv 8) pa_nil))) (pe_ix (ix_listK (K := K) rfl) (pe_lst (pa_cons pe_int (pa_cons pe_int (pa_cons (pe_cal C_law_dip (by first | exact hr | exact hr.mono (by decide)) (by rfl) (pa_cons (pv 0) (pa_cons (pe_op op_add (pv 3) pe_int) pa_nil))) (pa_cons (pe_op op_sub pe_int (pe_cal C_law_dip (by first | exact hr | exact hr.mono (by decide)) (by rfl) (pa_cons (pv 0) (pa_cons (pe_op op_add (pv 3) pe_int) pa_nil)))) pa_nil))))) (pe_cal C_law_dip (by first | exact hr | exact hr.mono (by decide)) (by rfl) (pa_cons (pv 0) (pa_cons pe_int pa_nil))) (fun _ _ => rfl)) rfl)) pss_nil)))) (pss_one (ps_ret (pe_callTy call_tuple_of (by rfl) T.tuple (by decide +kernel) (pa_cons (pe_lc (own := [("pair", 9)]) rfl sc_law_limits.nd (pi_listK (K := K) rfl (pe_callB (cr_sortedDK (K := K) rfl (hu100 hr)) (by rfl) T.sorted (by decide +kernel) (pa_cons (pe_callTy (call_list_dT rfl) (by rfl) T.list (by decide +kernel) (pa_cons (pv 4) pa_nil)) pa_nil))) (blkOk_by (own := [("pair", 9)]) (N := ["sack", "points", "many_here", "great", "known", "spots", "k", "left", "right", "pair"]) (sc := defScope s_law_limits) (by decide +kernel)) (fun _ _ _ _ _ => (pg_name (i := 9) sc_law_limits.nd rfl (Or.inl rfl))) (fun _ _ _ _ _ => pts_nil) (fun _ _ _ _ _ => (pe_tup (pa_cons (pe_ix (ix_tupK (K := K) rfl) (pv 9) pe_int (fun _ _ => rfl)) (pa_cons (pe_ix (ix_tupK (K := K) rfl) (pv 9) pe_int (fun _ _ => rfl)) (pa_cons (pe_dget (hu_of hr) (pv 4) (pv 9) (fun _ _ => rfl)) pa_nil)))))) pa_nil)))))), ?_⟩
    have R0 : Run p n (but H0 p) H0 := ⟨Ex.refl _, hsk⟩
    -- known, spots = {}, list(points) + ['go']
    intro kd hkd
    obtain ⟨hBk, hkp⟩ := R0.fresh hkd
    have R1 := R0.upd (o := .dT []) hBk hkp
    refine ⟨.ref u, rfl, u, _, rfl, .inr (ex_t R1.base hu), fun ls hls => ?_⟩
    obtain ⟨hBs, hsp⟩ := R1.fresh hls
    have R2 := R1.upd (o := .lst (es.map V.str)) hBs hsp
    refine ⟨by show 1 ≤ sizeLine; decide, fun lg hlg => ?_⟩
    obtain ⟨hBg, hgp⟩ := R2.fresh hlg
    have R3 := R2.upd (o := .lst [.str "go"]) hBg hgp
    have hsg : ls ≠ lg := fun e => by subst e; rw [upd_same] at hlg; cases hlg
    refine ⟨ls, lg, es.map V.str, [.str "go"], rfl, rfl, by rw [upd_ne hsg, upd_same], upd_same, sz_of (by rw [List.length_map]; show es.length + 1 ≤ 100000; omega), fun sp hspn => ?_⟩
    obtain ⟨hBp, hpp⟩ := R3.fresh hspn
    have R4 := R3.upd (o := .lst (es.map V.str ++ [.str "go"])) hBp hpp
    refine ⟨by show 2 ≤ sizeLine; decide, fun t ht => ?_⟩
    obtain ⟨hBt, htp⟩ := R4.fresh ht
    have R5 := R4.upd (o := .tup [.ref kd, .ref sp]) hBt htp
    refine ⟨t, _, rfl, st_of upd_same, rfl, _, _, rfl, _, _, rfl, rfl, ?_⟩
    have k1 : (upd H0 kd (.dT [])) kd = some (.dT []) := upd_same
    have k5 := upd_old (u := .tup [.ref kd, .ref sp]) (upd_old (u := .lst (es.map V.str ++ [.str "go"])) (upd_old (u := .lst [.str "go"]) (upd_old (u := .lst (es.map V.str)) k1 hls) hlg) hspn) ht
    have hspt : sp ≠ t := fun e => by subst e; rw [upd_same] at ht; cases ht
    have hspots : es.map V.str ++ [.str "go"] = (es ++ GO1).map V.str := by rw [List.map_append]; rfl
    refine q_forR1 (n := (m : Int)) (ea_cons (ev_var rfl) ea_nil) (by omega) (fun i σ' H' => ∃ x6 x7 x8 x9 kvs, σ' = [some (.ref p), some (.ref u), some (.int (m : Int)), some (.int g), some (.ref kd), some (.ref sp), x6, x7, x8, x9] ∧
        Run p (n + 5 * i) (but H0 p) H' ∧ H' kd = some (.dT kvs) ∧ H' sp = some (.lst ((es ++ GO1).map V.str)) ∧ Lims es kvs ∧ kvs.length ≤ i)
      (fun H3 e3 => ⟨none, none, none, none, [], rfl, R5.on e3, e3 _ _ k5, e3 _ _ (by rw [upd_ne hspt, upd_same, hspots]), Lims.nil es, Nat.le_refl _⟩) ?_ ?_
    · rintro i σ' H3 hi ⟨x6, x7, x8, x9, kvs, rfl, R, hk, hS, L, hkl⟩
      have hlS : ((es ++ GO1).length : Int) = (es.length : Int) + 1 := by simp
      -- left, right = ..
      refine ⟨.ref sp, rfl, st_dip (B := but H0 p) (b := ((es ++ GO1).length : Int)) rfl (ev_is (ev_lenL (K := K) (ed_of (ev_var rfl) (Dp.lst (sq_of hS) (dpa_strs _)))) (by rw [List.length_map])) (by omega) (by omega) R (by unfold LIM; omega) fun r1 H4 a0 a1 R4 e4 => ?_⟩
      have hS4 := kept e4 hS hpp
      have hr1 : r1.toNat < (es ++ GO1).length := by omega
      refine ⟨sp, _, r1, .str (es ++ GO1)[r1.toNat], rfl, rfl, sq_of hS4, at_of (j := r1.toNat) (by omega) (by rw [List.getElem?_map, List.getElem?_eq_getElem hr1]; rfl), ?_⟩
      have hx := place_of (List.getElem_mem hr1)
      generalize (es ++ GO1)[r1.toNat] = x at hx ⊢
      refine ⟨.ref sp, rfl, st_dip (B := but H0 p) (b := ((es ++ GO1).length : Int)) rfl (ev_is (ev_lenL (K := K) (ed_of (ev_var rfl) (Dp.lst (sq_of hS4) (dpa_strs _)))) (by rw [List.length_map])) (by omega) (by omega) R4 (by unfold LIM; omega) fun r2 H5 b0 b1 R5 e5 => ?_⟩
      have hS5 := kept e5 hS4 hpp
      have hr2 : r2.toNat < (es ++ GO1).length := by omega
      refine ⟨sp, _, r2, .str (es ++ GO1)[r2.toNat], rfl, rfl, sq_of hS5, at_of (j := r2.toNat) (by omega) (by rw [List.getElem?_map, List.getElem?_eq_getElem hr2]; rfl), ?_⟩
      have hy := place_of (List.getElem_mem hr2)
      generalize (es ++ GO1)[r2.toNat] = y at hy ⊢
      refine ⟨_, _, rfl, ?_⟩
      have f5 := e4.trans e5
      have hk5 := kept f5 hk hkp
      refine s_when (et_test (ev_opD (K := K) (ed_of (ev_var rfl) (.str x)) (ed_of (ev_var rfl) (.str y)) rd_neS)) (fun hb H6 e6 => ?_) fun hb H6 e6 => ⟨_, _, _, _, kvs, rfl, (R5.on e6).mono (by omega), e6 _ _ hk5, e6 _ _ hS5, L, by omega⟩
      have hxy : x ≠ y := by simpa using hb
      -- known[left, right] = [..][..]
      refine st_dip (B := but H0 p) (b := g + 1) rfl (ev_add (ev_var rfl) ev_c) (by omega) (by omega) (R5.on e6) (by unfold LIM; omega) fun r3 H7 c0 c1 R7 e7 => ?_
      refine st_dip (B := but H0 p) (b := g + 1) rfl (ev_add (ev_var rfl) ev_c) (by omega) (by omega) R7 (by unfold LIM; omega) fun r4 H8 d0 d1 R8 e8 => ?_
      refine ⟨_, _, rfl, rfl, by show 4 ≤ sizeLine; decide, fun v hv => ?_⟩
      obtain ⟨hBv, hvp⟩ := R8.fresh hv
      refine st_dip (B := but H0 p) (b := 4) rfl ev_c (by decide) (by decide) (R8.upd hBv hvp) (by unfold LIM; omega) fun r5 H9 g0 g1' R9 e9 => ?_
      have hv9 : H9 v = some (.lst [.int 0, .int 1, .int r3, .int (0 - r4)]) := kept e9 upd_same hvp
      obtain ⟨z, hzv⟩ : ∃ z : Int, atI [V.int 0, .int 1, .int r3, .int (0 - r4)] r5 = some (.int z) := by
        have h4 : r5 = 0 ∨ r5 = 1 ∨ r5 = 2 ∨ r5 = 3 := by omega
        rcases h4 with rfl | rfl | rfl | rfl
        · exact ⟨0, rfl⟩
        · exact ⟨1, rfl⟩
        · exact ⟨r3, rfl⟩
        · exact ⟨0 - r4, rfl⟩
      refine ⟨v, _, r5, _, rfl, rfl, sq_of hv9, hzv, .ref kd, rfl, .str x, rfl, .str y, rfl, by show 2 ≤ sizeLine; decide, fun b hb2 => ?_⟩
      have f9 : Ex (but H3 p) (but H9 p) := (f5.trans (but_mono e6)).trans ((e7.trans e8).trans ((but_mono (Ex.new hv)).trans e9))
      have hk9 := kept f9 hk hkp
      have hS9 := kept f9 hS hpp
      obtain ⟨hBb, hbp⟩ := R9.fresh hb2
      have hkb : kd ≠ b := ne_of_none hk9 hb2
      have hsb : sp ≠ b := ne_of_none hS9 hb2
      have hksp : sp ≠ kd := ne_of hS9 hk9 (by intro z; cases z)
      have hkl' : kvs.length < 100000 := by omega
      refine ⟨kd, _, rfl, .inr ⟨kvs, keyP x y, b, by rw [upd_ne hkb]; exact hk9, rfl, upd_same, sz_lt hkl', rfl⟩, ?_⟩
      refine ⟨_, _, _, _, putK kvs (keyP x y) (.int z), rfl, ?_, upd_same, ?_, L.put hx hy hxy, ?_⟩
      · exact ((R9.upd hBb hbp).upd hBk hkp).mono (by omega)
      · rw [upd_ne hksp, upd_ne hsb]
        exact hS9
      · have : (putK kvs (keyP x y) (.int z)).length ≤ kvs.length + 1 := by
          unfold putK
          split
          · rw [List.length_map]; omega
          · rw [List.length_append]; exact Nat.le_refl _
        omega
    · rintro σ' H3 ⟨x6, x7, x8, x9, kvs, rfl, R, hk, hS, L, hkl⟩
      have hkl' : kvs.length ≤ m := by omega
      refine ⟨.ref kd, rfl, kd, kvs, rfl, .inl hk, fun l1 bs hl1 hks => ?_⟩
      obtain ⟨hB1, h1p⟩ := R.fresh hl1
      have R1 := R.upd (o := .lst (bs.map V.ref)) hB1 h1p
      have hks' : IsKeys (upd H3 l1 (.lst (bs.map V.ref))) kvs bs := Paired.mapP hks fun a b h => by rw [upd_ne (ne_of_none h hl1)]; exact h
      have hdp : ∀ {kvs : List (List Key × V)} {bs : List Addr}, IsKeys (upd H3 l1 (.lst (bs.map V.ref))) kvs bs → True := fun _ => trivial
      have dpk : ∀ (H : Hp) (kvs : List (List Key × V)) (bs : List Addr), IsKeys H kvs bs → (∀ k v, (k, v) ∈ kvs → ∃ x y, k = keyP x y) → DpAll K H (bs.map V.ref) (kvs.map fun kv => pairD kv.1) := by
        intro H kvs bs h
        unfold IsKeys at h
        induction h with
        | nil => exact fun _ => .nil
        | @cons a b l m hab _ ih =>
          intro hf
          obtain ⟨x, y, e⟩ := hf a.1 a.2 List.mem_cons_self
          refine .cons ?_ (ih fun k v hkv => hf k v (List.mem_cons_of_mem _ hkv))
          show Dp K H (.ref b) (pairD a.1)
          rw [e] at hab ⊢
          exact .tup (st_of hab) (.cons (.str x) (.cons (.str y) .nil))
      have hform : ∀ k v, (k, v) ∈ kvs → ∃ x y, k = keyP x y := fun k v h => by
        obtain ⟨x, y, _, e, _⟩ := L.form k v h
        exact ⟨x, y, e⟩
      refine ⟨l1, bs.map V.ref, kvs.map fun kv => pairD kv.1, rfl, sq_of upd_same, dpk _ _ _ hks' hform, fun a ha b hb => ?_, .inl fun d hd => ?_, fun d hd => ?_, by rw [List.length_map]; omega, fun l2 qs hp hs hd hl2 => ?_⟩
      · obtain ⟨i, _, rfl⟩ := List.mem_map.mp ha
        obtain ⟨j, _, rfl⟩ := List.mem_map.mp hb
        simp [pairD, PySem.W.alike, PySem.W.alikeAll]
      · obtain ⟨i, _, rfl⟩ := List.mem_map.mp hd
        exact ⟨_, _, rfl⟩
      · obtain ⟨i, _, rfl⟩ := List.mem_map.mp hd
        simp [pairD, PyData.depth, PyData.depthAll]
      · obtain ⟨rs, rfl, hrp, hrt⟩ := keys_back (K := K) hks' hp
        obtain ⟨hB2, h2p⟩ := R1.fresh hl2
        have eqs : (rs.map fun r => (V.ref r.1, pairD r.2.1)).map (·.1) = rs.map fun r => V.ref r.1 := by rw [List.map_map]; rfl
        have eqd : (rs.map fun r => (V.ref r.1, pairD r.2.1)).map (·.2) = rs.map fun r => pairD r.2.1 := by rw [List.map_map]; rfl
        rw [eqs] at hd ⊢
        rw [eqd] at hd hs
        have R2 := R1.upd (o := .lst (rs.map fun r => V.ref r.1)) hB2 h2p
        have hk2 : (upd (upd H3 l1 (.lst (bs.map V.ref))) l2 (.lst (rs.map fun r => V.ref r.1))) kd = some (.dT kvs) := by
          have m1 : (upd H3 l1 (.lst (bs.map V.ref))) kd = some (.dT kvs) := by rw [upd_ne (ne_of_none hk hl1)]; exact hk
          rw [upd_ne (ne_of_none m1 hl2)]
          exact m1
        have hrt2 : ∀ r ∈ rs, (upd (upd H3 l1 (.lst (bs.map V.ref))) l2 (.lst (rs.map fun r => V.ref r.1))) r.1 = some (.tup (r.2.1.map kV)) := fun r hr => by
          rw [upd_ne (ne_of_none (hrt r hr) hl2)]
          exact hrt r hr
        have hl2s : (upd (upd H3 l1 (.lst (bs.map V.ref))) l2 (.lst (rs.map fun r => V.ref r.1))) l2 = some (.lst (rs.map fun r => V.ref r.1)) := upd_same
        have hrl : rs.length ≤ m := by
          have := hrp.length_eq
          rw [List.length_map] at this
          omega
        generalize (upd (upd H3 l1 (.lst (bs.map V.ref))) l2 (.lst (rs.map fun r => V.ref r.1))) = H4 at R2 hk2 hrt2 hl2s ⊢
        refine ⟨l2, rfl, ⟨_, sq_of hl2s⟩, fun Dl hD => ?_⟩
        have eg : ∀ i, i < rs.length → (givenD rs.length (fun _ => true) fun i => limD ((rs.map (·.2)).getD i ([], .non)))[i]? = some (limD ((rs.map (·.2)).getD i ([], .non))) := fun i hi => by
          unfold givenD
          rw [List.filter_eq_self.mpr (fun _ _ => rfl), List.getElem?_map, List.getElem?_range hi]
          rfl
        refine lc_list (K := K) (a := l2) (xs := rs.map fun r => V.ref r.1) (Cd K H4 (fun _ => true) (fun i => limD ((rs.map (·.2)).getD i ([], .non))) Dl) ⟨hD, Ex.new hD, [], upd_same, .nil⟩ (fun i H' _ p => sq_of (p.2.1 _ _ hl2s)) (fun i x H' hi p => ?_) (fun H' p => ?_)
        · rw [List.getElem?_map] at hi
          obtain ⟨r, hr, rfl⟩ := Option.map_eq_some_iff.mp hi
          have hrm := List.mem_of_getElem? hr
          have hil := (List.getElem?_eq_some_iff.mp hr).1
          have hkv : r.2 ∈ kvs := hrp.mem_iff.mp (List.mem_map.mpr ⟨r, hrm, rfl⟩)
          obtain ⟨x, y, z, ek, ev, hx, hy, hn⟩ := L.form r.2.1 r.2.2 hkv
          have hgd : (rs.map (·.2)).getD i ([], .non) = r.2 := by
            rw [List.getD_eq_getElem?_getD, List.getElem?_map, hr]
            rfl
          have hrt3 := hrt2 r hrm
          rw [ek] at hrt3
          refine ⟨rfl, cd_turn p (by omega) (fun H1 e Q q => q H1 (Ex.refl H1)) (fun _ => ?_) (fun _ => ?_)⟩
          · rw [hgd]
            have hl : limD r.2 = .tuple [.str x, .str y, .int z] := by
              show PyData.tuple [.str (firstS r.2.1), .str (secS r.2.1), .int (valI r.2.2)] = _
              rw [ek, ev]
              rfl
            rw [hl]
            have hdp2 : Dp K H4 (.ref r.1) (.tuple [.str x, .str y]) := .tup (st_of hrt3) (.cons (.str x) (.cons (.str y) .nil))
            refine ed_tup (eds_cons (ed_ixT 0 (ed_of (ev_var rfl) hdp2) ev_c rfl rfl) (eds_cons (ed_ixT 1 (ed_of (ev_var rfl) hdp2) ev_c rfl rfl) (eds_cons (ed_of (v := .int z) ?_ (.int z)) eds_nil))) (by show 3 ≤ 100000; decide)
            intro H5 e5 Q5 q5
            refine ⟨.ref kd, rfl, .ref r.1, rfl, kd, .int z, rfl, .inr ⟨kvs, keyP x y, r.1, .inl (e5 _ _ hk2), rfl, e5 _ _ hrt3, ?_⟩, q5 H5 (Ex.refl H5)⟩
            refine (valT_of L.uniq ?_).symm
            rw [← ek, ← ev]
            exact hkv
          · rw [hgd]
            rfl
        · obtain ⟨p1, p2, ys, p3, p4⟩ := p
          have R3 := R2.on p2
          refine ⟨Dl, ys, rfl, .inl ⟨sq_of p3, fun b hb => ?_⟩⟩
          obtain ⟨hBb, hbp⟩ := R3.fresh hb
          have R4 := R3.upd (o := .tup ys) hBb hbp
          have egv : givenD (rs.map fun r => V.ref r.1).length (fun _ => true) (fun i => limD ((rs.map (·.2)).getD i ([], .non))) = (rs.map (·.2)).map limD := by
            rw [List.length_map]
            unfold givenD
            rw [List.filter_eq_self.mpr (fun _ _ => rfl)]
            refine List.ext_getElem (by simp) fun i h1 h2 => ?_
            have h3 : i < rs.length := by simpa using h2
            simp [List.getD, h3]
          rw [egv] at p4
          have hnl : noLs ((rs.map (·.2)).map limD) = true := noLs_of fun d hd => by
            obtain ⟨kv, _, rfl⟩ := List.mem_map.mp hd
            rfl
          obtain ⟨x, y, z, hpp2, _⟩ := R3.sk
          have hd2 : DpAll K (but H' p) ys ((rs.map (·.2)).map limD) := dpa_but hnl (dpa_ex (but_ex _ _) p4) hpp2
          refine q b _ _ ?_ (L.bounds hrp ?_) R4.ex (R4.sk.mono (by omega)) (.tup (st_of (by rw [but_ne hbp, upd_same])) (dpa_ex (but_mono (Ex.new hb)) hd2))
          · rw [List.length_map, List.length_map]
            exact hrl
          · rw [List.map_map]
            exact hs
end
end Vf
end
section
set_option Elab.async false
set_option linter.all false
set_option maxRecDepth 100000
set_option maxHeartbeats 8000000
namespace Vf
open PySem PySem.Spec PyProof.Rows L2 Evl
/-! ### the plan that is drawn -/
theorem asc_all : ∀ (a : PyData) (r : List PyData), ascD (a :: r) = true → (∀ b ∈ r, PySem.W.dataLt a b = true) ∧ ascD r = true
  | _, [], _ => ⟨fun b h => (by cases h), rfl⟩
  | a, b :: r, h => by
    have h2 : (PySem.W.dataLt a b && ascD (b :: r)) = true := h
    rw [Bool.and_eq_true] at h2
    obtain ⟨i1, _⟩ := asc_all b r h2.2
    refine ⟨fun c hc => ?_, h2.2⟩
    cases hc with
    | head => exact h2.1
    | tail _ hc => exact (listOrd itemOrd).trans _ _ _ h2.1 (i1 c hc)
theorem asc_nodup : ∀ es : List Str, ascD (es.map .str) = true → es.Nodup
  | [], _ => List.nodup_nil
  | e :: r, h => by
    obtain ⟨h1, h2⟩ := asc_all _ _ h
    rw [List.nodup_cons]
    refine ⟨fun hm => ?_, asc_nodup r h2⟩
    have h3 := h1 (.str e) (List.mem_map.mpr ⟨e, hm, rfl⟩)
    have h4 : PySem.W.dataLt (.str e) (.str e) = false := (listOrd itemOrd).irrefl (PySem.W.keyToks (.str e))
    rw [h4] at h3
    cases h3
theorem evs_strs (es : List Str) : evs (.tuple (es.map .str)) = es := by
  show (es.map PyData.str).map strOf = es
  rw [List.map_map]
  have h : (strOf ∘ PyData.str) = id := rfl
  rw [h, List.map_id]
theorem isPlan_of {r : Int} {es : List Str} {bs ts : List PyData} (h0 : 0 ≤ r) (hn : ∀ e ∈ es, isName (.str e) = true) (ha : ascD (es.map .str) = true) (hb : areBounds es (.tuple bs) = true) (ht : areTasks es (.tuple ts) = true) : isPlan (.tuple [.int r, .tuple (es.map .str), .tuple bs, .tuple ts]) = true := by
  show (decide (0 ≤ r) && (((es.map PyData.str).all isName && ascD (es.map .str)) && (areBounds (evs (.tuple (es.map .str))) (.tuple bs) && areTasks (evs (.tuple (es.map .str))) (.tuple ts)))) = true
  have h1 : (es.map PyData.str).all isName = true := List.all_eq_true.mpr fun d hd => by
    obtain ⟨e, he, rfl⟩ := List.mem_map.mp hd
    exact hn e he
  rw [evs_strs, decide_eq_true h0, h1, ha, hb, ht]
  rfl
theorem plOk_of {r : Int} {es : List Str} {bs ts : List PyData} (hn : ∀ e ∈ es, isName (.str e) = true) (h1 : es.length ≤ 900) (h2 : bs.length ≤ 900) (h3 : ts.length ≤ 900) : plOk (.tuple [.int r, .tuple (es.map .str), .tuple bs, .tuple ts]) := by
  intro l e b t h
  cases h
  refine ⟨fun ds hds => ?_, fun ds hds => ?_, fun ds hds => ?_⟩
  · cases hds
    refine ⟨by rw [List.length_map]; omega, fun x hx => ?_⟩
    obtain ⟨e, he, rfl⟩ := List.mem_map.mp hx
    intro y hy
    cases hy
    have := (of_isName (hn e he)).2.2.2
    have e2 : (cp e).length = e.cps.size := by simp
    omega
  · cases hds; omega
  · cases hds; omega
/-- a plan as it is drawn: right, and not large -/
def Drawn (d : PyData) : Prop := ∃ n es bs ts, PlanIs d n es bs ts ∧ es.length ≤ 7 ∧ bs.length ≤ 30 ∧ ts.length ≤ 10 ∧ ∀ t ∈ ts, spanOk t
/-- a plan in the heap whose events stand in a tuple without a dict of its own -/
def PlanX (K : PySem.W.Frag) (H : Hp) (v : V) (d : PyData) : Prop := ∃ (a u : Addr) (n : Int) (es : List Str) (bs ts : List PyData) (v2 v3 : V) (o : Obj), v = .ref a ∧ d = .tuple [.int n, .tuple (es.map .str), .tuple bs, .tuple ts] ∧ SqT K H a [.int n, .ref u, v2, v3] ∧ H u = some (.frz o (.tup (es.map V.str))) ∧ o.dict = none ∧ Dp K H v2 (.tuple bs) ∧ Dp K H v3 (.tuple ts)
theorem planX_ex {K : PySem.W.Frag} {H H' : Hp} {v : V} {d : PyData} (e : Ex H H') (h : PlanX K H v d) : PlanX K H' v d := by
  obtain ⟨a, u, n, es, bs, ts, v2, v3, o, h1, h2, h3, h4, h5, h6, h7⟩ := h
  exact ⟨a, u, n, es, bs, ts, v2, v3, o, h1, h2, ex_t e h3, e _ _ h4, h5, dp_ex e h6, dp_ex e h7⟩
theorem planX_dp {K : PySem.W.Frag} {H : Hp} {v : V} {d : PyData} (h : PlanX K H v d) : Dp K H v d := by
  obtain ⟨a, u, n, es, bs, ts, v2, v3, o, rfl, rfl, h3, h4, h5, h6, h7⟩ := h
  exact .tup h3 (.cons (.int n) (.cons (.tup (sf_of h4) (dpa_strs es)) (.cons h6 (.cons h7 .nil))))
abbrev spPlan (K : PySem.W.Frag) : Sp := fun vs H Q _ => ∃ (p : Addr) (a b c g n : Nat), vs = [.ref p, .int (a : Int), .int (b : Int), .int (c : Int), .int (g : Int)] ∧ a ≤ 7 ∧ b ≤ 30 ∧ c ≤ 10 ∧ g ≤ 800 ∧ SackAt H p n ∧ n + 700 < LIM ∧
  ∀ (v : Addr) (d : PyData) (H' : Hp), PlanX K (but H' p) (.ref v) d → plOk d → isPlan d = true → noL d = true → Drawn d → Ex (but H p) (but H' p) → SackAt H' p (n + 400) → Q (.ref v) H'
section
variable {P : Program} {w : World} {K : PySem.W.Frag} {mg : Str → Option Value} {base : Heap} {tg : Tok} {f : Addr} {fd : FuncData}
abbrev s_law_drawn_plan : Stmt := topS 31
theorem sc_law_drawn_plan : FnScope ["sack", "many_events", "many_limits", "many_jobs", "great", "points", "jobs", "limits_here"] ["sack", "many_events", "many_limits", "many_jobs", "great"] (defScope s_law_drawn_plan) := ⟨rfl, rfl, rfl, by decide +kernel, rfl, by decide +kernel, by decide +kernel⟩
theorem ok_law_drawn_plan (F : Fun K "_law_drawn_plan" "_law_drawn_plan" s_law_drawn_plan f fd) (T : Txt mg tg) (C_law_dip : Cal P w K mg base 1 "_law_dip" ["sack", "below"] spDip) (C_law_names : Cal P w K mg base 2 "_law_names" ["sack", "many_here"] (spNames K))
    (C_law_jobs : Cal P w K mg base 2 "_law_jobs" ["sack", "points", "many_here", "great"] (spJobs K)) (C_law_limits : Cal P w K mg base 2 "_law_limits" ["sack", "points", "many_here", "great"] (spLimits K)) :
    FnOk P w K mg base CX0 3 f fd ["sack", "many_events", "many_limits", "many_jobs", "great"] (spPlan K) := by
  refine F.ok sc_law_drawn_plan (fun vs H Q E h => ?_) (fun cdv A outer s H0 vs Q E hr h => ?_)
  · obtain ⟨p, a, b, c, g, n, rfl, _⟩ := h
    rfl
  · obtain ⟨p, a, b, c, g, n, rfl, ha, hb, hc, hg, hsk, hn, q⟩ := h
    have hn' : n + 700 < 100000 := hn
    refine ⟨_, (pss_cons (ps_set (i := 5) sc_law_drawn_plan.nd rfl (Or.inl rfl) (pe_cal C_law_names (by first | exact hr | exact hr.mono (by decide)) (by rfl) (pa_cons (pv 0) (pa_cons (pe_cal C_law_dip (by first | exact hr | exact hr.mono (by decide)) (by rfl) (pa_cons (pv 0) (pa_cons (pe_op op_add (pv 1) pe_int) pa_nil))) pa_nil)))) (pss_cons (ps_set (i := 6) sc_law_drawn_plan.nd rfl (Or.inl rfl) (pe_cal C_law_jobs (by first | exact hr | exact hr.mono (by decide)) (by rfl) (pa_cons (pv 0) (pa_cons (pv 5) (pa_cons (pe_cal C_law_dip (by first | exact hr | exact hr.mono (by decide)) (by rfl) (pa_cons (pv 0) (pa_cons (pe_op op_add (pv 3) pe_int) pa_nil))) (pa_cons (pe_callB (call_max2 rfl) (by rfl) T.max (by decide +kernel) (pa_cons pe_int (pa_cons (pe_op op_fdiv (pv 4) pe_int) pa_nil))) pa_nil)))))) (pss_cons (ps_set (i := 7) sc_law_drawn_plan.nd rfl (Or.inl rfl) (pe_cal C_law_limits (by first | exact hr | exact hr.mono (by decide)) (by rfl) (pa_cons (pv 0) (pa_cons (pv 5) (pa_cons (pe_cal C_law_dip (by first | exact hr | exact hr.mono (by decide)) (by rfl) (pa_cons (pv 0) (pa_cons (pe_op op_add (pv 2) pe_int) pa_nil))) (pa_cons (pe_callB (call_max2 rfl) (by rfl) T.max (by decide +kernel) (pa_cons pe_int (pa_cons (pe_op op_fdiv (pv 4) pe_int) pa_nil))) pa_nil)))))) (pss_one (ps_ret (pe_tup (pa_cons (pe_cal C_law_dip (by first | exact hr | exact hr.mono (by decide)) (by rfl) (pa_cons (pv 0) (pa_cons (pe_op op_add (pv 4) pe_int) pa_nil))) (pa_cons (pv 5) (pa_cons (pv 7) (pa_cons (pv 6) pa_nil)))))))))), ?_⟩
    have R0 : Run p n (but H0 p) H0 := ⟨Ex.refl _, hsk⟩
    -- points
    refine ⟨.ref p, rfl, ?_⟩
    refine st_dip (B := but H0 p) (b := (a : Int) + 1) rfl (ev_add (ev_var rfl) ev_c) (by omega) (by omega) R0 (by unfold LIM; omega) fun r1 H1 a0 a1 R1 e1 => ?_
    refine ⟨p, r1.toNat, n + 1, by show [V.ref p, V.int r1] ++ [] = _; rw [show ((r1.toNat : Nat) : Int) = r1 by omega]; rfl, by omega, R1.sk, by unfold LIM; omega, fun u ou es H2 hod hl hnm hasc e2 sk2 hu => ?_⟩
    have R2 : Run p (n + 101) (but H0 p) H2 := ⟨R1.ex.trans e2, sk2.mono (by omega)⟩
    -- jobs
    refine ⟨.ref p, rfl, .ref u, rfl, ?_⟩
    refine st_dip (B := but H0 p) (b := (c : Int) + 1) rfl (ev_add (ev_var rfl) ev_c) (by omega) (by omega) R2 (by unfold LIM; omega) fun r2 H3 b0 b1 R3 e3 => ?_
    refine ev_div (ev_var rfl) ev_c (by decide) (by decide) H3 (Ex.refl _) _ fun H4 e4 => ⟨1, (g : Int) / 3, rfl, ?_⟩
    have g3 : (if (g : Int) / 3 > 1 then (g : Int) / 3 else 1) ≤ 900 ∧ 1 ≤ (if (g : Int) / 3 > 1 then (g : Int) / 3 else 1) := by split <;> omega
    have R4 := R3.on e4
    have f4 : Ex (but H2 p) (but H4 p) := e3.trans (but_mono e4)
    have hu4 : SqT K (but H4 p) u (es.map V.str) := ex_t f4 (sf_of hu)
    refine ⟨p, u, es, r2.toNat, n + 102, _, by show [V.ref p, V.ref u, V.int r2, _] ++ [] = _; rw [show ((r2.toNat : Nat) : Int) = r2 by omega]; rfl, hu4, asc_nodup es hasc, by omega, by omega, g3.2, g3.1, R4.sk.mono (by omega), by unfold LIM; omega, fun v ts H5 htl htk hspan e5 sk5 hts => ?_⟩
    have R5 : Run p (n + 172) (but H0 p) H5 := ⟨R4.ex.trans e5, sk5.mono (by omega)⟩
    -- limits_here
    refine ⟨.ref p, rfl, .ref u, rfl, ?_⟩
    refine st_dip (B := but H0 p) (b := (b : Int) + 1) rfl (ev_add (ev_var rfl) ev_c) (by omega) (by omega) R5 (by unfold LIM; omega) fun r3 H6 c0 c1 R6 e6 => ?_
    refine ev_div (ev_var rfl) ev_c (by decide) (by decide) H6 (Ex.refl _) _ fun H7 e7 => ⟨1, (g : Int) / 2, rfl, ?_⟩
    have g2 : (if (g : Int) / 2 > 1 then (g : Int) / 2 else 1) ≤ 900 ∧ 0 ≤ (if (g : Int) / 2 > 1 then (g : Int) / 2 else 1) := by split <;> omega
    have R7 := R6.on e7
    have f7 : Ex (but H4 p) (but H7 p) := e5.trans (e6.trans (but_mono e7))
    refine ⟨p, u, es, r3.toNat, n + 173, _, by show [V.ref p, V.ref u, V.int r3, _] ++ [] = _; rw [show ((r3.toNat : Nat) : Int) = r3 by omega]; rfl, ex_t f7 hu4, by omega, by omega, g2.2, g2.1, R7.sk.mono (by omega), by unfold LIM; omega, fun y bs H8 hbl hbk e8 sk8 hbs => ?_⟩
    have R8 : Run p (n + 323) (but H0 p) H8 := ⟨R7.ex.trans e8, sk8.mono (by omega)⟩
    -- the tuple
    refine st_dip (B := but H0 p) (b := (g : Int) + 1) rfl (ev_add (ev_var rfl) ev_c) (by omega) (by omega) R8 (by unfold LIM; omega) fun r4 H9 d0 d1 R9 e9 => ?_
    refine ⟨.ref u, rfl, .ref y, rfl, .ref v, rfl, by show 4 ≤ sizeLine; decide, fun t ht => ?_⟩
    obtain ⟨hBt, htp⟩ := R9.fresh ht
    have R10 := R9.upd (o := .tup [.int r4, .ref u, .ref y, .ref v]) hBt htp
    have e10 : Ex (but H9 p) (but (upd H9 t (.tup [.int r4, .ref u, .ref y, .ref v])) p) := but_mono (Ex.new ht)
    have hu9 : (but H9 p) u = some (.frz ou (.tup (es.map V.str))) := (f4.trans (f7.trans (e8.trans e9))) _ _ hu
    have htt : (but (upd H9 t (.tup [.int r4, .ref u, .ref y, .ref v])) p) t = some (.tup [.int r4, .ref u, .ref y, .ref v]) := by rw [but_ne htp, upd_same]
    have hnl : noL (.tuple [.int r4, .tuple (es.map .str), .tuple bs, .tuple ts]) = true := by
      have h1 : noLs (es.map PyData.str) = true := noLs_of fun d hd => by
        obtain ⟨e, _, rfl⟩ := List.mem_map.mp hd
        rfl
      have h2 : noLs bs = true := noLs_of fun d hd => by
        have hb2 := (Bool.and_eq_true_iff.mp (show (bs.all (isBound es) && ascD (bs.map cut2)) = true from hbk)).1
        obtain ⟨_, _, _, rfl⟩ := isBound_form (List.all_eq_true.mp hb2 d hd)
        rfl
      have h3 : noLs ts = true := noLs_of fun d hd => by
        have hb2 := (Bool.and_eq_true_iff.mp (show (ts.all (isTask es) && _) = true from htk)).1
        obtain ⟨_, _, _, _, rfl⟩ := isTask_form (List.all_eq_true.mp hb2 d hd)
        rfl
      show (true && (noLs (es.map PyData.str) && (noLs bs && (noLs ts && true)))) = true
      rw [h1, h2, h3]
      rfl
    have hdr : Drawn (.tuple [.int r4, .tuple (es.map .str), .tuple bs, .tuple ts]) := by
      obtain ⟨n', es', bs', ts', P'⟩ := plan_is (isPlan_of d0 hnm hasc hbk htk) (plOk_of hnm (by omega) (by omega) (by omega))
      have ef := P'.form
      cases ef
      exact ⟨_, _, _, _, P', by rw [List.length_map]; omega, by omega, by omega, hspan⟩
    have hPX : PlanX K (but (upd H9 t (.tup [.int r4, .ref u, .ref y, .ref v])) p) (.ref t) (.tuple [.int r4, .tuple (es.map .str), .tuple bs, .tuple ts]) :=
      ⟨t, u, r4, es, bs, ts, .ref y, .ref v, ou, rfl, rfl, st_of htt, e10 _ _ hu9, hod, dp_ex (e9.trans e10) hbs, dp_ex ((e6.trans (but_mono e7)).trans ((e8.trans e9).trans e10)) hts⟩
    exact q t (.tuple [.int r4, .tuple (es.map .str), .tuple bs, .tuple ts]) _ hPX (plOk_of hnm (by omega) (by omega) (by omega)) (isPlan_of d0 hnm hasc hbk htk) hnl hdr R10.ex (R10.sk.mono (by omega))
end
end Vf
end
section
set_option Elab.async false
set_option linter.all false
set_option maxRecDepth 100000
set_option maxHeartbeats 8000000
namespace Vf
open PySem PySem.Spec PyProof.Rows L2 Evl
/-! ### moments by place, looked up -/
theorem es_strs {es : List PyData} (h : ∀ e ∈ es, isName e = true) : es = (es.map strOf).map .str := by
  rw [List.map_map]
  have : ∀ e ∈ es, (PyData.str ∘ strOf) e = e := fun e he => by
    obtain ⟨x, rfl⟩ := isName_str (h e he)
    rfl
  rw [List.map_congr_left this, List.map_id']
theorem momN_at {es ms : List PyData} (hN : (es.map strOf).Nodup) : ∀ n, n ≤ es.length → ∀ j, j < n → valV (momN es ms n) (.inr (strOf (es.getD j .none))) = some (toV (ms.getD j .none))
  | 0, _, j, h => absurd h (Nat.not_lt_zero _)
  | n + 1, hn, j, h => by
    show valV (putK (momN es ms n) (.inr (strOf (es.getD n .none))) (toV (ms.getD n .none))) _ = _
    rw [valV_put]
    by_cases e : (Sum.inr (strOf (es.getD j .none)) : Key) = .inr (strOf (es.getD n .none))
    · have hat : ∀ i, i < es.length → (es.map strOf)[i]? = some (strOf (es.getD i .none)) := fun i hi => by
        rw [List.getElem?_map]
        simp [List.getD, hi]
      have h1 := hat j (by omega)
      rw [Sum.inr.inj e] at h1
      have := nd_ix hN h1 (hat n (by omega))
      subst this
      rw [if_pos rfl]
    · rw [if_neg e]
      refine momN_at hN n (by omega) j ?_
      by_cases hjn : j = n
      · subst hjn
        exact absurd rfl e
      · omega
theorem momN_go {es ms : List PyData} (hg : (("go" : Str)) ∉ es.map strOf) : ∀ n, n ≤ es.length → valV (momN es ms n) (.inr "go") = some (.int 0)
  | 0, _ => by simp [momN, valV]
  | n + 1, hn => by
    show valV (putK (momN es ms n) (.inr (strOf (es.getD n .none))) (toV (ms.getD n .none))) _ = _
    rw [valV_put, if_neg]
    · exact momN_go hg n (by omega)
    · intro z
      refine hg (List.mem_map.mpr ⟨es.getD n .none, ?_, (Sum.inr.inj z).symm⟩)
      simp [List.getD, show n < es.length by omega]
theorem PlanIs.nodup {d : PyData} {n : Int} {es bs ts : List PyData} (p : PlanIs d n es bs ts) : (es.map strOf).Nodup := asc_nodup _ (by rw [← es_strs p.nam]; exact p.asc)
theorem PlanIs.noGo {d : PyData} {n : Int} {es bs ts : List PyData} (p : PlanIs d n es bs ts) : (("go" : Str)) ∉ es.map strOf := fun h => by
  obtain ⟨e, he, ee⟩ := List.mem_map.mp h
  obtain ⟨x, rfl⟩ := isName_str (p.nam e he)
  exact (of_isName (p.nam _ he)).1 ee
theorem momOf_at {d : PyData} {n : Int} {es bs ts ms : List PyData} (p : PlanIs d n es bs ts) {j : Nat} (hj : j < es.length) {i : Int} (hm : ms[j]? = some (.int i)) : momOf (momD es ms) (strOf (es.getD j .none)) = i := by
  unfold momOf momD
  rw [momN_at p.nodup es.length (Nat.le_refl _) j hj, getD_of hm]
  rfl
theorem momOf_go {d : PyData} {n : Int} {es bs ts ms : List PyData} (p : PlanIs d n es bs ts) : momOf (momD es ms) "go" = 0 := by
  unfold momOf momD
  rw [momN_go p.noGo es.length (Nat.le_refl _)]
abbrev spWorth (K : PySem.W.Frag) : Sp := fun vs H Q _ => ∃ v d n es bs ts u ms x, vs = [v, u, .str x] ∧ PlanX K H v d ∧ PlanIs d n es bs ts ∧ Dp K H u (.tuple ms) ∧ (∀ m ∈ ms, isMom m = true) ∧ ms.length = es.length ∧ (x = "go" ∨ x ∈ es.map strOf) ∧ RetV (.int (momOf (momD es ms) x)) H Q
theorem mom_int {d : PyData} (h : isMom d = true) : ∃ i, d = .int i ∧ 0 ≤ i := by
  cases d <;> first | (cases h; done) | skip
  exact ⟨_, rfl, of_decide_eq_true h⟩
section
variable {P : Program} {w : World} {K : PySem.W.Frag} {mg : Str → Option Value} {base : Heap} {tg : Tok} {f : Addr} {fd : FuncData}
abbrev s_law_worth : Stmt := topS 32
theorem sc_law_worth : FnScope ["plan_here", "moments_here", "point"] ["plan_here", "moments_here", "point"] (defScope s_law_worth) := ⟨rfl, rfl, rfl, by decide +kernel, rfl, by decide +kernel, by decide +kernel⟩
theorem ok_law_worth (F : Fun K "_law_worth" "_law_worth" s_law_worth f fd) (T : Txt mg tg) : FnOk P w K mg base CX0 1 f fd ["plan_here", "moments_here", "point"] (spWorth K) := by
  refine F.ok sc_law_worth (fun vs H Q E h => ?_) (fun cdv A outer s H vs Q E hr h => ?_)
  · obtain ⟨v, d, n, es, bs, ts, u, ms, x, rfl, _⟩ := h
    rfl
  · obtain ⟨v, d, n, es, bs, ts, u, ms, x, rfl, hX, p, hu, hm, hl, hx, q⟩ := h
    refine ⟨_, (pss_one (ps_ret (pe_ifExp (pt_cmpR op_eq (pv 2) pe_str (nomark _)) pe_int (pe_ix (ix_tupK (K := K) rfl) (pv 1) (pe_bmF PySem.F.plainAttrs_tuple PySem.F.slot_tuple_index PySem.F.type_tuple_index mt_tup_index (pe_ix (ix_tupK (K := K) rfl) (pv 0) pe_int (fun _ _ => rfl)) (pa_cons (pv 2) pa_nil)) (fun _ _ => rfl))))), ?_⟩
    by_cases hg : x = "go"
    · subst hg
      rw [momOf_go p] at q
      exact s_ret (ev_if (b := true) (et_is (et_test (ev_opD (K := K) (ed_of (ev_var rfl) (.str "go")) (ed_of ev_c (.str "go")) rd_eqS)) (decide_eq_true rfl)) (fun _ => ev_c) fun h => nomatch h) q
    · have hx2 : x ∈ es.map strOf := hx.resolve_left hg
      obtain ⟨j, hj, ej⟩ := List.getElem_of_mem hx2
      have hj2 : j < es.length := by simpa using hj
      have hj3 : (es.map strOf)[j]? = some x := by rw [List.getElem?_eq_getElem hj, ej]
      have hms : j < ms.length := by omega
      obtain ⟨i, hi, i0⟩ := mom_int (hm _ (List.getElem_mem hms))
      have hmi : ms[j]? = some (.int i) := by rw [List.getElem?_eq_getElem hms, hi]
      have ex : strOf (es.getD j .none) = x := by
        rw [List.getElem?_map] at hj3
        obtain ⟨e, he, ee⟩ := Option.map_eq_some_iff.mp hj3
        rw [getD_of he]
        exact ee
      have eq1 := momOf_at (ms := ms) p hj2 hmi
      rw [ex] at eq1
      rw [eq1] at q
      obtain ⟨a, u1, n1, es1, bs1, ts1, v2, v3, o, rfl, ed, hs, ho, hod, h2, h3⟩ := hX
      have ef := ed.symm.trans p.form
      injection ef with ef
      injection ef with _ ef
      injection ef with ef _
      injection ef with ef
      subst ef
      have en : (es1.map PyData.str).map strOf = es1 := evs_strs es1
      rw [en] at hj3
      cases hu with
      | @tup b ys _ hy ay =>
        obtain ⟨vv, hv1, hv2⟩ := dpa_at ay hmi
        cases hv2
        refine s_ret (v := .int i) (ev_if (b := false) (et_is (et_test (ev_opD (K := K) (ed_of (ev_var rfl) (.str x)) (ed_of ev_c (.str "go")) rd_eqS)) (decide_eq_false hg)) (fun h => nomatch h) fun _ => ?_) q
        intro H1 e1 Q1 q1
        refine ⟨.ref b, rfl, ?_⟩
        refine (ev_op (z := .ref u1) (ev_var rfl) ev_c (rv_ixT hs rfl)) H1 e1 _ fun H2 e2 => ?_
        refine ⟨⟨u1, o, _, rfl, e2 _ _ (e1 _ _ ho), hod⟩, .str x, rfl, ⟨u1, es1, x, j, rfl, rfl, sf_of (e2 _ _ (e1 _ _ ho)), hj3, fun k hk hk2 => ?_, ?_⟩⟩
        · have hN := p.nodup
          rw [en] at hN
          have := nd_ix hN hk2 hj3
          omega
        · exact ⟨b, ys, (j : Int), _, rfl, rfl, ex_t (e1.trans e2) hy, atI_nat hv1, q1 H2 e2⟩
end
end Vf
end
section
set_option Elab.async false
set_option linter.all false
set_option maxRecDepth 100000
set_option maxHeartbeats 8000000
namespace Vf
open PySem PySem.Spec PyProof.Rows L2 Evl
/-! ### runs that are drawn -/
def loT : PyData → Int | .tuple [_, _, .int l, _] => l | _ => 0
def hiT : PyData → Int | .tuple [_, _, _, .int g] => g | _ => 0
structure Kn (es : List Str) (ts : List PyData) (kvs : List (Key × V)) : Prop where
  form : ∀ x v, valV kvs (.inr x) = some v → ∃ i, v = .int i ∧ 0 ≤ i ∧ x ∈ es
  ours : ∀ x ∈ es, x ∉ ts.map kE → (valV kvs (.inr x)).isSome = true
  time : ∀ t ∈ ts, ∀ i, valV kvs (.inr (kE t)) = some (.int i) → ∃ j, valV kvs (.inr (kB t)) = some (.int j) ∧ loT t ≤ i - j ∧ i - j ≤ hiT t
def unk (ts : List PyData) (kvs : List (Key × V)) : Nat := (ts.filter fun t => (valV kvs (.inr (kE t))).isNone).length
theorem putAll_inj {k : Nat → Key} {u : Nat → V} : ∀ n, (putAll n k u).length = n → ∀ i j, i < n → j < n → k i = k j → i = j
  | 0, _, i, _, hi, _, _ => absurd hi (Nat.not_lt_zero _)
  | n + 1, h, i, j, hi, hj, hk => by
    have hle := putAll_len k u n
    have hnew : valV (putAll n k u) (k n) = none := by
      cases q : valV (putAll n k u) (k n) with
      | none => rfl
      | some v =>
        rw [putAll_succ] at h
        have : (putK (putAll n k u) (k n) (u n)).length = (putAll n k u).length := by
          unfold putK
          rw [if_pos (List.any_eq_true.mpr ⟨_, valV_mem q, decide_eq_true rfl⟩), List.length_map]
        omega
    have hn : (putAll n k u).length = n := by
      rw [putAll_succ, putK_new _ hnew, List.length_append] at h
      have : ([(k n, u n)] : List (Key × V)).length = 1 := rfl
      omega
    have hfree : ∀ a, a < n → k a ≠ k n := fun a ha e => by
      have h1 := putAll_some (k := k) (u := u) (x := k n) n
      rw [decide_eq_true (⟨a, ha, e⟩ : ∃ i, i < n ∧ k i = k n), hnew] at h1
      cases h1
    by_cases h1 : i = n
    · by_cases h2 : j = n
      · omega
      · subst h1
        exact absurd hk.symm (hfree j (by omega))
    · by_cases h2 : j = n
      · subst h2
        exact absurd hk (hfree i (by omega))
      · exact putAll_inj n hn i j (by omega) (by omega) hk
theorem PlanIs.same {d : PyData} {n : Int} {es bs ts : List PyData} (p : PlanIs d n es bs ts) {t t' : PyData} (h : t ∈ ts) (h' : t' ∈ ts) (e : kE t = kE t') : t = t' := by
  obtain ⟨i, hi, ei⟩ := List.getElem_of_mem h
  obtain ⟨j, hj, ej⟩ := List.getElem_of_mem h'
  have hu : (bg ts).length = ts.length := by have := p.uni; omega
  have gi : ts.getD i .none = t := by rw [← ei]; simp [List.getD, hi]
  have gj : ts.getD j .none = t' := by rw [← ej]; simp [List.getD, hj]
  have := putAll_inj ts.length hu i j hi hj (by rw [gi, gj, e])
  subst this
  rw [← ei, ← ej]
theorem bg_back {ts : List PyData} {x y : Str} (h : valV (bg ts) (.inr x) = some (.str y)) : ∃ t ∈ ts, kE t = x ∧ kB t = y := by
  obtain ⟨i, hi, h1, h2⟩ := putAll_val _ h
  exact ⟨ts.getD i .none, by simp [List.getD, hi], Sum.inr.inj h1, V.str.inj h2⟩
theorem bg_out {ts : List PyData} {x : Str} (h : valV (bg ts) (.inr x) = none) : x ∉ ts.map kE := fun hm => by
  have e := putAll_some (k := fun i => (.inr (kE (ts.getD i .none)) : Key)) (u := fun i => .str (kB (ts.getD i .none))) (x := .inr x) ts.length
  rw [decide_eq_true (mem_keys.mpr hm)] at e
  unfold bg at h
  rw [h] at e
  cases e
theorem Kn.next {es : List Str} {ts : List PyData} {kvs : List (Key × V)} (k : Kn es ts kvs) (hb : ∀ t ∈ ts, kB t ∈ es) {x : Str} (o : Out (bg ts) x) : x ∈ es → valV kvs (.inr x) = none → ∃ t ∈ ts, valV kvs (.inr (kE t)) = none ∧ (valV kvs (.inr (kB t))).isSome = true := by
  induction o with
  | @stop x h =>
    intro hx hn
    have := k.ours x hx (bg_out h)
    rw [hn] at this
    cases this
  | @step x y h _ ih =>
    intro hx hn
    obtain ⟨t, ht, e1, e2⟩ := bg_back h
    cases hy : valV kvs (.inr y) with
    | none => exact ih (e2 ▸ hb t ht) hy
    | some v => exact ⟨t, ht, by rw [e1]; exact hn, by rw [e2, hy]; rfl⟩
theorem task_in {es : List Str} {t : PyData} (h : isTask es t = true) : ∃ b e l g, t = .tuple [.str b, .str e, .int l, .int g] ∧ b ∈ es ∧ e ∈ es ∧ 1 ≤ l ∧ l ≤ g := by
  obtain ⟨b, e, l, g, rfl⟩ := isTask_form h
  have h' : (decide (b ∈ es) && (decide (e ∈ es) && (decide (1 ≤ l) && decide (l ≤ g)))) = true := h
  simp only [Bool.and_eq_true, decide_eq_true_eq] at h'
  exact ⟨b, e, l, g, rfl, h'.1, h'.2.1, h'.2.2.1, h'.2.2.2⟩
theorem Kn.put {d : PyData} {n : Int} {es0 bs ts : List PyData} (p : PlanIs d n es0 bs ts) {kvs : List (Key × V)} (k : Kn (es0.map strOf) ts kvs) {t : PyData} (ht : t ∈ ts) {j r : Int} (hj : valV kvs (.inr (kB t)) = some (.int j)) (hn : valV kvs (.inr (kE t)) = none) (h0 : 0 ≤ r) (h1 : r ≤ hiT t - loT t) :
    Kn (es0.map strOf) ts (putK kvs (.inr (kE t)) (.int (j + loT t + r))) := by
  obtain ⟨b, e, l, g, rfl, hb, he, hl, hlg⟩ := task_in (p.tsk t ht)
  obtain ⟨j', ej, j0, _⟩ := k.form _ _ hj
  cases ej
  have hlt : loT (.tuple [.str b, .str e, .int l, .int g]) = l := rfl
  refine ⟨fun x v hv => ?_, fun x hx hxe => ?_, fun t' ht' i hi => ?_⟩
  · rw [valV_put] at hv
    split at hv
    · rename_i hxe
      cases hv
      refine ⟨_, rfl, by rw [hlt]; omega, ?_⟩
      rw [Sum.inr.inj hxe]
      exact he
    · exact k.form x v hv
  · rw [valV_put]
    split
    · rfl
    · exact k.ours x hx hxe
  · rw [valV_put] at hi
    split at hi
    · rename_i hte
      have hsame := p.same ht' ht (Sum.inr.inj hte)
      subst hsame
      cases hi
      refine ⟨j, ?_, by omega, by omega⟩
      rw [valV_put, if_neg, hj]
      intro z
      rw [Sum.inr.inj z, hn] at hj
      cases hj
    · obtain ⟨j2, hj2, h3, h4⟩ := k.time t' ht' i hi
      refine ⟨j2, ?_, h3, h4⟩
      rw [valV_put, if_neg, hj2]
      intro z
      rw [Sum.inr.inj z, hn] at hj2
      cases hj2
abbrev spRunD (K : PySem.W.Frag) : Sp := fun vs H Q _ => ∃ (p : Addr) (v : V) (d : PyData) (g n : Nat), vs = [.ref p, v, .int (g : Int)] ∧ PlanX K (but H p) v d ∧ plOk d ∧ isPlan d = true ∧ Drawn d ∧ g ≤ 800 ∧ SackAt H p n ∧ n + 300 < LIM ∧
  ∀ (u : Addr) (ms : List PyData) (H' : Hp), Dp K (but H' p) (.ref u) (.tuple ms) → isRun d (.tuple ms) = true → ms.length ≤ 7 → Ex (but H p) (but H' p) → SackAt H' p (n + 150) → Q (.ref u) H'
theorem unk_le (ts : List PyData) (kvs : List (Key × V)) : unk ts kvs ≤ ts.length := List.length_filter_le ..
theorem unk_lt {ts : List PyData} {k0 k1 : List (Key × V)} (hsub : ∀ x : Str, (valV k0 (.inr x)).isSome = true → (valV k1 (.inr x)).isSome = true) {t : PyData} (ht : t ∈ ts) (h0 : valV k0 (.inr (kE t)) = none) (h1 : (valV k1 (.inr (kE t))).isSome = true) : unk ts k1 < unk ts k0 := by
  refine filter_lt t _ _ (fun x hx => ?_) (by rw [h0]; rfl) ?_ ts ht
  · cases q : valV k0 (.inr (kE x)) with
    | none => rfl
    | some v =>
      have := hsub (kE x) (by rw [q]; rfl)
      cases q2 : valV k1 (.inr (kE x)) with
      | none => rw [q2] at this; cases this
      | some _ => rw [q2] at hx; cases hx
  · cases q2 : valV k1 (.inr (kE t)) with
    | none => rw [q2] at h1; cases h1
    | some _ => rfl
theorem unk_none {ts : List PyData} {kvs : List (Key × V)} (h : unk ts kvs = 0) : ∀ t ∈ ts, (valV kvs (.inr (kE t))).isSome = true := fun t ht => by
  have h2 := List.eq_nil_of_length_eq_zero h
  cases q : valV kvs (.inr (kE t)) with
  | some _ => rfl
  | none =>
    have : t ∈ ts.filter fun t => (valV kvs (.inr (kE t))).isNone := List.mem_filter.mpr ⟨ht, by rw [q]; rfl⟩
    rw [h2] at this
    cases this
theorem unk_some {ts : List PyData} {kvs : List (Key × V)} (h : 0 < unk ts kvs) : ∃ t ∈ ts, valV kvs (.inr (kE t)) = none := by
  obtain ⟨t, ht⟩ := List.exists_mem_of_length_pos h
  obtain ⟨h1, h2⟩ := List.mem_filter.mp ht
  refine ⟨t, h1, ?_⟩
  cases q : valV kvs (.inr (kE t)) with
  | none => rfl
  | some _ => rw [q] at h2; cases h2
theorem run_of {d : PyData} {n : Int} {es0 bs ts : List PyData} (p : PlanIs d n es0 bs ts) {kvs : List (Key × V)} (k : Kn (es0.map strOf) ts kvs) (hu : unk ts kvs = 0) : isRun d (.tuple ((es0.map strOf).map fun x => .int (momOf kvs x))) = true := by
  have hall : ∀ x ∈ es0.map strOf, ∃ i, valV kvs (.inr x) = some (.int i) ∧ 0 ≤ i := fun x hx => by
    have hs : (valV kvs (.inr x)).isSome = true := by
      by_cases he : x ∈ ts.map kE
      · obtain ⟨t, ht, rfl⟩ := List.mem_map.mp he
        exact unk_none hu t ht
      · exact k.ours x hx he
    obtain ⟨v, hv⟩ := Option.isSome_iff_exists.mp hs
    obtain ⟨i, rfl, h0, _⟩ := k.form x v hv
    exact ⟨i, hv, h0⟩
  have hmo : ∀ x ∈ es0.map strOf, valV kvs (.inr x) = some (.int (momOf kvs x)) ∧ 0 ≤ momOf kvs x := fun x hx => by
    obtain ⟨i, hv, h0⟩ := hall x hx
    have : momOf kvs x = i := by unfold momOf; rw [hv]
    rw [this]
    exact ⟨hv, h0⟩
  have hms : ∀ x ∈ es0.map strOf, momOf (momD es0 ((es0.map strOf).map fun x => .int (momOf kvs x))) x = momOf kvs x := fun x hx => by
    obtain ⟨j, hj, ej⟩ := List.getElem_of_mem hx
    have hj2 : j < es0.length := by simpa using hj
    have h1 : (es0.map strOf)[j]? = some x := by rw [List.getElem?_eq_getElem hj, ej]
    have h2 := momOf_at (ms := (es0.map strOf).map fun x => .int (momOf kvs x)) p hj2 (i := momOf kvs x) (by rw [List.getElem?_map, h1]; rfl)
    have ex : strOf (es0.getD j .none) = x := by
      rw [List.getElem?_map] at h1
      obtain ⟨e, he, ee⟩ := Option.map_eq_some_iff.mp h1
      rw [getD_of he]
      exact ee
    rw [ex] at h2
    exact h2
  have ef := p.form
  subst ef
  show (decide ((((es0.map strOf).map fun x => PyData.int (momOf kvs x)).length : Int) = (es0.length : Int)) && (((es0.map strOf).map fun x => PyData.int (momOf kvs x)).all isMom && ts.all (timeOk (momD es0 ((es0.map strOf).map fun x => .int (momOf kvs x)))))) = true
  rw [decide_eq_true (by rw [List.length_map, List.length_map]), Bool.true_and, Bool.and_eq_true]
  refine ⟨List.all_eq_true.mpr fun m hm => ?_, List.all_eq_true.mpr fun t ht => ?_⟩
  · obtain ⟨x, hx, rfl⟩ := List.mem_map.mp hm
    exact decide_eq_true (hmo x hx).2
  · obtain ⟨b, e, l, g, rfl, hb, he, hl, hlg⟩ := task_in (p.tsk t ht)
    obtain ⟨j, hj, h1, h2⟩ := k.time _ ht _ (hmo e he).1
    have hjb : j = momOf kvs b := by
      have h3 := (hmo b hb).1
      have h4 : valV kvs (.inr b) = some (.int j) := hj
      rw [h3] at h4
      exact (V.int.inj (Option.some.inj h4)).symm
    show (decide (l ≤ momOf (momD es0 ((es0.map strOf).map fun x => .int (momOf kvs x))) e - momOf (momD es0 ((es0.map strOf).map fun x => .int (momOf kvs x))) b) && decide (momOf (momD es0 ((es0.map strOf).map fun x => .int (momOf kvs x))) e - momOf (momD es0 ((es0.map strOf).map fun x => .int (momOf kvs x))) b ≤ g)) = true
    rw [hms e he, hms b hb, ← hjb]
    have h1' : l ≤ momOf kvs e - j := h1
    have h2' : momOf kvs e - j ≤ g := h2
    rw [decide_eq_true h1', decide_eq_true h2']
    rfl
end Vf
end
section
set_option Elab.async false
set_option linter.all false
set_option maxRecDepth 100000
set_option maxHeartbeats 8000000
namespace Vf
open PySem PySem.Spec PyProof.Rows L2 Evl
theorem r_any {te : TE} {D : Ends} {σ : L2.St} {H : Hp} (h : te σ H D.rt) : tRet te D σ H := h
theorem cb1 {r : List V → Hp → VK → Prop} {te : TE} {σ : L2.St} {H : Hp} {Q : VK} (h : te σ H fun v H1 => r [v] H1 Q) : tCB r (tCons te tNil) σ H Q := h
section
variable {P : Program} {w : World} {K : PySem.W.Frag} {mg : Str → Option Value} {base : Heap} {tg : Tok} {f : Addr} {fd : FuncData}
abbrev s_law_drawn_run : Stmt := topS 33
theorem sc_law_drawn_run : FnScope ["sack", "plan_here", "great", "points", "jobs", "job", "known", "ends", "name", "turn", "start", "stop", "low", "high"] ["sack", "plan_here", "great"] (defScope s_law_drawn_run) := ⟨rfl, rfl, rfl, by decide +kernel, rfl, by decide +kernel, by decide +kernel⟩
theorem ok_law_drawn_run (F : Fun K "_law_drawn_run" "_law_drawn_run" s_law_drawn_run f fd) (T : Txt mg tg) (C_law_dip : Cal P w K mg base 1 "_law_dip" ["sack", "below"] spDip) : FnOk P w K mg base CX0 2 f fd ["sack", "plan_here", "great"] (spRunD K) := by
  refine F.ok sc_law_drawn_run (fun vs H Q E h => ?_) (fun cdv A outer s H0 vs Q E hr h => ?_)
  · obtain ⟨p, v, d, g, n, rfl, _⟩ := h
    rfl
  · obtain ⟨p, v, d, g, n, rfl, hX, hpl, hP, ⟨n0, es0, bs0, ts, pi, hz1, hz2, hz3, hspan⟩, hg, hsk, hn, q⟩ := h
    have hn' : n + 300 < 100000 := hn
    refine ⟨_, (pss_cons (ps_par (i := 3) (j := 4) rfl sc_law_drawn_run.nd rfl rfl (by decide) rfl rfl (pa_cons (pe_ix (ix_tupK (K := K) rfl) (pv 1) pe_int (fun _ _ => rfl)) (pa_cons (pe_callTy call_list_of (by rfl) T.list (by decide +kernel) (pa_cons (pe_ix (ix_tupK (K := K) rfl) (pv 1) pe_int (fun _ _ => rfl)) pa_nil)) pa_nil)) (by rfl)) (pss_cons (ps_asg (pe_tup (pa_cons pe_dnewK (pa_cons (pe_lc (own := [("job", 5)]) rfl sc_law_drawn_run.nd (pi_listK (K := K) rfl (pv 4)) (blkOk_by (own := [("job", 5)]) (N := ["sack", "plan_here", "great", "points", "jobs", "job", "known", "ends", "name", "turn", "start", "stop", "low", "high"]) (sc := defScope s_law_drawn_run) (by decide +kernel)) (fun _ _ _ _ _ => (pg_name (i := 5) sc_law_drawn_run.nd rfl (Or.inl rfl))) (fun _ _ _ _ _ => pts_nil) (fun _ _ _ _ _ => (pe_ix (ix_tupK (K := K) rfl) (pv 5) pe_int (fun _ _ => rfl)))) pa_nil))) (pg_tupK (K := K) (n := 2) rfl rfl (pgs_cons (pg_name (i := 6) sc_law_drawn_run.nd rfl (Or.inr rfl)) (pgs_cons (pg_name (i := 7) sc_law_drawn_run.nd rfl (Or.inl rfl)) pgs_nil)))) (pss_cons (ps_for PassesOwn.never rfl (pi_tupK (K := K) rfl (pv 3)) (pg_name (i := 8) sc_law_drawn_run.nd rfl (Or.inl rfl)) (pss_one (ps_if (pt_cmpR (op_notIn_seqK (K := K) rfl) (pv 8) (pv 7) (by rfl)) (pss_one (ps_dput (hu_of hr) (pv 6) (pv 8) (pe_cal C_law_dip (by first | exact hr | exact hr.mono (by decide)) (by rfl) (pa_cons (pv 0) (pa_cons (pe_op op_add (pv 2) pe_int) pa_nil))) rfl)) pss_nil))) (pss_cons (ps_for PassesOwn.never rfl (pi_range1 rfl T.range (pa_cons (pe_callB (call_len_seqK (K := K) rfl) (by rfl) T.len (by decide +kernel) (pa_cons (pv 4) pa_nil)) pa_nil)) (pg_name (i := 9) sc_law_drawn_run.nd rfl (Or.inl rfl)) (pss_one (ps_for PassesOwn.never rfl (pi_listK (K := K) rfl (pv 4)) (pg_tupK (K := K) (n := 4) rfl rfl (pgs_cons (pg_name (i := 10) sc_law_drawn_run.nd rfl (Or.inl rfl)) (pgs_cons (pg_name (i := 11) sc_law_drawn_run.nd rfl (Or.inl rfl)) (pgs_cons (pg_name (i := 12) sc_law_drawn_run.nd rfl (Or.inl rfl)) (pgs_cons (pg_name (i := 13) sc_law_drawn_run.nd rfl (Or.inl rfl)) pgs_nil))))) (pss_one (ps_if (PW.pt (pw_and (pt_cmp (pc_din (hu_of hr) (pv 10) (pv 6))) (pw_and1 (pt_cmp (pc_dnotin (hu_of hr) (pv 11) (pv 6)))))) (pss_one (ps_dput (hu_of hr) (pv 6) (pv 11) (pe_op op_add (pe_op op_add (pe_dget (hu_of hr) (pv 6) (pv 10) (fun _ _ => rfl)) (pv 12)) (pe_cal C_law_dip (by first | exact hr | exact hr.mono (by decide)) (by rfl) (pa_cons (pv 0) (pa_cons (pe_op op_add (pe_op op_sub (pv 13) (pv 12)) pe_int) pa_nil)))) rfl)) pss_nil))))) (pss_one (ps_ret (pe_callTy call_tuple_of (by rfl) T.tuple (by decide +kernel) (pa_cons (pe_lc (own := [("name", 8)]) rfl sc_law_drawn_run.nd (pi_tupK (K := K) rfl (pv 3)) (blkOk_by (own := [("name", 8)]) (N := ["sack", "plan_here", "great", "points", "jobs", "job", "known", "ends", "name", "turn", "start", "stop", "low", "high"]) (sc := defScope s_law_drawn_run) (by decide +kernel)) (fun _ _ _ _ _ => (pg_name (i := 8) sc_law_drawn_run.nd rfl (Or.inl rfl))) (fun _ _ _ _ _ => pts_nil) (fun _ _ _ _ _ => (pe_dget (hu_of hr) (pv 6) (pv 8) (fun _ _ => rfl)))) pa_nil)))))))), ?_⟩
    have R0 : Run p n (but H0 p) H0 := ⟨Ex.refl _, hsk⟩
    obtain ⟨a, u, n1, es, bs1, ts1, v2, v3, o, rfl, ed, hs, ho, hod, h2, h3⟩ := hX
    have ef := ed.symm.trans pi.form
    injection ef with ef
    injection ef with _ ef
    injection ef with ef1 ef
    injection ef1 with ef1
    injection ef with _ ef
    injection ef with ef3 _
    injection ef3 with ef3
    subst ef3
    subst ef1
    have hes : (es.map PyData.str).map strOf = es := evs_strs es
    have hsz : es.length ≤ 7 := by rw [List.length_map] at hz1; exact hz1
    have htk : ∀ t ∈ ts1, isTask es t = true := fun t ht => by have := pi.tsk t ht; rw [hes] at this; exact this
    cases h3 with
    | @tup c xs3 _ hc3 d3 =>
      have l3 := dpa_len d3
      -- points, jobs = ..
      refine (ev_op (z := .ref u) (ev_var rfl) ev_c (rv_ixT (ex_t R0.base hs) rfl)) H0 (Ex.refl _) _ fun H1 e1 => ?_
      have R1 := R0.on e1
      refine (ev_op (z := .ref c) (ev_var rfl) ev_c (rv_ixT (ex_t R1.base hs) rfl)) H1 (Ex.refl _) _ fun H2 e2 => ?_
      have R2 := R1.on e2
      refine ⟨c, xs3, rfl, .inr (ex_t R2.base hc3), fun lj hlj => ?_⟩
      obtain ⟨hBj, hjp⟩ := R2.fresh hlj
      have R3 := R2.upd (o := .lst xs3) hBj hjp
      have hj3 : (upd H2 lj (.lst xs3)) lj = some (.lst xs3) := upd_same
      refine ⟨_, _, rfl, ?_⟩
      generalize (upd H2 lj (.lst xs3)) = H3 at R3 hj3 ⊢
      -- known, ends = ..
      intro kd hkd
      obtain ⟨hBk, hkp⟩ := R3.fresh hkd
      have R4 := R3.upd (o := .dK []) hBk hkp
      have hj4 := upd_old (u := .dK []) hj3 hkd
      have hk4 : (upd H3 kd (.dK [])) kd = some (.dK []) := upd_same
      generalize (upd H3 kd (.dK [])) = H4 at R4 hj4 hk4 ⊢
      have eN : EvN K (tLc (iList K (tVar 4)) (gName 5) tYes (tOp (rIxT K) (tVar 5) (tC (.int 1))) [5]) [some (.ref p), some (.ref a), some (.int (g : Int)), some (.ref u), some (.ref lj), none, none, none, none, none, none, none, none, none] H4 (ts1.map fun t => .str (kE t)) := by
        rw [← givenD_map]
        refine en_lcL _ _ (ed_of (ev_var rfl) (Dp.lst (sq_of hj4) (dpa_ex R4.base d3))) (by omega) (fun _ _ => rfl) fun i x t H5 e5 ht hx => ?_
        refine ⟨_, ?_, goes_name, fun H1 e Q q => q H1 (Ex.refl H1), fun _ => ?_⟩
        · rfl
        rw [getD_of ht]
        obtain ⟨b, e, l, g2, rfl, _⟩ := task_in (htk t (List.mem_of_getElem? ht))
        exact ed_ixT 1 (ed_of (ev_var rfl) hx) ev_c rfl rfl
      refine eN H4 (Ex.refl _) _ fun lE xsE H5 hlE e5 hE dE => ?_
      have exs : xsE = (ts1.map kE).map V.str := by
        have h : (ts1.map fun t => PyData.str (kE t)) = (ts1.map kE).map PyData.str := by rw [List.map_map]; rfl
        rw [h] at dE
        exact dpa_strs_inv dE
      subst exs
      have R5 := R4.on e5
      refine ⟨by show 2 ≤ sizeLine; decide, fun t ht => ?_⟩
      obtain ⟨hBt, htp⟩ := R5.fresh ht
      have R6 := R5.upd (o := .tup [.ref kd, .ref lE]) hBt htp
      refine ⟨t, _, rfl, st_of upd_same, rfl, _, _, rfl, _, _, rfl, rfl, ?_⟩
      have hj6 := upd_old (u := .tup [.ref kd, .ref lE]) (e5 _ _ hj4) ht
      have hk6 := upd_old (u := .tup [.ref kd, .ref lE]) (e5 _ _ hk4) ht
      have hE6 := upd_old (u := .tup [.ref kd, .ref lE]) hE ht
      obtain ⟨_, hEp⟩ := R4.fresh hlE
      have hkj : lj ≠ kd := ne_of hj6 hk6 (by intro z; cases z)
      have hkE : lE ≠ kd := ne_of hE6 hk6 (by intro z; cases z)
      generalize (upd H5 t (.tup [.ref kd, .ref lE])) = H6 at R6 hj6 hk6 hE6 ⊢
      -- for name in points
      refine q_forT (a := u) (xs := es.map V.str) (ev_var rfl) (ex_t R6.base (sf_of ho)) (fun i σ' H' => ∃ x8 kvs, σ' = [some (.ref p), some (.ref a), some (.int (g : Int)), some (.ref u), some (.ref lj), none, some (.ref kd), some (.ref lE), x8, none, none, none, none, none] ∧
          Run p (n + i) (but H0 p) H' ∧ H' lj = some (.lst xs3) ∧ H' lE = some (.lst ((ts1.map kE).map V.str)) ∧ H' kd = some (.dK kvs) ∧ kvs.length ≤ i ∧
          (∀ x v, valV kvs (.inr x) = some v → ∃ i, v = .int i ∧ 0 ≤ i ∧ x ∈ es ∧ x ∉ ts1.map kE) ∧ (∀ j x, j < i → es[j]? = some x → x ∉ ts1.map kE → (valV kvs (.inr x)).isSome = true))
        (fun H7 e7 => ⟨none, [], rfl, R6.on e7, e7 _ _ hj6, e7 _ _ hE6, e7 _ _ hk6, Nat.le_refl _, fun x v h => (by cases h), fun j x h => absurd h (Nat.not_lt_zero _)⟩)
        (fun i σ' H' _ ⟨_, _, _, R, _⟩ => ex_t R.base (sf_of ho)) ?_ ?_
      · rintro i x σ' H7 hi ⟨x8, kvs, rfl, R, hj, hE, hk, hkl, hf, hours⟩
        have hil : i < es.length := by
          have := (List.getElem?_eq_some_iff.mp hi).1
          rw [List.length_map] at this
          exact this
        rw [List.getElem?_map] at hi
        obtain ⟨y, hy, rfl⟩ := Option.map_eq_some_iff.mp hi
        refine s_when (b := !decide (y ∈ ts1.map kE)) (et_is (et_test (ev_op (ev_var rfl) (ev_var rfl) (rv_niL (sq_of hE) rfl (flat_strs _)))) (by rw [inV_strs])) (fun hb H8 e8 => ?_) fun hb H8 e8 => ⟨_, kvs, rfl, (R.on e8).mono (by omega), e8 _ _ hj, e8 _ _ hE, e8 _ _ hk, by omega, hf, fun j x hj hx hxe => ?_⟩
        · have hye : y ∉ ts1.map kE := by simpa using hb
          refine st_dip (B := but H0 p) (b := (g : Int) + 1) rfl (ev_add (ev_var rfl) ev_c) (by omega) (by omega) (R.on e8) (by unfold LIM; omega) fun r H9 r0 r1 R9 e9 => ?_
          have hk9 := kept e9 (e8 _ _ hk) hkp
          refine ⟨.ref kd, rfl, .str y, rfl, kd, _, rfl, DPut.k (k := .inr y) hk9 (sz_lt (by omega)), _, _, rfl, ?_, ?_, ?_, upd_same, ?_, fun x v hv => ?_, fun j x hj hx hxe => ?_⟩
          · exact (R9.upd hBk hkp).mono (by omega)
          · rw [upd_ne hkj]; exact kept e9 (e8 _ _ hj) hjp
          · rw [upd_ne hkE]; exact kept e9 (e8 _ _ hE) hEp
          · have := length_putK kvs (.inr y) (.int r)
            omega
          · rw [valV_put] at hv
            split at hv
            · rename_i hxy
              cases hv
              rw [Sum.inr.inj hxy]
              exact ⟨r, rfl, r0, List.mem_of_getElem? hy, hye⟩
            · exact hf x v hv
          · rw [valV_put]
            split
            · rfl
            · rename_i hne
              refine hours j x ?_ hx hxe
              by_cases hji : j = i
              · subst hji
                rw [hy] at hx
                cases hx
                exact absurd rfl hne
              · omega
        · by_cases hji : j = i
          · subst hji
            rw [hy] at hx
            cases hx
            have : y ∈ ts1.map kE := by
              have h := hb
              rw [Bool.not_eq_false'] at h
              exact of_decide_eq_true h
            exact absurd this hxe
          · exact hours j x (by omega) hx hxe
      · rintro σ' H7 ⟨x8, kvs, rfl, R7, hj7, hE7, hk7, hkl, hf, hours⟩
        rw [List.length_map] at R7 hkl hours
        have K0 : Kn es ts1 kvs := ⟨fun x v hv => by
            obtain ⟨i, h1, h2, h3, _⟩ := hf x v hv
            exact ⟨i, h1, h2, h3⟩, fun x hx hxe => by
            obtain ⟨j, hj, ej⟩ := List.getElem_of_mem hx
            exact hours j x hj (by rw [List.getElem?_eq_getElem hj, ej]) hxe, fun t ht i hi => by
            obtain ⟨_, _, _, _, h4⟩ := hf _ _ hi
            exact absurd (List.mem_map.mpr ⟨t, ht, rfl⟩) h4⟩
        have hkB : ∀ t ∈ ts1, kB t ∈ es := fun t ht => by
          obtain ⟨b, e, l, g2, rfl, hb, _⟩ := task_in (htk t ht)
          exact hb
        have hkEm : ∀ t ∈ ts1, kE t ∈ es := fun t ht => by
          obtain ⟨b, e, l, g2, rfl, _, he, _⟩ := task_in (htk t ht)
          exact he
        -- for turn in range(len(jobs))
        refine q_forR1 (n := (ts1.length : Int)) (ea_cons (ev_lenL (K := K) (ed_of (ev_var rfl) (Dp.lst (sq_of hj7) (dpa_ex R7.base d3)))) ea_nil) (by omega) (fun c σ' H' => ∃ x8 x9 x10 x11 x12 x13 kvs, σ' = [some (.ref p), some (.ref a), some (.int (g : Int)), some (.ref u), some (.ref lj), none, some (.ref kd), some (.ref lE), x8, x9, x10, x11, x12, x13] ∧
            Run p (n + 7 + 10 * c) (but H0 p) H' ∧ H' lj = some (.lst xs3) ∧ H' kd = some (.dK kvs) ∧ kvs.length ≤ 7 + 10 * c ∧ Kn es ts1 kvs ∧ unk ts1 kvs ≤ ts1.length - c)
          (fun H8 e8 => ⟨_, _, _, _, _, _, kvs, rfl, (R7.on e8).mono (by omega), e8 _ _ hj7, e8 _ _ hk7, by omega, K0, unk_le _ _⟩) ?_ ?_
        · rintro c' σ' H8 hc' ⟨x8, x9, x10, x11, x12, x13, k0, rfl, R8, hj8, hk8, hkl8, Kn0, hunk⟩
          have hc10 : c' < 10 := by omega
          -- for start, stop, low, high in jobs
          refine s_forL (a := lj) (xs := xs3) (ev_var rfl) (sq_of hj8) (fun i σ' H' => ∃ x8 x9 x10 x11 x12 x13 kvs, σ' = [some (.ref p), some (.ref a), some (.int (g : Int)), some (.ref u), some (.ref lj), none, some (.ref kd), some (.ref lE), x8, x9, x10, x11, x12, x13] ∧
              Run p (n + 7 + 10 * c' + i) (but H0 p) H' ∧ H' lj = some (.lst xs3) ∧ H' kd = some (.dK kvs) ∧ kvs.length ≤ 7 + 10 * c' + i ∧ Kn es ts1 kvs ∧ (∀ x : Str, (valV k0 (.inr x)).isSome = true → (valV kvs (.inr x)).isSome = true) ∧
              (∀ j t, j < i → ts1[j]? = some t → (valV k0 (.inr (kB t))).isSome = true → (valV kvs (.inr (kE t))).isSome = true))
            (fun H9 e9 => ⟨_, _, _, _, _, _, k0, rfl, R8.on e9, e9 _ _ hj8, e9 _ _ hk8, by omega, Kn0, fun x h => h, fun j t h => absurd h (Nat.not_lt_zero _)⟩)
            (fun i σ' H' _ ⟨_, _, _, _, _, _, _, _, _, hj, _⟩ => sq_of hj) ?_ ?_
          · rintro i x σ' H9 hi ⟨y8, y9, y10, y11, y12, y13, kvs, rfl, R9, hj9, hk9, hkl9, Kn9, hsub, hdone⟩
            have hil := (List.getElem?_eq_some_iff.mp hi).1
            obtain ⟨t, hti, hxt⟩ := dpa_get d3 hi
            have htm := List.mem_of_getElem? hti
            obtain ⟨b, e, l, g2, rfl, hbm, hem, hl1, hlg⟩ := task_in (htk t htm)
            have hsp : g2 - l ≤ 900 := hspan _ htm
            cases hxt with
            | tup hxs hxa =>
              cases hxa with
              | cons q1 hxa => cases hxa with
                | cons q2 hxa => cases hxa with
                  | cons q3 hxa => cases hxa with
                    | cons q4 hxa =>
                      cases hxa; cases q1; cases q2; cases q3; cases q4
                      refine goes_tup4 (ex_t R9.base hxs) _ _ (Ex.refl _) ?_
                      refine s_when (et_and (et_B (ev_din (k := .inr b) (ev_var rfl) (ev_var rfl) hk9 rfl)) fun _ => et_B (ev_dnin (k := .inr e) (ev_var rfl) (ev_var rfl) hk9 rfl)) (fun hb H10 e10 => ?_) fun hb H10 e10 => ?_
                      · rw [Bool.and_eq_true] at hb
                        obtain ⟨vb, hvb⟩ := Option.isSome_iff_exists.mp hb.1
                        obtain ⟨j, rfl, j0, _⟩ := Kn9.form _ _ hvb
                        have hve : valV kvs (.inr e) = none := by
                          cases q5 : valV kvs (.inr e) with
                          | none => rfl
                          | some _ => rw [q5] at hb; exact absurd hb.2 (by simp)
                        have hk10 := e10 _ _ hk9
                        refine ev_add (ev_dget (k := .inr b) (d := .none) (ev_var rfl) hk10 (ev_var rfl) hvb) (ev_var rfl) H10 (Ex.refl _) _ fun H11 e11 => ?_
                        refine st_dip (B := but H0 p) (b := g2 - l + 1) rfl (ev_add (ev_sub (ev_var rfl) (ev_var rfl)) ev_c) (by omega) (by omega) ((R9.on e10).on e11) (by unfold LIM; omega) fun r H12 r0 r1 R12 e12 => ?_
                        have hk12 := kept e12 (e11 _ _ hk10) hkp
                        have hj12 := kept e12 (e11 _ _ (e10 _ _ hj9)) hjp
                        have hKP := Kn.put (t := .tuple [.str b, .str e, .int l, .int g2]) pi (by rw [hes]; exact Kn9) htm (j := j) (r := r) hvb hve r0 (by show r ≤ g2 - l; omega)
                        rw [hes] at hKP
                        refine ⟨_, _, rfl, rfl, .ref kd, rfl, .str e, rfl, kd, _, rfl, DPut.k (k := .inr e) hk12 (sz_lt (by omega)), ?_⟩
                        refine ⟨_, _, _, _, _, _, putK kvs (.inr e) (.int (j + l + r)), rfl, ?_, ?_, upd_same, ?_, hKP, fun x hx => ?_, fun j2 t2 hj2 ht2 hb2 => ?_⟩
                        · exact (R12.upd hBk hkp).mono (by omega)
                        · rw [upd_ne hkj]; exact hj12
                        · have := length_putK kvs (.inr e) (.int (j + l + r))
                          omega
                        · rw [valV_put]
                          split
                          · rfl
                          · exact hsub x hx
                        · rw [valV_put]
                          split
                          · rfl
                          · rename_i hne
                            refine hdone j2 t2 ?_ ht2 hb2
                            by_cases hji : j2 = i
                            · subst hji
                              rw [hti] at ht2
                              cases ht2
                              exact absurd rfl hne
                            · omega
                      · refine ⟨_, _, _, _, _, _, kvs, rfl, (R9.on e10).mono (by omega), e10 _ _ hj9, e10 _ _ hk9, by omega, Kn9, hsub, fun j2 t2 hj2 ht2 hb2 => ?_⟩
                        by_cases hji : j2 = i
                        · subst hji
                          rw [hti] at ht2
                          cases ht2
                          have h1 : (valV kvs (.inr b)).isSome = true := hsub b hb2
                          rw [h1] at hb
                          show (valV kvs (.inr e)).isSome = true
                          simpa using hb
                        · exact hdone j2 t2 (by omega) ht2 hb2
          · rintro σ' H9 ⟨y8, y9, y10, y11, y12, y13, kvs, rfl, R9, hj9, hk9, hkl9, Kn9, hsub, hdone⟩
            refine ⟨_, _, _, _, _, _, kvs, rfl, R9.mono (by omega), hj9, hk9, by omega, Kn9, ?_⟩
            by_cases h0 : unk ts1 k0 = 0
            · have hle : unk ts1 kvs = 0 := by
                unfold unk
                have : (ts1.filter fun t => (valV kvs (.inr (kE t))).isNone) = [] := List.filter_eq_nil_iff.mpr fun t ht => by
                  have h1 := hsub _ (unk_none h0 t ht)
                  intro h2
                  cases q5 : valV kvs (.inr (kE t)) with
                  | none => rw [q5] at h1; cases h1
                  | some _ => rw [q5] at h2; cases h2
                rw [this]
                rfl
              omega
            · obtain ⟨t0, ht0, hn0⟩ := unk_some (Nat.pos_of_ne_zero h0)
              obtain ⟨t, ht, h1, h2⟩ := Kn0.next hkB (pi.root (kE t0)) (hkEm t0 ht0) hn0
              obtain ⟨j, hj, ej⟩ := List.getElem_of_mem ht
              have h3 := hdone j t (by omega) (by rw [List.getElem?_eq_getElem hj, ej]) h2
              have := unk_lt hsub ht h1 h3
              omega
        · -- return tuple(..)
          rintro σ' H8 ⟨x8, x9, x10, x11, x12, x13, kvs, rfl, R8, hj8, hk8, hkl8, Kn8, hunk⟩
          have hu0 : unk ts1 kvs = 0 := by omega
          have hrun := run_of pi (by rw [hes]; exact Kn8) hu0
          rw [hes] at hrun
          have eN : EvN K (tLc (iTup K (tVar 3)) (gName 8) tYes (tDGet (tVar 6) (tVar 8)) [8]) [some (.ref p), some (.ref a), some (.int (g : Int)), some (.ref u), some (.ref lj), none, some (.ref kd), some (.ref lE), x8, x9, x10, x11, x12, x13] H8 (es.map fun x => .int (momOf kvs x)) := by
            have em : (es.map fun x => PyData.int (momOf kvs x)) = (es.map PyData.str).map fun d => .int (momOf kvs (strOf d)) := by
              rw [List.map_map]
              rfl
            rw [em, ← givenD_map]
            refine en_lcT _ _ (ed_of (ev_var rfl) (Dp.tup (ex_t R8.base (sf_of ho)) (dpa_strs es))) (by rw [List.length_map]; omega) (fun _ _ => rfl) fun i x t H9 e9 ht hx => ?_
            rw [List.getElem?_map] at ht
            obtain ⟨y, hy, rfl⟩ := Option.map_eq_some_iff.mp ht
            cases hx
            refine ⟨_, ?_, goes_name, fun H1 e Q q => q H1 (Ex.refl H1), fun _ => ?_⟩
            · rfl
            rw [getD_of (show (es.map PyData.str)[i]? = some (.str y) by rw [List.getElem?_map, hy]; rfl)]
            have hys : (valV kvs (.inr y)).isSome = true := by
              by_cases he : y ∈ ts1.map kE
              · obtain ⟨t2, ht2, e2⟩ := List.mem_map.mp he
                rw [← e2]
                exact unk_none hu0 t2 ht2
              · exact Kn8.ours y (List.mem_of_getElem? hy) he
            obtain ⟨vv, hvv⟩ := Option.isSome_iff_exists.mp hys
            obtain ⟨m, rfl, _⟩ := Kn8.form _ _ hvv
            have hmo : momOf kvs (strOf (.str y)) = m := by
              show momOf kvs y = m
              unfold momOf
              rw [hvv]
            rw [hmo]
            exact ed_of (ev_dget (k := .inr y) (d := .none) (ev_var rfl) (e9 _ _ hk8) (ev_var rfl) hvv) (.int m)
          refine r_any (cb1 (eN H8 (Ex.refl _) _ fun lr xsr H9 hlr e9 hr9 dr9 => ?_))
          have R9 := R8.on e9
          refine ⟨lr, xsr, rfl, .inl ⟨sq_of hr9, fun b hb => ?_⟩⟩
          obtain ⟨hBb, hbp⟩ := R9.fresh hb
          have R10 := R9.upd (o := .tup xsr) hBb hbp
          have hnl : noLs (es.map fun x => PyData.int (momOf kvs x)) = true := noLs_of fun d hd => by
            obtain ⟨x, _, rfl⟩ := List.mem_map.mp hd
            rfl
          obtain ⟨x, y, z, hpp, _⟩ := R9.sk
          refine q b _ _ (.tup (st_of (by rw [but_ne hbp, upd_same])) (dpa_ex (but_mono (Ex.new hb)) (dpa_but hnl dr9 hpp))) hrun (by rw [List.length_map]; omega) R10.ex (R10.sk.mono (by omega))
end
end Vf
end
section
set_option Elab.async false
set_option linter.all false
set_option maxRecDepth 100000
set_option maxHeartbeats 8000000
namespace Vf
open PySem PySem.Spec PyProof.Rows L2 Evl
theorem spvW {K : PySem.W.Frag} {H : Hp} {v u : V} {d : PyData} {n : Int} {es bs ts ms : List PyData} {x : Str} (hX : PlanX K H v d) (p : PlanIs d n es bs ts) (hu : Dp K H u (.tuple ms)) (hm : ∀ m ∈ ms, isMom m = true) (hl : ms.length = es.length) (hx : x = "go" ∨ x ∈ es.map strOf) :
    SpV (spWorth K) [v, u, .str x] H (.int (momOf (momD es ms) x)) := fun H1 e Q q E => ⟨v, d, n, es, bs, ts, u, ms, x, rfl, planX_ex e hX, p, dp_ex e hu, hm, hl, hx, q⟩
abbrev spLost (K : PySem.W.Frag) : Sp := fun vs H Q _ => ∃ v d u ms, vs = [v, u] ∧ PlanX K H v d ∧ plOk d ∧ isPlan d = true ∧ Dp K H u (.tuple ms) ∧ ms.length ≤ 30000 ∧ isRun d (.tuple ms) = true ∧ RetN K (brokenD d (.tuple ms)) H Q
theorem filter_take {α : Type} (f : α → Bool) {l : List α} {i : Nat} {x : α} (h : l[i]? = some x) : (l.take (i + 1)).filter f = (l.take i).filter f ++ (if f x = true then [x] else []) := by
  rw [List.take_add_one, h, List.filter_append]
  show _ ++ List.filter f [x] = _
  rw [List.filter_cons]
  rfl
theorem place_in {es : List Str} {x : Str} (h : isPlace es (.str x) = true) : x = "go" ∨ x ∈ es := by
  have h' : (decide (x = "go") || decide (x ∈ es)) = true := h
  rw [Bool.or_eq_true, decide_eq_true_eq, decide_eq_true_eq] at h'
  exact h'
section
variable {P : Program} {w : World} {K : PySem.W.Frag} {mg : Str → Option Value} {base : Heap} {tg : Tok} {f : Addr} {fd : FuncData}
abbrev s_law_lost : Stmt := topS 34
theorem sc_law_lost : FnScope ["plan_here", "run_here", "found", "left", "right", "top", "k"] ["plan_here", "run_here"] (defScope s_law_lost) := ⟨rfl, rfl, rfl, by decide +kernel, rfl, by decide +kernel, by decide +kernel⟩
theorem ok_law_lost (F : Fun K "_law_lost" "_law_lost" s_law_lost f fd) (T : Txt mg tg) (C_law_worth : Cal P w K mg base 1 "_law_worth" ["plan_here", "moments_here", "point"] (spWorth K)) : FnOk P w K mg base CX0 2 f fd ["plan_here", "run_here"] (spLost K) := by
  refine F.ok sc_law_lost (fun vs H Q E h => ?_) (fun cdv A outer s H vs Q E hr h => ?_)
  · obtain ⟨v, d, u, ms, rfl, _⟩ := h
    rfl
  · obtain ⟨v, d, u, ms, rfl, hX, hpl, hP, hu, hmz, hR, q⟩ := h
    refine ⟨_, (pss_cons (ps_set (i := 2) sc_law_lost.nd rfl (Or.inl rfl) (pe_lst pa_nil)) (pss_cons (ps_for PassesOwn.never rfl (pi_tupK (K := K) rfl (pe_ix (ix_tupK (K := K) rfl) (pv 0) pe_int (fun _ _ => rfl))) (pg_tupK (K := K) (n := 3) rfl rfl (pgs_cons (pg_name (i := 3) sc_law_lost.nd rfl (Or.inl rfl)) (pgs_cons (pg_name (i := 4) sc_law_lost.nd rfl (Or.inl rfl)) (pgs_cons (pg_name (i := 5) sc_law_lost.nd rfl (Or.inl rfl)) pgs_nil)))) (pss_one (ps_if (pt_cmpR op_gt (pe_op op_sub (pe_cal C_law_worth (by first | exact hr | exact hr.mono (by decide)) (by rfl) (pa_cons (pv 0) (pa_cons (pv 1) (pa_cons (pv 4) pa_nil)))) (pe_cal C_law_worth (by first | exact hr | exact hr.mono (by decide)) (by rfl) (pa_cons (pv 0) (pa_cons (pv 1) (pa_cons (pv 3) pa_nil))))) (pv 5) (nomark _)) (pss_one (ps_expr (pe_bm PySem.F.plainAttrs_list PySem.F.slot_list_append PySem.F.type_list_append mt_append (pv 2) (pa_cons (pe_tup (pa_cons (pv 3) (pa_cons (pv 4) (pa_cons (pv 5) pa_nil)))) pa_nil)))) pss_nil))) (pss_cons (ps_for PassesOwn.never rfl (pi_range1 rfl T.range (pa_cons (pe_callB (call_len_seqK (K := K) rfl) (by rfl) T.len (by decide +kernel) (pa_cons (pv 1) pa_nil)) pa_nil)) (pg_name (i := 6) sc_law_lost.nd rfl (Or.inl rfl)) (pss_one (ps_if (pt_cmpR op_gt (pe_ix (ix_tupK (K := K) rfl) (pv 1) (pv 6) (fun _ _ => rfl)) (pe_ix (ix_tupK (K := K) rfl) (pv 0) pe_int (fun _ _ => rfl)) (nomark _)) (pss_one (ps_expr (pe_bm PySem.F.plainAttrs_list PySem.F.slot_list_append PySem.F.type_list_append mt_append (pv 2) (pa_cons (pe_tup (pa_cons pe_str (pa_cons (pe_ix (ix_tupK (K := K) rfl) (pe_ix (ix_tupK (K := K) rfl) (pv 0) pe_int (fun _ _ => rfl)) (pv 6) (fun _ _ => rfl)) (pa_cons (pe_ix (ix_tupK (K := K) rfl) (pv 0) pe_int (fun _ _ => rfl)) pa_nil)))) pa_nil)))) pss_nil))) (pss_one (ps_ret (pv 2)))))), ?_⟩
    obtain ⟨n, es, bs, ts, p⟩ := plan_is hP hpl
    have hdp := planX_dp hX
    have ef := p.form
    have hR' : (decide ((ms.length : Int) = (es.length : Int)) && (ms.all isMom && ts.all (timeOk (momD es ms)))) = true := by rw [ef] at hR; exact hR
    simp only [Bool.and_eq_true, decide_eq_true_eq] at hR'
    obtain ⟨hle, hma, _⟩ := hR'
    have hl : ms.length = es.length := by omega
    have hm := mom_all hma
    have eB : brokenD d (.tuple ms) = bs.filter (fails (momD es ms)) ++ (es.filter (behind (momD es ms) n)).map fun e => .tuple [.str "go", e, .int n] := by rw [ef]; rfl
    rw [eB] at q
    have hd0 : Dp K H v (.tuple [.int n, .tuple es, .tuple bs, .tuple ts]) := by rw [← ef]; exact hdp
    obtain ⟨a, w1, w2, w3, rfl, hs, h1, h2, h3⟩ := plan_at hdp p
    cases h2 with
    | @tup b2 xb _ hxb hdb =>
      -- found = []
      refine ⟨Nat.zero_le _, fun lf hlf => ?_⟩
      have e0 : Ex H (upd H lf (.lst [])) := Ex.new hlf
      refine q_forT (a := b2) (xs := xb) (ev_op (z := .ref b2) (ev_var rfl) ev_c (rv_ixT (ex_t e0 hs) rfl)) (ex_t e0 hxb) (fun i σ' H' => ∃ x3 x4 x5 fs, σ' = [some (.ref a), some u, some (.ref lf), x3, x4, x5, none] ∧ Ex H H' ∧ H' lf = some (.lst fs) ∧ DpAll K (but H' lf) fs ((bs.take i).filter (fails (momD es ms))))
        (fun H1 e1 => ⟨none, none, none, [], rfl, e0.trans e1, e1 _ _ upd_same, .nil⟩) (fun i σ' H' _ ⟨_, _, _, _, _, e, _⟩ => ex_t e hxb) ?_ ?_
      · rintro i x σ' H1 hi ⟨x3, x4, x5, fs, rfl, e1, hF, hD⟩
        obtain ⟨t, ht, hxt⟩ := dpa_get hdb hi
        have hb := p.bnd t (List.mem_of_getElem? ht)
        obtain ⟨x, y, m, rfl⟩ := isBound_form hb
        have hb' : (isPlace (es.map strOf) (.str x) && (isPlace (es.map strOf) (.str y) && (neS (.str x) (.str y) && isInt (.int m)))) = true := hb
        simp only [Bool.and_eq_true] at hb'
        cases hxt with
        | tup hxs hxa =>
          cases hxa with
          | cons q1 hxa => cases hxa with
            | cons q2 hxa => cases hxa with
              | cons q3 hxa =>
                cases hxa; cases q1; cases q2; cases q3
                refine goes_tup3 (ex_t e1 hxs) _ _ (Ex.refl _) ?_
                have hX1 := planX_ex e1 hX
                have hu1 := dp_ex e1 hu
                refine s_when (et_test (ev_op (ev_sub (ev_call (ea_cons (ev_var rfl) (ea_cons (ev_var rfl) (ea_cons (ev_var rfl) ea_nil))) (spvW hX1 p hu1 hm hl (place_in hb'.2.1))) (ev_call (ea_cons (ev_var rfl) (ea_cons (ev_var rfl) (ea_cons (ev_var rfl) ea_nil))) (spvW hX1 p hu1 hm hl (place_in hb'.1)))) (ev_var rfl) rv_I0)) (fun hb H2 e2 => ?_) fun hb H2 e2 => ⟨_, _, _, fs, rfl, e1.trans e2, e2 _ _ hF, ?_⟩
                · have hF2 := e2 _ _ hF
                  refine ⟨.ref lf, rfl, Or.inl ⟨rfl, fs, sq_of hF2⟩, .str x, rfl, .str y, rfl, .int m, rfl, by show 3 ≤ sizeLine; decide, fun t ht2 => ?_⟩
                  have htf : t ≠ lf := (ne_of_none hF2 ht2).symm
                  have hfl := dpa_len hD
                  have hlen1 := List.length_filter_le (fails (momD es ms)) (bs.take i)
                  rw [List.length_take] at hlen1
                  have hbz := p.bsz
                  refine ⟨lf, fs, .ref t, rfl, rfl, by rw [upd_ne htf.symm]; exact hF2, sz_lt (by omega), _, _, _, fs ++ [.ref t], rfl, Ex.mut ((e1.trans e2).trans (Ex.new ht2)) hlf, upd_same, ?_⟩
                  rw [filter_take _ ht, if_pos (show fails (momD es ms) (.tuple [.str x, .str y, .int m]) = true from hb), but_put]
                  refine dpa_snoc (dpa_ex ((but_mono e2).trans (but_mono (Ex.new ht2))) hD) (.tup (st_of (by rw [but_ne htf, upd_same])) (.cons (.str x) (.cons (.str y) (.cons (.int m) .nil))))
                · rw [filter_take _ ht, if_neg (by rw [show fails (momD es ms) (.tuple [.str x, .str y, .int m]) = false from hb]; decide), List.append_nil]
                  exact dpa_ex (but_mono e2) hD
      · rintro σ' H1 ⟨x3, x4, x5, fs, rfl, e1, hF, hD⟩
        have hbl := dpa_len hdb
        rw [hbl, List.take_length] at hD
        cases hu with
        | @tup c ys _ hy ay =>
          cases h1 with
          | @tup b1 xe _ hxe hde =>
            -- for k in range(len(run_here))
            refine q_forR1 (n := (ms.length : Int)) (ea_cons (ev_is (ev_lenT (ev_var rfl) (ex_t e1 hy)) (by rw [dpa_len ay])) ea_nil) (by omega) (fun i σ' H' => ∃ x3 x4 x5 x6 fs, σ' = [some (.ref a), some (.ref c), some (.ref lf), x3, x4, x5, x6] ∧ Ex H H' ∧ H' lf = some (.lst fs) ∧
                DpAll K (but H' lf) fs (bs.filter (fails (momD es ms)) ++ ((es.take i).filter (behind (momD es ms) n)).map fun e => .tuple [.str "go", e, .int n]))
              (fun H2 e2 => ⟨x3, x4, x5, none, fs, rfl, e1.trans e2, e2 _ _ hF, by rw [List.take_zero]; show DpAll K _ fs (_ ++ []); rw [List.append_nil]; exact dpa_ex (but_mono e2) hD⟩) ?_ ?_
            · rintro i σ' H2 hi ⟨x3, x4, x5, x6, fs, rfl, e2, hF, hD⟩
              have him : i < ms.length := by omega
              have hie : i < es.length := by omega
              obtain ⟨k, hk, k0⟩ := mom_int (hm _ (List.getElem_mem him))
              have hmk : ms[i]? = some (.int k) := by rw [List.getElem?_eq_getElem him, hk]
              obtain ⟨v1, hv1, hv2⟩ := dpa_at ay hmk
              cases hv2
              obtain ⟨z, hz⟩ := isName_str (p.nam _ (List.getElem_mem hie))
              have hez : es[i]? = some (.str z) := by rw [List.getElem?_eq_getElem hie, hz]
              obtain ⟨v2, hv3, hv4⟩ := dpa_at hde hez
              cases hv4
              have hmo := momOf_at (ms := ms) p hie hmk
              rw [getD_of hez] at hmo
              have hmo' : momOf (momD es ms) z = k := hmo
              refine s_when (b := decide (n < k)) (et_test (ev_op (ev_op (z := .int k) (ev_var rfl) (ev_var rfl) (rv_ixT (ex_t e2 hy) (atI_nat hv1))) (ev_op (z := .int n) (ev_var rfl) ev_c (rv_ixT (ex_t e2 hs) rfl)) rv_I0)) (fun hb H3 e3 => ?_) fun hb H3 e3 => ⟨_, _, _, _, fs, rfl, e2.trans e3, e3 _ _ hF, ?_⟩
              · have hF3 := e3 _ _ hF
                have e4 := e2.trans e3
                refine ⟨.ref lf, rfl, Or.inl ⟨rfl, fs, sq_of hF3⟩, ?_⟩
                refine (ev_op (z := .str z) (ev_op (z := .ref b1) (ev_var rfl) ev_c (rv_ixT (ex_t e4 hs) rfl)) (ev_var rfl) (rv_ixT (ex_t e4 hxe) (atI_nat hv3))) H3 (Ex.refl _) _ fun H4 e5 => ?_
                refine (ev_op (z := .int n) (ev_var rfl) ev_c (rv_ixT (ex_t (e4.trans e5) hs) rfl)) H4 (Ex.refl _) _ fun H5 e6 => ?_
                refine ⟨by show 3 ≤ sizeLine; decide, fun t ht2 => ?_⟩
                have hF5 := e6 _ _ (e5 _ _ hF3)
                have htf : t ≠ lf := (ne_of_none hF5 ht2).symm
                have hfl := dpa_len hD
                rw [List.length_append, List.length_map] at hfl
                have hlen1 := List.length_filter_le (fails (momD es ms)) bs
                have hlen2 := List.length_filter_le (behind (momD es ms) n) (es.take i)
                rw [List.length_take] at hlen2
                have hbz := p.bsz
                have hez2 := p.esz
                refine ⟨lf, fs, .ref t, rfl, rfl, by rw [upd_ne htf.symm]; exact hF5, sz_lt (by omega), _, _, _, _, fs ++ [.ref t], rfl, Ex.mut (((e4.trans e5).trans e6).trans (Ex.new ht2)) hlf, upd_same, ?_⟩
                have hbe : behind (momD es ms) n (.str z) = true := by
                  show decide (n < momOf (momD es ms) z) = true
                  rw [hmo']
                  exact hb
                rw [filter_take _ hez, if_pos hbe, List.map_append, ← List.append_assoc, but_put]
                exact dpa_snoc (dpa_ex ((but_mono ((e3.trans e5).trans e6)).trans (but_mono (Ex.new ht2))) hD) (.tup (st_of (by rw [but_ne htf, upd_same])) (.cons (.str "go") (.cons (.str z) (.cons (.int n) .nil))))
              · have hbe : behind (momD es ms) n (.str z) = false := by
                  show decide (n < momOf (momD es ms) z) = false
                  rw [hmo']
                  exact hb
                rw [filter_take _ hez, if_neg (by rw [hbe]; decide), List.append_nil]
                exact dpa_ex (but_mono e3) hD
            · rintro σ' H2 ⟨x3, x4, x5, x6, fs, rfl, e2, hF, hD⟩
              have hte : es.take (ms.length : Int).toNat = es := List.take_of_length_le (by omega)
              rw [hte] at hD
              exact s_ret (ev_var rfl) fun H3 e3 => q lf fs H3 hlf (e2.trans e3) (e3 _ _ hF) (dpa_ex ((but_ex _ _).trans e3) hD)
end
end Vf
end
section
set_option Elab.async false
set_option linter.all false
set_option maxRecDepth 100000
set_option maxHeartbeats 8000000
namespace Vf
open PySem PySem.Spec PyProof.Rows L2 Evl
mutual
/-- data without truth values, no list too long -/
def twOk : PyData → Bool
  | .bool _ => false
  | .dict _ => false
  | .list xs => decide (xs.length ≤ 30000) && twAll xs
  | .tuple xs => decide (xs.length ≤ 30000) && twAll xs
  | _ => true
def twAll : List PyData → Bool
  | [] => true
  | x :: xs => twOk x && twAll xs
end
theorem twAll_mem : ∀ {xs : List PyData}, twAll xs = true → ∀ x ∈ xs, twOk x = true
  | [], _, x, h => by cases h
  | y :: r, h, x, hx => by
    have h' : (twOk y && twAll r) = true := h
    rw [Bool.and_eq_true] at h'
    cases hx with
    | head => exact h'.1
    | tail _ hx => exact twAll_mem h'.2 x hx
theorem twAll_of : ∀ {xs : List PyData}, (∀ x ∈ xs, twOk x = true) → twAll xs = true
  | [], _ => rfl
  | y :: r, h => by
    show (twOk y && twAll r) = true
    rw [h y List.mem_cons_self, twAll_of fun x hx => h x (List.mem_cons_of_mem _ hx)]
    rfl
theorem depth_mem : ∀ {xs : List PyData} {x : PyData}, x ∈ xs → x.depth ≤ PyData.depthAll xs
  | [], _, h => by cases h
  | y :: r, x, h => by
    rw [PyData.depthAll]
    cases h with
    | head => exact Nat.le_max_left _ _
    | tail _ h => exact Nat.le_trans (depth_mem h) (Nat.le_max_right _ _)
abbrev spTwin (K : PySem.W.Frag) (m : Nat) : Sp := fun vs H Q _ => ∃ v u a, vs = [v, u] ∧ Dp K H v a ∧ Dp K H u a ∧ twOk a = true ∧ a.depth < m ∧ RetV (.bl true) H Q
theorem spvT {K : PySem.W.Frag} {H : Hp} {v u : V} {a : PyData} {m : Nat} (h1 : Dp K H v a) (h2 : Dp K H u a) (h3 : twOk a = true) (h4 : a.depth < m) : SpV (spTwin K m) [v, u] H (.bl true) := fun H1 e Q q E => ⟨v, u, a, rfl, dp_ex e h1, dp_ex e h2, h3, h4, q⟩
/-- isinstance(x, (list, tuple)) -/
theorem kit_lt {K : PySem.W.Frag} {d : PyData} : PySem.W.kitAny K (.type (tyN d)) [.type "list", .type "tuple"] = some (isT "list" d || isT "tuple" d) := by
  have h1 := kit_ty (K := K) (kit_isT (n := "list") (d := d) okT_list)
  have h2 := kit_ty (K := K) (kit_isT (n := "tuple") (d := d) okT_tuple)
  refine kitAny_cons h1 (fun hb => ?_) (fun hb => by rw [hb]; rfl)
  rw [hb, Bool.false_or]
  refine kitAny_cons h2 (fun hb2 => ?_) (fun hb2 => hb2)
  rw [hb2]
  rfl
theorem ev_isi2 {K : PySem.W.Frag} {σ : L2.St} {H : Hp} {te : TE} {v : V} {d : PyData} (hv : Ev te σ H v) (h : Dp K H v d) : Ev (tCB (rIsiT K) (tCons te (tCons (tTup (tCons (tC (.ty "list")) (tCons (tC (.ty "tuple")) tNil))) tNil))) σ H (.bl (isT "list" d || isT "tuple" d)) := fun H1 e Q q =>
  hv H1 e _ fun H2 e2 => ⟨by show 2 ≤ sizeLine; decide, fun p hp => ⟨v, p, [.ty "list", .ty "tuple"], .type (tyN d), [.type "list", .type "tuple"], _, rfl, upd_same, .cons (.ty _) (.cons (.ty _) .nil), ty_dp (dp_ex ((e.trans e2).trans (Ex.new hp)) h), kit_lt, q _ (e2.trans (Ex.new hp))⟩⟩
theorem rv_neB {H : Hp} {a b : Bool} : RV rNe (.bl a) (.bl b) H (.bl (!decide (a = b))) := fun H1 _ Q q => ⟨rfl, by
  have e : decide (V.bl a = V.bl b) = decide (a = b) := by
    by_cases h : a = b
    · subst h; simp
    · rw [decide_eq_false h]; exact decide_eq_false fun z => h (V.bl.inj z)
  rw [e]
  exact q H1 (Ex.refl H1)⟩
theorem rv_eqB {H : Hp} {a b : Bool} : RV rEq (.bl a) (.bl b) H (.bl (decide (a = b))) := fun H1 _ Q q => ⟨rfl, by
  have e : decide (V.bl a = V.bl b) = decide (a = b) := by
    by_cases h : a = b
    · subst h; simp
    · rw [decide_eq_false h]; exact decide_eq_false fun z => h (V.bl.inj z)
  rw [e]
  exact q H1 (Ex.refl H1)⟩
/-- isinstance(x, T) != isinstance(y, T) of equal data -/
theorem ev_same {K : PySem.W.Frag} {σ : L2.St} {H : Hp} {ta tb : TE} {v u : V} {d : PyData} {n : String} (ok : okT n = true) (ha : Ev ta σ H v) (hb : Ev tb σ H u) (h1 : Dp K H v d) (h2 : Dp K H u d) : Ev (tOp rNe (tCB (rIsi K) (tCons ta (tCons (tC (.ty n)) tNil))) (tCB (rIsi K) (tCons tb (tCons (tC (.ty n)) tNil)))) σ H (.bl false) :=
  ev_is (ev_op (ev_isi ok ha h1) (ev_isi ok hb h2) rv_neB) (by simp)
theorem givenD_none (n : Nat) (w : Nat → PyData) : givenD n (fun _ => false) w = [] := by
  unfold givenD
  rw [List.filter_eq_nil_iff.mpr (fun _ _ => by decide)]
  rfl
theorem noT {d : PyData} (h : twOk d = true) : isT "bool" d = false := by
  rw [isT_bool]
  cases d <;> first | rfl | cases h
section
variable {P : Program} {w : World} {K : PySem.W.Frag} {mg : Str → Option Value} {base : Heap} {tg : Tok} {f : Addr} {fd : FuncData}
abbrev s_law_twin : Stmt := topS 27
theorem sc_law_twin : FnScope ["found", "due", "k"] ["found", "due"] (defScope s_law_twin) := ⟨rfl, rfl, rfl, by decide +kernel, rfl, by decide +kernel, by decide +kernel⟩
theorem ok_law_twin (F : Fun K "_law_twin" "_law_twin" s_law_twin f fd) (T : Txt mg tg) (hg : mg "_law_twin" = some (.ref f)) (hb : Binds K fd ["found", "due"] []) : ∀ m, FnOk P w K mg base CX0 m f fd ["found", "due"] (spTwin K m)
  | 0 => ⟨fun vs H Q E h => by
      obtain ⟨_, _, _, _, _, _, _, h, _⟩ := h
      exact absurd h (Nat.not_lt_zero _), fun A outer s H args us vs Q E _ _ _ _ h => by
      obtain ⟨_, _, _, _, _, _, _, h, _⟩ := h
      exact absurd h (Nat.not_lt_zero _)⟩
  | m + 1 => by
    have C_law_twin : Cal P w K mg base m "_law_twin" ["found", "due"] (spTwin K m) := ⟨⟨f, fd, ok_law_twin F T hg hb m, hg, F.kp, hb⟩⟩
    refine F.ok sc_law_twin (fun vs H Q E h => ?_) (fun cdv A outer s H vs Q E hr h => ?_)
    · obtain ⟨v, u, a, rfl, _⟩ := h
      rfl
    · obtain ⟨v, u, a, rfl, hv, hu, hok, hdp, q⟩ := h
      refine ⟨_, (pss_cons (ps_if (PW.pt (pw_or (pt_val (pe_callB (call_isiK' (K := K) rfl) (by rfl) T.isinstance (by decide +kernel) (pa_cons (pv 0) (pa_cons (pe_bltn (v := .ty "bool") (u := .type "bool") (by rfl) T.bool (by decide +kernel) rfl) pa_nil)))) (pw_or1 (pt_val (pe_callB (call_isiK' (K := K) rfl) (by rfl) T.isinstance (by decide +kernel) (pa_cons (pv 1) (pa_cons (pe_bltn (v := .ty "bool") (u := .type "bool") (by rfl) T.bool (by decide +kernel) rfl) pa_nil))))))) (pss_one (ps_ret (pe_and (pe_callB (call_isiK' (K := K) rfl) (by rfl) T.isinstance (by decide +kernel) (pa_cons (pv 0) (pa_cons (pe_bltn (v := .ty "bool") (u := .type "bool") (by rfl) T.bool (by decide +kernel) rfl) pa_nil))) (pe_and (pe_callB (call_isiK' (K := K) rfl) (by rfl) T.isinstance (by decide +kernel) (pa_cons (pv 1) (pa_cons (pe_bltn (v := .ty "bool") (u := .type "bool") (by rfl) T.bool (by decide +kernel) rfl) pa_nil))) (pe_one (pe_cmpR op_eq (pv 0) (pv 1) (nomark _))))))) pss_nil) (pss_cons (ps_if (PW.pt (pw_or (pt_cmpR op_ne (pe_callB (call_isiK' (K := K) rfl) (by rfl) T.isinstance (by decide +kernel) (pa_cons (pv 0) (pa_cons (pe_bltn (v := .ty "list") (u := .type "list") (by rfl) T.list (by decide +kernel) rfl) pa_nil))) (pe_callB (call_isiK' (K := K) rfl) (by rfl) T.isinstance (by decide +kernel) (pa_cons (pv 1) (pa_cons (pe_bltn (v := .ty "list") (u := .type "list") (by rfl) T.list (by decide +kernel) rfl) pa_nil))) (nomark _)) (pw_or1 (pt_cmpR op_ne (pe_callB (call_isiK' (K := K) rfl) (by rfl) T.isinstance (by decide +kernel) (pa_cons (pv 0) (pa_cons (pe_bltn (v := .ty "tuple") (u := .type "tuple") (by rfl) T.tuple (by decide +kernel) rfl) pa_nil))) (pe_callB (call_isiK' (K := K) rfl) (by rfl) T.isinstance (by decide +kernel) (pa_cons (pv 1) (pa_cons (pe_bltn (v := .ty "tuple") (u := .type "tuple") (by rfl) T.tuple (by decide +kernel) rfl) pa_nil))) (nomark _))))) (pss_one (ps_ret pe_bl)) pss_nil) (pss_cons (ps_if (PW.pt (pw_or (pt_cmpR op_ne (pe_callB (call_isiK' (K := K) rfl) (by rfl) T.isinstance (by decide +kernel) (pa_cons (pv 0) (pa_cons (pe_bltn (v := .ty "str") (u := .type "str") (by rfl) T.str (by decide +kernel) rfl) pa_nil))) (pe_callB (call_isiK' (K := K) rfl) (by rfl) T.isinstance (by decide +kernel) (pa_cons (pv 1) (pa_cons (pe_bltn (v := .ty "str") (u := .type "str") (by rfl) T.str (by decide +kernel) rfl) pa_nil))) (nomark _)) (pw_or1 (pt_cmpR op_ne (pe_callB (call_isiK' (K := K) rfl) (by rfl) T.isinstance (by decide +kernel) (pa_cons (pv 0) (pa_cons (pe_bltn (v := .ty "int") (u := .type "int") (by rfl) T.int (by decide +kernel) rfl) pa_nil))) (pe_callB (call_isiK' (K := K) rfl) (by rfl) T.isinstance (by decide +kernel) (pa_cons (pv 1) (pa_cons (pe_bltn (v := .ty "int") (u := .type "int") (by rfl) T.int (by decide +kernel) rfl) pa_nil))) (nomark _))))) (pss_one (ps_ret pe_bl)) pss_nil) (pss_cons (ps_if (pt_val (pe_callB (call_isiTK (K := K) rfl) (by rfl) T.isinstance (by decide +kernel) (pa_cons (pv 1) (pa_cons (pe_tup (pa_cons (pe_bltn (v := .ty "list") (u := .type "list") (by rfl) T.list (by decide +kernel) rfl) (pa_cons (pe_bltn (v := .ty "tuple") (u := .type "tuple") (by rfl) T.tuple (by decide +kernel) rfl) pa_nil))) pa_nil)))) (pss_cons (ps_if (pt_cmpR op_ne (pe_callB (call_len_seqK (K := K) rfl) (by rfl) T.len (by decide +kernel) (pa_cons (pv 0) pa_nil)) (pe_callB (call_len_seqK (K := K) rfl) (by rfl) T.len (by decide +kernel) (pa_cons (pv 1) pa_nil)) (nomark _)) (pss_one (ps_ret pe_bl)) pss_nil) (pss_one (ps_ret (pe_cmpR (op_eqDK (K := K) rfl (hu64 hr)) (pe_lc (own := [("k", 2)]) rfl sc_law_twin.nd (pi_range1 rfl T.range (pa_cons (pe_callB (call_len_seqK (K := K) rfl) (by rfl) T.len (by decide +kernel) (pa_cons (pv 1) pa_nil)) pa_nil)) (blkOk_by (own := [("k", 2)]) (N := ["found", "due", "k"]) (sc := defScope s_law_twin) (by decide +kernel)) (fun _ _ _ _ _ => (pg_name (i := 2) sc_law_twin.nd rfl (Or.inl rfl))) (fun _ _ _ _ _ => (pts_one (pt_not (pt_val (pe_cal C_law_twin (by first | exact hr | exact hr.mono (by decide)) (by rfl) (pa_cons (pe_ix (ix_seqK (K := K) rfl) (pv 0) (pv 2) (fun _ _ => rfl)) (pa_cons (pe_ix (ix_seqK (K := K) rfl) (pv 1) (pv 2) (fun _ _ => rfl)) pa_nil))))))) (fun _ _ _ _ _ => (pv 2))) (pe_lst pa_nil) (nomark _))))) pss_nil) (pss_one (ps_ret (pe_and (pe_cmpR op_eq (pe_cmpR op_isN (pv 0) pe_non (nomark _)) (pe_cmpR op_isN (pv 1) pe_non (nomark _)) (nomark _)) (pe_one (pe_cmpR op_eq (pv 0) (pv 1) (nomark _)))))))))), ?_⟩
      have nb := noT hok
      refine q_when (b := false) (et_is (et_or (et_B (ev_isi okT_bool (ev_var rfl) hv)) fun _ => et_B (ev_isi okT_bool (ev_var rfl) hu)) (by rw [nb]; rfl)) (fun h => nomatch h) fun _ H1 e1 => ?_
      have hv1 := dp_ex e1 hv
      have hu1 := dp_ex e1 hu
      refine q_when (b := false) (et_is (et_or (et_test (ev_same okT_list (ev_var rfl) (ev_var rfl) hv1 hu1)) fun _ => et_test (ev_same okT_tuple (ev_var rfl) (ev_var rfl) hv1 hu1)) rfl) (fun h => nomatch h) fun _ H2 e2 => ?_
      have hv2 := dp_ex e2 hv1
      have hu2 := dp_ex e2 hu1
      refine q_when (b := false) (et_is (et_or (et_test (ev_same okT_str (ev_var rfl) (ev_var rfl) hv2 hu2)) fun _ => et_test (ev_same okT_int (ev_var rfl) (ev_var rfl) hv2 hu2)) rfl) (fun h => nomatch h) fun _ H3 e3 => ?_
      have hv3 := dp_ex e3 hv2
      have hu3 := dp_ex e3 hu2
      have e03 := (e1.trans e2).trans e3
      have hseq : ∀ (b : Bool) (xs : List PyData), a = seqD b xs → xs.length ≤ 30000 → (∀ x ∈ xs, twOk x = true ∧ x.depth < m) → ∀ H4, Ex H3 H4 → tSeq (tIfS (tTest (tOp rNe (tCB (rLenS K) (tCons (tVar 0) tNil)) (tCB (rLenS K) (tCons (tVar 1) tNil)))) (tRet (tC (.bl false))) tNext)
          (tRet (tOp (rEqD K) (tLc (iRng1 (tCons (tCB (rLenS K) (tCons (tVar 1) tNil)) tNil)) (gName 2) (tNot (tB (tCall (spTwin K m) [] E0 (tCons (tOp (rIx K) (tVar 0) (tVar 2)) (tCons (tOp (rIx K) (tVar 1) (tVar 2)) tNil))))) (tVar 2) [2]) (tLst tNil))) { nx := fun x H' => Q V.non H', rt := Q } [some v, some u, none] H4 := by
        intro b xs ea hz hall H4 e4
        subst ea
        have hv4 := dp_ex e4 hv3
        have hu4 := dp_ex e4 hu3
        refine q_when (b := false) (et_is (et_test (ev_opD (K := K) (ed_of (ev_lenSeq (ed_of (ev_var rfl) hv4)) (.int _)) (ed_of (ev_lenSeq (ed_of (ev_var rfl) hu4)) (.int _)) rd_neI)) (by simp)) (fun h => nomatch h) fun _ H5 e5 => ?_
        have hv5 := dp_ex e5 hv4
        have hu5 := dp_ex e5 hu4
        have key : EvD K (tLc (iRng1 (tCons (tCB (rLenS K) (tCons (tVar 1) tNil)) tNil)) (gName 2) (tNot (tB (tCall (spTwin K m) [] E0 (tCons (tOp (rIx K) (tVar 0) (tVar 2)) (tCons (tOp (rIx K) (tVar 1) (tVar 2)) tNil))))) (tVar 2) [2]) [some v, some u, none] H5 (.list []) := by
          have hn := givenD_none xs.length fun i => .int (i : Int)
          rw [← hn]
          refine ed_n (en_lcR xs.length (fun _ => false) _ (ea_cons (ev_lenSeq (ed_of (ev_var rfl) hu5)) ea_nil) (by omega) (by omega) (fun _ _ => rfl) fun i H6 e6 hi => ?_)
          refine ⟨_, ?_, goes_name, ?_, fun h => nomatch h⟩
          · rfl
          · have g1 : xs[i]? = some (xs.getD i .none) := by simp [List.getD, hi]
            obtain ⟨o1, o2⟩ := hall _ (List.mem_of_getElem? g1)
            refine et_is (et_not (a := true) (et_B (ev_callD (K := K) (eds_cons (ed_ixS i (ed_of (ev_var rfl) (dp_ex e6 hv5)) (ev_var rfl) rfl g1) (eds_cons (ed_ixS i (ed_of (ev_var rfl) (dp_ex e6 hu5)) (ev_var rfl) rfl g1) eds_nil)) fun H7 vs e7 hvs => ?_))) rfl
            cases hvs with
            | cons q1 hvs => cases hvs with
              | cons q2 hvs =>
                cases hvs
                exact spvT q1 q2 o1 o2
        refine s_ret (ev_is (ev_opD key (ed_n (en_lst eds_nil (by decide))) (rd_eqD rfl rfl)) rfl) fun H6 e6 => q H6 (((e03.trans e4).trans e5).trans e6)
      cases a with
      | bool _ => cases hok
      | dict _ => cases hok
      | list xs =>
        have hok' : (decide (xs.length ≤ 30000) && twAll xs) = true := hok
        rw [Bool.and_eq_true, decide_eq_true_eq] at hok'
        refine q_when (b := true) (et_is (et_B (ev_isi2 (ev_var rfl) hu3)) (by rw [isT_list]; rfl)) (fun _ H4 e4 => hseq true xs rfl hok'.1 (fun x hx => ⟨twAll_mem hok'.2 x hx, ?_⟩) H4 e4) fun h => nomatch h
        have h1 := depth_mem hx
        rw [PyData.depth] at hdp
        omega
      | tuple xs =>
        have hok' : (decide (xs.length ≤ 30000) && twAll xs) = true := hok
        rw [Bool.and_eq_true, decide_eq_true_eq] at hok'
        refine q_when (b := true) (et_is (et_B (ev_isi2 (ev_var rfl) hu3)) (by rw [isT_tuple, Bool.or_true])) (fun _ H4 e4 => hseq false xs rfl hok'.1 (fun x hx => ⟨twAll_mem hok'.2 x hx, ?_⟩) H4 e4) fun h => nomatch h
        have h1 := depth_mem hx
        rw [PyData.depth] at hdp
        omega
      | none =>
        cases hv3
        cases hu3
        refine q_when (b := false) (et_is (et_B (ev_isi2 (K := K) (ev_var rfl) .non)) (by rw [isT_list, isT_tuple]; rfl)) (fun h => nomatch h) fun _ H4 e4 => ?_
        refine s_ret (ev_is (ev_andV (a := true) (b := true) (ev_is (ev_op (ev_op (ev_var rfl) ev_c fun H5 _ Q5 q5 => ⟨rfl, q5 H5 (Ex.refl H5)⟩) (ev_op (ev_var rfl) ev_c fun H5 _ Q5 q5 => ⟨rfl, q5 H5 (Ex.refl H5)⟩) rv_eqB) (by simp)) fun _ => ev_is (ev_op (ev_var rfl) (ev_var rfl) (rv_eq rfl)) (by simp)) rfl) fun H5 e5 => q H5 ((e03.trans e4).trans e5)
      | int i =>
        cases hv3
        cases hu3
        refine q_when (b := false) (et_is (et_B (ev_isi2 (K := K) (ev_var rfl) (.int i))) (by rw [isT_list, isT_tuple]; rfl)) (fun h => nomatch h) fun _ H4 e4 => ?_
        refine s_ret (ev_is (ev_andV (a := true) (b := true) (ev_is (ev_op (ev_op (ev_var rfl) ev_c fun H5 _ Q5 q5 => ⟨rfl, q5 H5 (Ex.refl H5)⟩) (ev_op (ev_var rfl) ev_c fun H5 _ Q5 q5 => ⟨rfl, q5 H5 (Ex.refl H5)⟩) rv_eqB) (by simp)) fun _ => ev_is (ev_op (ev_var rfl) (ev_var rfl) (rv_eq rfl)) (by simp)) rfl) fun H5 e5 => q H5 ((e03.trans e4).trans e5)
      | str i =>
        cases hv3
        cases hu3
        refine q_when (b := false) (et_is (et_B (ev_isi2 (K := K) (ev_var rfl) (.str i))) (by rw [isT_list, isT_tuple]; rfl)) (fun h => nomatch h) fun _ H4 e4 => ?_
        refine s_ret (ev_is (ev_andV (a := true) (b := true) (ev_is (ev_op (ev_op (ev_var rfl) ev_c fun H5 _ Q5 q5 => ⟨rfl, q5 H5 (Ex.refl H5)⟩) (ev_op (ev_var rfl) ev_c fun H5 _ Q5 q5 => ⟨rfl, q5 H5 (Ex.refl H5)⟩) rv_eqB) (by simp)) fun _ => ev_is (ev_op (ev_var rfl) (ev_var rfl) (rv_eq rfl)) (by simp)) rfl) fun H5 e5 => q H5 ((e03.trans e4).trans e5)
end
end Vf
end
section
set_option Elab.async false
set_option linter.all false
set_option maxRecDepth 100000
set_option maxHeartbeats 16000000
namespace Vf
open PySem PySem.Spec PyProof.Rows L2 Evl
/-! ### a def called by keywords alone -/
/-! ### the calls in the law -/
section
variable {K : PySem.W.Frag} {σ : L2.St} {H : Hp} {te tu : TE} {v u : V} {d r : PyData} {E : XK}
theorem en_ours (h : Ev te σ H v) (hP : PlanOk K H v d) : EvN K (tCall (spOurs K) [] E (tCons te tNil)) σ H (oursD d) := fun H1 e Q q => h H1 e _ fun H2 e2 =>
  ⟨v, d, rfl, planOk_ex (e.trans e2) hP, fun p xs H3 hp e3 h3 ha => q p xs H3 (fresh_back e2 hp) (e2.trans e3) h3 ha⟩
theorem en_oursK (h : Ev te σ H v) (hP : PlanOk K H v d) : EvN K (tCallK (spOurs K) g1 E tNil (tCons te tNil)) σ H (oursD d) := fun H1 e Q q => h H1 e _ fun H2 e2 =>
  ⟨v, d, rfl, planOk_ex (e.trans e2) hP, fun p xs H3 hp e3 h3 ha => q p xs H3 (fresh_back e2 hp) (e2.trans e3) h3 ha⟩
theorem en_broken (h : Ev te σ H v) (h2 : Ev tu σ H u) (hP : PlanOk K H v d) (hu : Dp K H u r) (hr : rnOk r) (hR : isRun d r = true) : EvN K (tCall (spBroken K) [] E (tCons te (tCons tu tNil))) σ H (brokenD d r) := fun H1 e Q q => h H1 e _ fun H2 e2 => h2 H2 (e.trans e2) _ fun H3 e3 =>
  ⟨v, d, u, r, rfl, planOk_ex ((e.trans e2).trans e3) hP, dp_ex ((e.trans e2).trans e3) hu, hr, hR, fun p xs H4 hp e4 h4 ha => q p xs H4 (fresh_back (e2.trans e3) hp) ((e2.trans e3).trans e4) h4 ha⟩
theorem en_brokenK (h : Ev te σ H u) (h2 : Ev tu σ H v) (hP : PlanOk K H v d) (hu : Dp K H u r) (hr : rnOk r) (hR : isRun d r = true) : EvN K (tCallK (spBroken K) g21 E tNil (tCons te (tCons tu tNil))) σ H (brokenD d r) := fun H1 e Q q => h H1 e _ fun H2 e2 => h2 H2 (e.trans e2) _ fun H3 e3 =>
  ⟨v, d, u, r, rfl, planOk_ex ((e.trans e2).trans e3) hP, dp_ex ((e.trans e2).trans e3) hu, hr, hR, fun p xs H4 hp e4 h4 ha => q p xs H4 (fresh_back (e2.trans e3) hp) ((e2.trans e3).trans e4) h4 ha⟩
theorem ev_twin {m : Nat} {a : PyData} (h1 : EvD K te σ H a) (h2 : EvD K tu σ H a) (h3 : twOk a = true) (h4 : a.depth < m) : Ev (tCall (spTwin K m) [] E (tCons te (tCons tu tNil))) σ H (.bl true) :=
  ev_callD (eds_cons h1 (eds_cons h2 eds_nil)) fun H1 vs e1 hvs => by
    cases hvs with
    | cons q1 hvs => cases hvs with
      | cons q2 hvs =>
        cases hvs
        exact spvT q1 q2 h3 h4
end
/-- flat rows: texts, or tuples of texts and numbers -/
def flatD : PyData → Bool
  | .str _ => true
  | .tuple [.str _, .str _, .int _] => true
  | _ => false
theorem flat_tw {d : PyData} (h : flatD d = true) : twOk d = true ∧ d.depth ≤ 1 := by
  unfold flatD at h
  split at h
  · exact ⟨rfl, by rw [PyData.depth]; omega⟩
  · exact ⟨rfl, by simp [PyData.depth, PyData.depthAll]⟩
  · cases h
theorem list_tw {ds : List PyData} (hz : ds.length ≤ 30000) (h : ∀ d ∈ ds, flatD d = true) : twOk (.list ds) = true ∧ (PyData.list ds).depth ≤ 2 := by
  refine ⟨?_, ?_⟩
  · show (decide (ds.length ≤ 30000) && twAll ds) = true
    rw [decide_eq_true hz, twAll_of fun x hx => (flat_tw (h x hx)).1]
    rfl
  · rw [PyData.depth]
    have : PyData.depthAll ds ≤ 1 := by
      clear hz
      induction ds with
      | nil => exact Nat.zero_le _
      | cons x r ih =>
        rw [PyData.depthAll]
        have h1 := (flat_tw (h x List.mem_cons_self)).2
        have h2 := ih fun d hd => h d (List.mem_cons_of_mem _ hd)
        exact Nat.max_le.mpr ⟨h1, h2⟩
    omega
theorem two_tw {ds : List PyData} (hz : ds.length ≤ 30000) (h : ∀ d ∈ ds, flatD d = true) : twOk (.list [.list ds, .list ds]) = true ∧ (PyData.list [.list ds, .list ds]).depth ≤ 3 := by
  obtain ⟨h1, h2⟩ := list_tw hz h
  refine ⟨?_, ?_⟩
  · show (true && (twOk (.list ds) && (twOk (.list ds) && true))) = true
    rw [h1]
    rfl
  · rw [PyData.depth, PyData.depthAll, PyData.depthAll, PyData.depthAll]
    omega
theorem ours_flat {d : PyData} {n : Int} {es bs ts : List PyData} (p : PlanIs d n es bs ts) : (oursD d).length ≤ 30000 ∧ ∀ x ∈ oursD d, flatD x = true := by
  rw [p.form]
  show (ourEvs es ts).length ≤ 30000 ∧ ∀ x ∈ ourEvs es ts, flatD x = true
  refine ⟨Nat.le_trans (List.length_filter_le ..) p.esz, fun x hx => ?_⟩
  obtain ⟨y, rfl⟩ := isName_str (p.nam x (List.mem_filter.mp hx).1)
  rfl
theorem broken_flat {d : PyData} {n : Int} {es bs ts ms : List PyData} (p : PlanIs d n es bs ts) (h1 : es.length ≤ 900) (h2 : bs.length ≤ 900) : (brokenD d (.tuple ms)).length ≤ 30000 ∧ ∀ x ∈ brokenD d (.tuple ms), flatD x = true := by
  rw [p.form]
  show (bs.filter (fails (momD es ms)) ++ (es.filter (behind (momD es ms) n)).map fun e => PyData.tuple [.str "go", e, .int n]).length ≤ 30000 ∧ ∀ x ∈ bs.filter (fails (momD es ms)) ++ (es.filter (behind (momD es ms) n)).map fun e => PyData.tuple [.str "go", e, .int n], flatD x = true
  refine ⟨?_, fun x hx => ?_⟩
  · rw [List.length_append, List.length_map]
    have a1 := List.length_filter_le (fails (momD es ms)) bs
    have a2 := List.length_filter_le (behind (momD es ms) n) es
    omega
  · rcases List.mem_append.mp hx with hx | hx
    · obtain ⟨_, _, _, rfl⟩ := isBound_form (p.bnd x (List.mem_filter.mp hx).1)
      rfl
    · obtain ⟨e, he, rfl⟩ := List.mem_map.mp hx
      obtain ⟨y, rfl⟩ := isName_str (p.nam e (List.mem_filter.mp he).1)
      rfl
/-! ### the last row's plan -/
def d0 : PyData := .tuple [.int 0, .tuple [.str "a"], .tuple [.tuple [.str "go", .str "a", .int 0]], .tuple []]
theorem d0_plan : isPlan d0 = true := by
  have ht : areTasks (evs (.tuple [.str "a"])) (.tuple []) = true := by
    have hR : Rooted (bg []) := fun x => .stop rfl
    show (true && (true && (decide (((bg []).length : Int) = (([] : List PyData).length : Int)) && @decide (Rooted (bg [])) (Classical.propDecidable _)))) = true
    rw [@decide_eq_true _ (Classical.propDecidable _) hR]
    rfl
  have he : isEvents (.tuple [.str "a"]) = true := by decide +kernel
  have hb : areBounds (evs (.tuple [.str "a"])) (.tuple [.tuple [.str "go", .str "a", .int 0]]) = true := by decide +kernel
  show (true && (isEvents (.tuple [.str "a"]) && (areBounds (evs (.tuple [.str "a"])) (.tuple [.tuple [.str "go", .str "a", .int 0]]) && areTasks (evs (.tuple [.str "a"])) (.tuple [])))) = true
  rw [he, hb, ht]
  rfl
theorem d0_ok : plOk d0 := by
  intro l e b t h
  cases h
  refine ⟨fun ds hds => ?_, fun ds hds => ?_, fun ds hds => ?_⟩
  · cases hds
    refine ⟨by decide, fun x hx => ?_⟩
    cases List.mem_singleton.mp hx
    intro y hy
    cases hy
    decide +kernel
  · cases hds; decide
  · cases hds; decide
theorem d0_run : isRun d0 (.tuple [.int 1]) = true := by decide +kernel
theorem d0_broken : brokenD d0 (.tuple [.int 1]) = [.tuple [.str "go", .str "a", .int 0], .tuple [.str "go", .str "a", .int 0]] := by
  have h1 : momOf (momD [.str "a"] [.int 1]) "a" = 1 := by decide +kernel
  have h2 : momOf (momD [.str "a"] [.int 1]) "go" = 0 := by decide +kernel
  have f1 : fails (momD [.str "a"] [.int 1]) (.tuple [.str "go", .str "a", .int 0]) = true := by
    show decide ((0 : Int) < momOf (momD [.str "a"] [.int 1]) "a" - momOf (momD [.str "a"] [.int 1]) "go") = true
    rw [h1, h2]
    rfl
  have f2 : behind (momD [.str "a"] [.int 1]) 0 (.str "a") = true := by
    show decide ((0 : Int) < momOf (momD [.str "a"] [.int 1]) "a") = true
    rw [h1]
    rfl
  show [PyData.tuple [.str "go", .str "a", .int 0]].filter (fails (momD [.str "a"] [.int 1])) ++ ([PyData.str "a"].filter (behind (momD [.str "a"] [.int 1]) 0)).map (fun e => PyData.tuple [.str "go", e, .int 0]) = _
  rw [List.filter_cons, if_pos f1, List.filter_cons, if_pos f2]
  rfl
end Vf
end
section
set_option Elab.async false
set_option linter.all false
set_option maxRecDepth 100000
set_option maxHeartbeats 16000000
namespace Vf
open PySem PySem.Spec PyProof.Rows L2 Evl
abbrev spLaw (K : PySem.W.Frag) : Sp := fun vs H Q _ => ∃ (a : Addr) (ns : List Int), vs = [.ref a] ∧ SqL K H a (ns.map V.int) ∧ ns.length ≤ 63 ∧ ∀ H', Q (.bl true) H'
theorem drop_app {K : PySem.W.Frag} {σ : L2.St} {H : Hp} {te : TE} {D : Ends} {tz : TS} {l : Addr} {xs : List V} {v : V} (h : Ev te σ H (.ref l)) (hl : H l = some (.lst xs)) (hz : xs.length ≤ 50000) (k : ∀ H1, Ex H H1 → tz D σ (upd H1 l (.lst (xs ++ [v])))) :
    tSeq (tDrop (tBM K "list" rAppend te (tCons (tC v) tNil))) tz D σ H := q_app hl h ev_c (by omega) k
theorem call2 {sp : Sp} {ta tb : TE} {σ : L2.St} {H : Hp} {Q : VK} {E : XK} (h : ta σ H fun v H1 => tb σ H1 fun u H2 => sp [v, u] H2 Q E) : tCall sp [] E (tCons ta (tCons tb tNil)) σ H Q := h
section
variable {P : Program} {w : World} {K : PySem.W.Frag} {mg : Str → Option Value} {base : Heap} {tg : Tok} {f : Addr} {fd : FuncData}
abbrev s_law : Stmt := topS 35
theorem sc_law : FnScope ["script", "at", "sack", "turn", "plan_here", "job", "stops", "name", "due", "heard", "trial", "run_here"] ["script"] (defScope s_law) := ⟨rfl, rfl, rfl, by decide +kernel, rfl, by decide +kernel, by decide +kernel⟩
theorem ok_law (F : Fun K "law" "law" s_law f fd) (T : Txt mg tg) (C_law_sack : Cal P w K mg base 1 "_law_sack" ["script", "at"] (spSack K)) (C_law_dip : Cal P w K mg base 1 "_law_dip" ["sack", "below"] spDip)
    (C_law_drawn_plan : Cal P w K mg base 3 "_law_drawn_plan" ["sack", "many_events", "many_limits", "many_jobs", "great"] (spPlan K)) (C_ours : Cal P w K mg base 7 "ours" ["plan"] (spOurs K)) (CK_ours : CalK P w K mg base 7 "ours" ["plan"] ["plan"] g1 (spOurs K))
    (C_law_twin : Cal P w K mg base 5 "_law_twin" ["found", "due"] (spTwin K 5)) (C_law_drawn_run : Cal P w K mg base 2 "_law_drawn_run" ["sack", "plan_here", "great"] (spRunD K)) (C_law_lost : Cal P w K mg base 2 "_law_lost" ["plan_here", "run_here"] (spLost K))
    (C_broken : Cal P w K mg base 8 "broken" ["plan", "run"] (spBroken K)) (CK_broken : CalK P w K mg base 8 "broken" ["plan", "run"] ["run", "plan"] g21 (spBroken K)) : FnOk P w K mg base CX0 9 f fd ["script"] (spLaw K) := by
  refine F.ok sc_law (fun vs H Q E h => ?_) (fun cdv A outer s H vs Q E hr h => ?_)
  · obtain ⟨a, ns, rfl, _⟩ := h
    rfl
  · obtain ⟨a, ns, rfl, hS, hlen, q⟩ := h
    refine ⟨_, (pss_cons (ps_for PassesOwn.never rfl (pi_range1 rfl T.range (pa_cons (pe_callB (call_max2 rfl) (by rfl) T.max (by decide +kernel) (pa_cons pe_int (pa_cons (pe_callB (call_min2 rfl) (by rfl) T.min (by decide +kernel) (pa_cons pe_int (pa_cons (pe_callB (call_len_seqK (K := K) rfl) (by rfl) T.len (by decide +kernel) (pa_cons (pv 0) pa_nil)) pa_nil))) pa_nil))) pa_nil)) (pg_name (i := 1) sc_law.nd rfl (Or.inl rfl)) (pss_cons (ps_set (i := 2) sc_law.nd rfl (Or.inl rfl) (pe_cal C_law_sack (by first | exact hr | exact hr.mono (by decide)) (by rfl) (pa_cons (pv 0) (pa_cons (pv 1) pa_nil)))) (pss_one (ps_for PassesOwn.never rfl (pi_range1 rfl T.range (pa_cons pe_int pa_nil)) (pg_name (i := 3) sc_law.nd rfl (Or.inl rfl)) (pss_cons (ps_set (i := 4) sc_law.nd rfl (Or.inl rfl) (pe_cal C_law_drawn_plan (by first | exact hr | exact hr.mono (by decide)) (by rfl) (pa_cons (pv 2) (pa_cons pe_int (pa_cons pe_int (pa_cons pe_int (pa_cons (pe_ix (ix_listK (K := K) rfl) (pe_lst (pa_cons pe_int (pa_cons pe_int pa_nil))) (pe_cal C_law_dip (by first | exact hr | exact hr.mono (by decide)) (by rfl) (pa_cons (pv 2) (pa_cons pe_int pa_nil))) (fun _ _ => rfl)) pa_nil))))))) (pss_cons (ps_set (i := 6) sc_law.nd rfl (Or.inr rfl) (pe_lc (own := [("job", 5)]) rfl sc_law.nd (pi_tupK (K := K) rfl (pe_ix (ix_tupK (K := K) rfl) (pv 4) pe_int (fun _ _ => rfl))) (blkOk_by (own := [("job", 5)]) (N := ["script", "at", "sack", "turn", "plan_here", "job", "stops", "name", "due", "heard", "trial", "run_here"]) (sc := defScope s_law) (by decide +kernel)) (fun _ _ _ _ _ => (pg_name (i := 5) sc_law.nd rfl (Or.inl rfl))) (fun _ _ _ _ _ => pts_nil) (fun _ _ _ _ _ => (pe_ix (ix_tupK (K := K) rfl) (pv 5) pe_int (fun _ _ => rfl))))) (pss_cons (ps_setLc (i := 8) (own := [("name", 7)]) rfl sc_law.nd rfl rfl (sw_true rfl rfl rfl (by decide +kernel)) (pi_tupK (K := K) rfl (pe_ix (ix_tupK (K := K) rfl) (pv 4) pe_int (fun _ _ => rfl))) (blkOk_by (own := [("name", 7)]) (N := ["script", "at", "sack", "turn", "plan_here", "job", "stops", "name", "due", "heard", "trial", "run_here"]) (sc := defScope s_law) (by decide +kernel)) (fun _ _ _ _ _ => (pg_name (i := 7) sc_law.nd rfl (Or.inl rfl))) (fun _ _ _ _ _ => (pts_one (pt_cmpR (op_notIn_seqK (K := K) rfl) (pv 7) (pv 6) (by rfl)))) (fun _ _ _ _ _ => (pv 7))) (pss_cons (ps_set (i := 9) sc_law.nd rfl (Or.inl rfl) (pe_lst (pa_cons (pe_cal C_ours (by first | exact hr | exact hr.mono (by decide)) (by rfl) (pa_cons (pv 4) pa_nil)) (pa_cons (pe_calK0 CK_ours (by first | exact hr | exact hr.mono (by decide)) (by rfl) (pk_cons (pv 4) pk_nil)) pa_nil)))) (pss_cons (ps_if (pt_not (pt_val (pe_cal C_law_twin (by first | exact hr | exact hr.mono (by decide)) (by rfl) (pa_cons (pv 9) (pa_cons (pe_lst (pa_cons (pv 8) (pa_cons (pv 8) pa_nil))) pa_nil))))) (pss_one (ps_ret pe_bl)) pss_nil) (pss_cons (ps_expr (pe_bm PySem.F.plainAttrs_list PySem.F.slot_list_append PySem.F.type_list_append mt_append (pe_ix (ix_listK (K := K) rfl) (pv 9) pe_int (fun _ _ => rfl)) (pa_cons pe_non pa_nil))) (pss_cons (ps_if (pt_not (pt_val (pe_cal C_law_twin (by first | exact hr | exact hr.mono (by decide)) (by rfl) (pa_cons (pe_cal C_ours (by first | exact hr | exact hr.mono (by decide)) (by rfl) (pa_cons (pv 4) pa_nil)) (pa_cons (pv 8) pa_nil))))) (pss_one (ps_ret pe_bl)) pss_nil) (pss_one (ps_for PassesOwn.never rfl (pi_range1 rfl T.range (pa_cons pe_int pa_nil)) (pg_name (i := 10) sc_law.nd rfl (Or.inl rfl)) (pss_cons (ps_set (i := 11) sc_law.nd rfl (Or.inl rfl) (pe_cal C_law_drawn_run (by first | exact hr | exact hr.mono (by decide)) (by rfl) (pa_cons (pv 2) (pa_cons (pv 4) (pa_cons (pe_ix (ix_listK (K := K) rfl) (pe_lst (pa_cons pe_int (pa_cons pe_int (pa_cons pe_int pa_nil)))) (pe_cal C_law_dip (by first | exact hr | exact hr.mono (by decide)) (by rfl) (pa_cons (pv 2) (pa_cons pe_int pa_nil))) (fun _ _ => rfl)) pa_nil))))) (pss_cons (ps_set (i := 8) sc_law.nd rfl (Or.inl rfl) (pe_cal C_law_lost (by first | exact hr | exact hr.mono (by decide)) (by rfl) (pa_cons (pv 4) (pa_cons (pv 11) pa_nil)))) (pss_cons (ps_set (i := 9) sc_law.nd rfl (Or.inl rfl) (pe_lst (pa_cons (pe_cal C_broken (by first | exact hr | exact hr.mono (by decide)) (by rfl) (pa_cons (pv 4) (pa_cons (pv 11) pa_nil))) (pa_cons (pe_calK0 CK_broken (by first | exact hr | exact hr.mono (by decide)) (by rfl) (pk_cons (pv 11) (pk_cons (pv 4) pk_nil))) pa_nil)))) (pss_cons (ps_if (pt_not (pt_val (pe_cal C_law_twin (by first | exact hr | exact hr.mono (by decide)) (by rfl) (pa_cons (pv 9) (pa_cons (pe_lst (pa_cons (pv 8) (pa_cons (pv 8) pa_nil))) pa_nil))))) (pss_one (ps_ret pe_bl)) pss_nil) (pss_cons (ps_expr (pe_bm PySem.F.plainAttrs_list PySem.F.slot_list_append PySem.F.type_list_append mt_append (pe_ix (ix_listK (K := K) rfl) (pv 9) pe_int (fun _ _ => rfl)) (pa_cons pe_non pa_nil))) (pss_one (ps_if (pt_not (pt_val (pe_cal C_law_twin (by first | exact hr | exact hr.mono (by decide)) (by rfl) (pa_cons (pe_cal C_broken (by first | exact hr | exact hr.mono (by decide)) (by rfl) (pa_cons (pv 4) (pa_cons (pv 11) pa_nil))) (pa_cons (pv 8) pa_nil))))) (pss_one (ps_ret pe_bl)) pss_nil)))))))))))))))))))) (pss_one (ps_ret (pe_cmpR (op_eqDK (K := K) rfl (hu64 hr)) (pe_cal C_broken (by first | exact hr | exact hr.mono (by decide)) (by rfl) (pa_cons (pe_tup (pa_cons pe_int (pa_cons (pe_tup (pa_cons pe_str pa_nil)) (pa_cons (pe_tup (pa_cons (pe_tup (pa_cons pe_str (pa_cons pe_str (pa_cons pe_int pa_nil)))) pa_nil)) (pa_cons (pe_tup pa_nil) pa_nil))))) (pa_cons (pe_tup (pa_cons pe_int pa_nil)) pa_nil))) (pe_lst (pa_cons (pe_tup (pa_cons pe_str (pa_cons pe_str (pa_cons pe_int pa_nil)))) (pa_cons (pe_tup (pa_cons pe_str (pa_cons pe_str (pa_cons pe_int pa_nil)))) pa_nil))) (nomark _))))), ?_⟩
    have hmx : ∃ z : Int, 0 ≤ z ∧ z ≤ 6 ∧ ∀ σ : L2.St, σ[0]? = some (some (.ref a)) → Ev (tCB (fun xs H Q => ∃ i j, xs = [.int i, .int j] ∧ Q (.int (if j > i then j else i)) H) (tCons (tC (.int 1)) (tCons (tCB (fun xs H Q => ∃ i j, xs = [.int i, .int j] ∧ Q (.int (if j < i then j else i)) H) (tCons (tC (.int 6)) (tCons (tCB (rLenS K) (tCons (tVar 0) tNil)) tNil))) tNil))) σ H (.int z) := by
      refine ⟨if (if ((ns.map V.int).length : Int) < 6 then ((ns.map V.int).length : Int) else 6) > 1 then (if ((ns.map V.int).length : Int) < 6 then ((ns.map V.int).length : Int) else 6) else 1, ?_, ?_, fun σ hσ => ?_⟩
      · split <;> (try split) <;> omega
      · split <;> (try split) <;> omega
      · exact ev_callB (ea_cons ev_c (ea_cons (ev_callB (ea_cons ev_c (ea_cons (ev_len (ev_var hσ) hS) ea_nil)) fun _ _ q => ⟨6, _, rfl, q⟩) ea_nil)) fun _ _ q => ⟨1, _, rfl, q⟩
    obtain ⟨z, z0, z6, hz⟩ := hmx
    refine q_forR1 (n := z) (ea_cons (hz _ rfl) ea_nil) (by omega) (fun i σ' H' => ∃ x1 x2 x3 x4 x5 x6 x7 x8 x9 x10 x11, σ' = [some (.ref a), x1, x2, x3, x4, x5, x6, x7, x8, x9, x10, x11] ∧ Ex H H')
      (fun H1 e1 => ⟨none, none, none, none, none, none, none, none, none, none, none, rfl, e1⟩) ?_ ?_
    · rintro i σ' H1 hi ⟨x1, x2, x3, x4, x5, x6, x7, x8, x9, x10, x11, rfl, e1⟩
      -- sack = ..
      refine q_any ⟨.ref a, rfl, .int (i : Int), rfl, a, ns, (i : Int), rfl, ex_l e1 hS, by omega, by omega, by omega, fun p H2 hp e2 sk => ?_⟩
      have hHp : H p = none := fresh_back e1 hp
      have hB : Ex H (but H2 p) := ex_but (e1.trans e2) hHp
      have R0 : Run p 0 (but H2 p) H2 := ⟨Ex.refl _, sk⟩
      -- for turn in range(5)
      refine s_forR1 (n := 5) (ea_cons ev_c ea_nil) (by omega) (fun t σ' H' => ∃ x3 x4 x5 x6 x7 x8 x9 x10 x11, σ' = [some (.ref a), some (.int (i : Int)), some (.ref p), x3, x4, x5, x6, x7, x8, x9, x10, x11] ∧ Run p (1200 * t) (but H2 p) H')
        (fun H3 e3 => ⟨_, _, _, _, _, _, _, _, _, rfl, R0.on e3⟩) ?_ ?_
      · rintro t σ' H3 ht ⟨y3, y4, y5, y6, y7, y8, y9, y10, y11, rfl, R⟩
        have ht5 : t < 5 := by omega
        -- plan_here = ..
        refine q_any ⟨.ref p, rfl, ⟨by show 2 ≤ sizeLine; decide, fun v hv => ?_⟩⟩
        obtain ⟨hBv, hvp⟩ := R.fresh hv
        refine st_dip (B := but H2 p) (b := 2) rfl ev_c (by decide) (by decide) (R.upd hBv hvp) (by unfold LIM; omega) fun r1 H4 a0 a1 R4 e4 => ?_
        have hv4 : H4 v = some (.lst [.int 6, .int 40]) := kept e4 upd_same hvp
        obtain ⟨g, hg8, hgv⟩ : ∃ g : Nat, g ≤ 800 ∧ atI [V.int 6, .int 40] r1 = some (.int (g : Int)) := by
          have h2 : r1 = 0 ∨ r1 = 1 := by omega
          rcases h2 with rfl | rfl
          · exact ⟨6, by omega, rfl⟩
          · exact ⟨40, by omega, rfl⟩
        refine ⟨v, _, r1, _, rfl, rfl, sq_of hv4, hgv, p, 7, 10, 3, g, 1200 * t + 1, rfl, by omega, by omega, by omega, hg8, R4.sk, by unfold LIM; omega, fun pl d H5 hX hpk hpP hnl hdr e5 sk5 => ?_⟩
        have R5 : Run p (1200 * t + 401) (but H2 p) H5 := ⟨R4.ex.trans e5, sk5.mono (by omega)⟩
        obtain ⟨n, es, bs, ts, pi, hz1, hz2, hz3, hspan⟩ := hdr
        -- from here on all stands on what stands now
        have hXp := planX_dp hX
        have R6 : Run p (1200 * t + 401) (but H5 p) H5 := R5.new
        have hPl : ∀ H', Ex (but H5 p) H' → PlanOk K H' (.ref pl) d := fun H' e => ⟨dp_ex e hXp, hpk, hpP⟩
        have ef := pi.form
        have hparts : ∀ H', Ex (but H5 p) H' → Dp K H' (.ref pl) (.tuple [.int n, .tuple es, .tuple bs, .tuple ts]) := fun H' e => by rw [← ef]; exact dp_ex e hXp
        -- stops = ..
        refine q_asgN (K := K) (ds := ts.map fun t => .str (kE t)) ?_ fun lS xsS H6 hlS e6 hS6 dS => ?_
        · rw [← givenD_map]
          refine en_lcT _ _ (ed_ixT 3 (ed_of (ev_var rfl) (hparts _ R6.base)) ev_c rfl rfl) (by omega) (fun _ _ => rfl) fun j x t' H6 e6 ht' hx => ?_
          refine ⟨_, ?_, goes_name, fun H1 e Q q => q H1 (Ex.refl H1), fun _ => ?_⟩
          · rfl
          rw [getD_of ht']
          obtain ⟨b, e, l, g21, rfl⟩ := isTask_form (pi.tsk t' (List.mem_of_getElem? ht'))
          exact ed_ixT 1 (ed_of (ev_var rfl) hx) ev_c rfl rfl
        have exS : xsS = (ts.map kE).map V.str := by
          have h : (ts.map fun t => PyData.str (kE t)) = (ts.map kE).map PyData.str := by rw [List.map_map]; rfl
          rw [h] at dS
          exact dpa_strs_inv dS
        subst exS
        have R7 := R6.on e6
        -- due = ..
        refine q_asgN (K := K) (ds := oursD d) ?_ fun lD xsD H7 hlD e7 hD7 dD => ?_
        · have eo : oursD d = givenD es.length (fun i => !decide (strOf (es.getD i .none) ∈ ts.map kE)) (fun i => es.getD i .none) := by
            have h := givenD_sel es (fun e => !decide (strOf e ∈ ts.map kE)) id
            rw [List.map_id] at h
            rw [ef]
            exact h.symm
          rw [eo]
          refine en_lcT _ _ (ed_ixT 1 (ed_of (ev_var rfl) (hparts _ R7.base)) ev_c rfl rfl) (by omega) (fun j _ => ?_) fun j x t' H7 e7 ht' hx => ?_
          · by_cases hj : j < es.length
            · obtain ⟨y, e⟩ := isName_str (pi.nam (es.getD j .none) (by simp [List.getD, hj]))
              rw [e]
              rfl
            · have e : es.getD j .none = .none := by simp [List.getD, hj]
              rw [e]
              rfl
          · obtain ⟨y, rfl⟩ := isName_str (pi.nam t' (List.mem_of_getElem? ht'))
            cases hx
            refine ⟨_, ?_, goes_name, ?_, fun _ => ?_⟩
            · rfl
            · rw [getD_of ht']
              refine et_is (et_test (ev_op (ev_var rfl) (ev_var rfl) (rv_niL (sq_of (e7 _ _ hS6)) rfl (flat_strs _)))) ?_
              rw [inV_strs]
              rfl
            · rw [getD_of ht']
              exact ed_of (ev_var rfl) (.str y)
        have R8 := R7.on e7
        obtain ⟨of1, of2⟩ := ours_flat pi
        have tw1 := list_tw of1 of2
        have tw2 := two_tw of1 of2
        have hDue : Dp K H7 (.ref lD) (.list (oursD d)) := .lst (sq_of hD7) dD
        -- heard = ..
        refine q_any (en_ours (ev_var rfl) (hPl _ R8.base) H7 (Ex.refl _) _ fun l1 xs1 H8 hl1 e8 h18 d1 => ?_)
        refine en_oursK (ev_var rfl) (hPl _ (R8.on e8).base) H8 (Ex.refl _) _ fun l2 xs2 H9 hl2 e9 h29 d2 => ?_
        refine ⟨by show 2 ≤ sizeLine; decide, fun lh hlh => ?_⟩
        have e79 : Ex H7 H9 := e8.trans e9
        have h19 := e9 _ _ h18
        have e9h : Ex H9 (upd H9 lh (.lst [.ref l1, .ref l2])) := Ex.new hlh
        have hh10 : (upd H9 lh (.lst [.ref l1, .ref l2])) lh = some (.lst [.ref l1, .ref l2]) := upd_same
        generalize (upd H9 lh (.lst [.ref l1, .ref l2])) = H10 at e9h hh10 ⊢
        have R10 : Run p (1200 * t + 401) (but H5 p) H10 := ((R8.on e8).on e9).on e9h
        have hH10 : Dp K H10 (.ref lh) (.list [.list (oursD d), .list (oursD d)]) := .lst (sq_of hh10) (.cons (.lst (sq_of (e9h _ _ h19)) (dpa_ex (e9.trans e9h) d1)) (.cons (.lst (sq_of (e9h _ _ h29)) (dpa_ex e9h d2)) .nil))
        -- if not twin(heard, [due, due])
        have hDue10 := dp_ex (e79.trans e9h) hDue
        refine q_when (b := false) (et_is (et_not (a := true) (et_B (ev_twin (ed_of (ev_var rfl) hH10) (ed_n (en_lst (eds_cons (ed_of (ev_var rfl) hDue10) (eds_cons (ed_of (ev_var rfl) hDue10) eds_nil)) (by show 2 ≤ 100000; decide))) tw2.1 (by omega)))) rfl) (fun h => nomatch h) fun _ H11 e11 => ?_
        have R11 := R10.on e11
        -- heard[0].append(None)
        have hxl : xs1.length ≤ 30000 := by rw [dpa_len d1]; exact of1
        refine drop_app (ev_ixLi 0 (ev_var rfl) ev_c (sq_of (e11 _ _ hh10)) rfl rfl) (e11 _ _ (e9h _ _ h19)) (by omega) fun H12 e12 => ?_
        obtain ⟨hB1, h1p⟩ := R8.fresh hl1
        have R12 : Run p (1200 * t + 401) (but H5 p) (upd H12 l1 (.lst (xs1 ++ [.non]))) := (R11.on e12).upd hB1 h1p
        have e7_12 : Ex H7 (upd H12 l1 (.lst (xs1 ++ [.non]))) := Ex.mut (((e79.trans e9h).trans e11).trans e12) hl1
        generalize (upd H12 l1 (.lst (xs1 ++ [.non]))) = H13 at R12 e7_12 ⊢
        have hDue13 := dp_ex e7_12 hDue
        -- if not twin(ours(plan_here), due)
        refine q_when (b := false) (et_is (et_not (a := true) (et_B (ev_twin (ed_n (en_ours (ev_var rfl) (hPl _ R12.base))) (ed_of (ev_var rfl) hDue13) tw1.1 (by omega)))) rfl) (fun h => nomatch h) fun _ H14 e14 => ?_
        have R14 := R12.on e14
        -- for trial in range(4)
        refine s_forR1 (n := 4) (ea_cons ev_c ea_nil) (by omega) (fun c σ' H' => ∃ x8 x9 x10 x11, σ' = [some (.ref a), some (.int (i : Int)), some (.ref p), some (.int (t : Int)), some (.ref pl), y5, some (.ref lS), y7, x8, x9, x10, x11] ∧ Run p (1200 * t + 401 + 160 * c) (but H5 p) H')
          (fun H15 e15 => ⟨_, _, _, _, rfl, R14.on e15⟩) ?_ ?_
        · rintro c σ' H15 hc ⟨w8, w9, w10, w11, rfl, R15⟩
          have hc4 : c < 4 := by omega
          -- run_here = ..
          refine q_any ⟨.ref p, rfl, .ref pl, rfl, ⟨by show 3 ≤ sizeLine; decide, fun v2 hv2 => ?_⟩⟩
          obtain ⟨hBv2, hvp2⟩ := R15.fresh hv2
          refine st_dip (B := but H5 p) (b := 3) rfl ev_c (by decide) (by decide) (R15.upd hBv2 hvp2) (by unfold LIM; omega) fun r2 H16 b0 b1 R16 e16 => ?_
          have hv16 : H16 v2 = some (.lst [.int 3, .int 12, .int 60]) := kept e16 upd_same hvp2
          obtain ⟨g21, hg2, hgv2⟩ : ∃ g : Nat, g ≤ 800 ∧ atI [V.int 3, .int 12, .int 60] r2 = some (.int (g : Int)) := by
            have h2 : r2 = 0 ∨ r2 = 1 ∨ r2 = 2 := by omega
            rcases h2 with rfl | rfl | rfl
            · exact ⟨3, by omega, rfl⟩
            · exact ⟨12, by omega, rfl⟩
            · exact ⟨60, by omega, rfl⟩
          refine ⟨v2, _, r2, _, rfl, rfl, sq_of hv16, hgv2, p, .ref pl, d, g21, 1200 * t + 401 + 160 * c + 1, rfl, planX_ex R16.ex hX, hpk, hpP, ⟨n, es, bs, ts, pi, hz1, hz2, hz3, hspan⟩, hg2, R16.sk, by unfold LIM; omega, fun u ms H17 hu hR hm7 e17 sk17 => ?_⟩
          have R17 : Run p (1200 * t + 401 + 160 * c + 151) (but H5 p) H17 := ⟨R16.ex.trans e17, sk17.mono (by omega)⟩
          have R17n : Run p (1200 * t + 401 + 160 * c + 151) (but H17 p) H17 := R17.new
          have hrn : rnOk (.tuple ms) := fun ds h => by cases h; omega
          have hu17 := dp_ex (but_ex H17 p) hu
          -- due = lost(..)
          refine q_any ⟨.ref pl, rfl, .ref u, rfl, .ref pl, d, .ref u, ms, rfl, planX_ex R17.base hX, hpk, hpP, hu17, by omega, hR, fun lL xsL H18 hlL e18 hL18 dL => ?_⟩
          have R18 := R17n.on e18
          have hb18 : ∀ H', Ex H18 H' → Ex (but H5 p) H' := fun H' e => R17.base.trans (e18.trans e)
          obtain ⟨bf1, bf2⟩ := broken_flat (ms := ms) pi (by omega) (by omega)
          have sw1 := list_tw bf1 bf2
          have sw2 := two_tw bf1 bf2
          have hDL : Dp K H18 (.ref lL) (.list (brokenD d (.tuple ms))) := .lst (sq_of hL18) dL
          have hu18 := dp_ex e18 hu17
          -- heard = ..
          refine q_any (en_broken (ev_var rfl) (ev_var rfl) (hPl _ (hb18 _ (Ex.refl _))) hu18 hrn hR H18 (Ex.refl _) _ fun m1 zs1 H19 hm1 e19 h19b c1 => ?_)
          refine en_brokenK (ev_var rfl) (ev_var rfl) (hPl _ (hb18 _ e19)) (dp_ex e19 hu18) hrn hR H19 (Ex.refl _) _ fun m2 zs2 H20 hm2 e20 h20b c2 => ?_
          refine ⟨by show 2 ≤ sizeLine; decide, fun mh hmh => ?_⟩
          have e1820 : Ex H18 H20 := e19.trans e20
          have e20h : Ex H20 (upd H20 mh (.lst [.ref m1, .ref m2])) := Ex.new hmh
          have hh21 : (upd H20 mh (.lst [.ref m1, .ref m2])) mh = some (.lst [.ref m1, .ref m2]) := upd_same
          generalize (upd H20 mh (.lst [.ref m1, .ref m2])) = H21 at e20h hh21 ⊢
          have hH21 : Dp K H21 (.ref mh) (.list [.list (brokenD d (.tuple ms)), .list (brokenD d (.tuple ms))]) := .lst (sq_of hh21) (.cons (.lst (sq_of (e20h _ _ (e20 _ _ h19b))) (dpa_ex (e20.trans e20h) c1)) (.cons (.lst (sq_of (e20h _ _ h20b)) (dpa_ex e20h c2)) .nil))
          have hDL21 := dp_ex (e1820.trans e20h) hDL
          refine q_when (b := false) (et_is (et_not (a := true) (et_B (ev_twin (ed_of (ev_var rfl) hH21) (ed_n (en_lst (eds_cons (ed_of (ev_var rfl) hDL21) (eds_cons (ed_of (ev_var rfl) hDL21) eds_nil)) (by show 2 ≤ 100000; decide))) sw2.1 (by omega)))) rfl) (fun h => nomatch h) fun _ H22 e22 => ?_
          have hzl : zs2.length ≤ 30000 := by rw [dpa_len c2]; exact bf1
          have hm2b : H18 m2 = none := fresh_back e19 hm2
          refine drop_app (ev_ixLi 1 (ev_var rfl) ev_c (sq_of (e22 _ _ hh21)) rfl rfl) (e22 _ _ (e20h _ _ h20b)) (by omega) fun H23 e23 => ?_
          have e18_23 : Ex H18 (upd H23 m2 (.lst (zs2 ++ [.non]))) := Ex.mut (((e1820.trans e20h).trans e22).trans e23) hm2b
          generalize (upd H23 m2 (.lst (zs2 ++ [.non]))) = H24 at e18_23 ⊢
          have hDL24 := dp_ex e18_23 hDL
          refine s_when (b := false) (et_is (et_not (a := true) (et_B (ev_twin (ed_n (en_broken (ev_var rfl) (ev_var rfl) (hPl _ (hb18 _ e18_23)) (dp_ex e18_23 hu18) hrn hR)) (ed_of (ev_var rfl) hDL24) sw1.1 (by omega)))) rfl) (fun h => nomatch h) fun _ H25 e25 => ⟨_, _, _, _, rfl, ?_⟩
          have R25 := R18.on (e18_23.trans e25)
          exact (R25.from R17.ex).mono (by omega)
        · rintro σ' H15 ⟨w8, w9, w10, w11, rfl, R15⟩
          exact ⟨_, _, _, _, _, _, _, _, _, rfl, (R15.from R5.ex).mono (by omega)⟩
      · rintro σ' H3 ⟨y3, y4, y5, y6, y7, y8, y9, y10, y11, rfl, R⟩
        exact ⟨_, _, _, _, _, _, _, _, _, _, _, rfl, hB.trans R.base⟩
    · -- the last row
      rintro σ' H1 ⟨x1, x2, x3, x4, x5, x6, x7, x8, x9, x10, x11, rfl, e1⟩
      refine s_ret (ev_is (ev_opD (K := K) (d := .list [.tuple [.str "go", .str "a", .int 0], .tuple [.str "go", .str "a", .int 0]]) (d' := .list [.tuple [.str "go", .str "a", .int 0], .tuple [.str "go", .str "a", .int 0]]) ?_ ?_ (rd_eqD (by decide +kernel) (by decide +kernel))) (show _ = V.bl true by decide +kernel)) fun H2 e2 => q H2
      · rw [← d0_broken]
        intro H2 e2 Q2 q2
        have gP : EvD K (tTup (tCons (tC (.int 0)) (tCons (tTup (tCons (tC (.str "a")) tNil)) (tCons (tTup (tCons (tTup (tCons (tC (.str "go")) (tCons (tC (.str "a")) (tCons (tC (.int 0)) tNil)))) tNil)) (tCons (tTup tNil) tNil))))) [some (.ref a), x1, x2, x3, x4, x5, x6, x7, x8, x9, x10, x11] H1 d0 :=
          ed_tup (eds_cons (ed_of ev_c (.int 0)) (eds_cons (ed_tup (eds_cons (ed_of ev_c (.str "a")) eds_nil) (by decide)) (eds_cons (ed_tup (eds_cons (ed_tup (eds_cons (ed_of ev_c (.str "go")) (eds_cons (ed_of ev_c (.str "a")) (eds_cons (ed_of ev_c (.int 0)) eds_nil))) (by decide)) eds_nil) (by decide)) (eds_cons (ed_tup eds_nil (by decide)) eds_nil)))) (by decide)
        have gR : EvD K (tTup (tCons (tC (.int 1)) tNil)) [some (.ref a), x1, x2, x3, x4, x5, x6, x7, x8, x9, x10, x11] H1 (.tuple [.int 1]) := ed_tup (eds_cons (ed_of ev_c (.int 1)) eds_nil) (by decide)
        refine call2 (gP H2 e2 _ fun v3 H3 e3 hv3 => gR H3 (e2.trans e3) _ fun v4 H4 e4 hv4 => ⟨v3, d0, v4, .tuple [.int 1], rfl, ⟨dp_ex e4 hv3, d0_ok, d0_plan⟩, hv4, fun ds h => (by cases h; decide), d0_run, fun l xs H5 hl e5 h5 da => q2 _ H5 ((e3.trans e4).trans e5) (.lst (sq_of h5) da)⟩)
      · exact ed_n (en_lst (eds_cons (ed_tup (eds_cons (ed_of ev_c (.str "go")) (eds_cons (ed_of ev_c (.str "a")) (eds_cons (ed_of ev_c (.int 0)) eds_nil))) (by decide)) (eds_cons (ed_tup (eds_cons (ed_of ev_c (.str "go")) (eds_cons (ed_of ev_c (.str "a")) (eds_cons (ed_of ev_c (.int 0)) eds_nil))) (by decide)) eds_nil)) (by decide))
end
end Vf
end
section
set_option Elab.async false
set_option linter.all false
set_option maxRecDepth 100000
set_option maxHeartbeats 16000000
namespace Vf
open PySem PySem.Spec PyProof.Rows L2 Evl
/-! ### what the top has written -/
theorem all_mk {l : PySem.W.OpenLaw} {w : World} {K : PySem.W.Frag} {h : Heap} {mg : Str → Option Value} {fa : Addr} {tg : Tok} (X : K.In h) (G : h.Ns mainGlobals mg) (hfa : mg "law" = some (.ref fa))
    {f0 f1 f2 f3 f4 f5 f6 f7 f8 f9 f10 f11 f12 f13 f14 f15 f16 f17 f18 f19 f20 f21 f22 f23 f24 f25 f26 f27 f28 : Addr} {od0 an0 od1 an1 od2 an2 od3 an3 od4 an4 od5 an5 od6 an6 od7 an7 od8 an8 od9 an9 od10 an10 od11 an11 od12 an12 od13 an13 od14 an14 od15 an15 od16 an16 od17 an17 od18 an18 od19 an19 od20 an20 od21 an21 od22 an22 od23 an23 od24 an24 od25 an25 od26 an26 od27 an27 od28 an28 : Option Addr} {sl0 sl1 sl2 sl3 sl4 sl5 sl6 sl7 sl8 sl9 sl10 sl11 sl12 sl13 sl14 sl15 sl16 sl17 sl18 sl19 sl20 sl21 sl22 sl23 sl24 sl25 sl26 sl27 sl28 : Array (Option Value)} {oc0 kV0 dc0 pm0 cd0 ct0 oc1 kV1 dc1 pm1 cd1 ct1 oc2 kV2 dc2 pm2 cd2 ct2 oc3 kV3 dc3 pm3 cd3 ct3 oc4 kV4 dc4 pm4 cd4 ct4 oc5 kV5 dc5 pm5 cd5 ct5 oc6 kV6 dc6 pm6 cd6 ct6 oc7 kV7 dc7 pm7 cd7 ct7 oc8 kV8 dc8 pm8 cd8 ct8 oc9 kV9 dc9 pm9 cd9 ct9 oc10 kV10 dc10 pm10 cd10 ct10 oc11 kV11 dc11 pm11 cd11 ct11 oc12 kV12 dc12 pm12 cd12 ct12 oc13 kV13 dc13 pm13 cd13 ct13 oc14 kV14 dc14 pm14 cd14 ct14 oc15 kV15 dc15 pm15 cd15 ct15 oc16 kV16 dc16 pm16 cd16 ct16 oc17 kV17 dc17 pm17 cd17 ct17 oc18 kV18 dc18 pm18 cd18 ct18 oc19 kV19 dc19 pm19 cd19 ct19 oc20 kV20 dc20 pm20 cd20 ct20 oc21 kV21 dc21 pm21 cd21 ct21 oc22 kV22 dc22 pm22 cd22 ct22 oc23 kV23 dc23 pm23 cd23 ct23 oc24 kV24 dc24 pm24 cd24 ct24 oc25 kV25 dc25 pm25 cd25 ct25 oc26 kV26 dc26 pm26 cd26 ct26 oc27 kV27 dc27 pm27 cd27 ct27 oc28 kV28 dc28 pm28 cd28 ct28 : Value}
    (aGO : PySem.W.nsIn K mainGlobals "GO" = some (some (.str "go" tg)))
    (zlen : PySem.W.nsIn K mainGlobals "len" = some none)
    (zisinstance : PySem.W.nsIn K mainGlobals "isinstance" = some none)
    (zall : PySem.W.nsIn K mainGlobals "all" = some none)
    (zrange : PySem.W.nsIn K mainGlobals "range" = some none)
    (zzip : PySem.W.nsIn K mainGlobals "zip" = some none)
    (zint : PySem.W.nsIn K mainGlobals "int" = some none)
    (zbool : PySem.W.nsIn K mainGlobals "bool" = some none)
    (zstr : PySem.W.nsIn K mainGlobals "str" = some none)
    (ztuple : PySem.W.nsIn K mainGlobals "tuple" = some none)
    (zlist : PySem.W.nsIn K mainGlobals "list" = some none)
    (zabs : PySem.W.nsIn K mainGlobals "abs" = some none)
    (zmax : PySem.W.nsIn K mainGlobals "max" = some none)
    (zmin : PySem.W.nsIn K mainGlobals "min" = some none)
    (zsorted : PySem.W.nsIn K mainGlobals "sorted" = some none)
    (zdict : PySem.W.nsIn K mainGlobals "dict" = some none)
    (a0 : PySem.W.nsIn K mainGlobals "is_integer" = some (some (.ref f0))) (l0 : K.lookup f0 = some ⟨oc0, od0, .func (PySem.W.fnOf "is_integer" "is_integer" (defArgs s_is_integer) (defBody s_is_integer) (defScope s_is_integer) .none kV0 dc0 pm0 an0 cd0 ct0), sl0⟩) (c0 : PySem.W.codeIn K cd0 "is_integer" = true) (k0 : PySem.W.keepIn K (.ref f0) = true)
    (a1 : PySem.W.nsIn K mainGlobals "is_moment" = some (some (.ref f1))) (l1 : K.lookup f1 = some ⟨oc1, od1, .func (PySem.W.fnOf "is_moment" "is_moment" (defArgs s_is_moment) (defBody s_is_moment) (defScope s_is_moment) .none kV1 dc1 pm1 an1 cd1 ct1), sl1⟩) (c1 : PySem.W.codeIn K cd1 "is_moment" = true) (k1 : PySem.W.keepIn K (.ref f1) = true)
    (a2 : PySem.W.nsIn K mainGlobals "is_place" = some (some (.ref f2))) (l2 : K.lookup f2 = some ⟨oc2, od2, .func (PySem.W.fnOf "is_place" "is_place" (defArgs s_is_place) (defBody s_is_place) (defScope s_is_place) .none kV2 dc2 pm2 an2 cd2 ct2), sl2⟩) (c2 : PySem.W.codeIn K cd2 "is_place" = true) (k2 : PySem.W.keepIn K (.ref f2) = true)
    (a3 : PySem.W.nsIn K mainGlobals "ascends" = some (some (.ref f3))) (l3 : K.lookup f3 = some ⟨oc3, od3, .func (PySem.W.fnOf "ascends" "ascends" (defArgs s_ascends) (defBody s_ascends) (defScope s_ascends) .none kV3 dc3 pm3 an3 cd3 ct3), sl3⟩) (c3 : PySem.W.codeIn K cd3 "ascends" = true) (k3 : PySem.W.keepIn K (.ref f3) = true)
    (a4 : PySem.W.nsIn K mainGlobals "is_name" = some (some (.ref f4))) (l4 : K.lookup f4 = some ⟨oc4, od4, .func (PySem.W.fnOf "is_name" "is_name" (defArgs s_is_name) (defBody s_is_name) (defScope s_is_name) .none kV4 dc4 pm4 an4 cd4 ct4), sl4⟩) (c4 : PySem.W.codeIn K cd4 "is_name" = true) (k4 : PySem.W.keepIn K (.ref f4) = true)
    (a5 : PySem.W.nsIn K mainGlobals "are_events" = some (some (.ref f5))) (l5 : K.lookup f5 = some ⟨oc5, od5, .func (PySem.W.fnOf "are_events" "are_events" (defArgs s_are_events) (defBody s_are_events) (defScope s_are_events) .none kV5 dc5 pm5 an5 cd5 ct5), sl5⟩) (c5 : PySem.W.codeIn K cd5 "are_events" = true) (k5 : PySem.W.keepIn K (.ref f5) = true)
    (a6 : PySem.W.nsIn K mainGlobals "is_pair" = some (some (.ref f6))) (l6 : K.lookup f6 = some ⟨oc6, od6, .func (PySem.W.fnOf "is_pair" "is_pair" (defArgs s_is_pair) (defBody s_is_pair) (defScope s_is_pair) .none kV6 dc6 pm6 an6 cd6 ct6), sl6⟩) (c6 : PySem.W.codeIn K cd6 "is_pair" = true) (k6 : PySem.W.keepIn K (.ref f6) = true)
    (a7 : PySem.W.nsIn K mainGlobals "is_bound" = some (some (.ref f7))) (l7 : K.lookup f7 = some ⟨oc7, od7, .func (PySem.W.fnOf "is_bound" "is_bound" (defArgs s_is_bound) (defBody s_is_bound) (defScope s_is_bound) .none kV7 dc7 pm7 an7 cd7 ct7), sl7⟩) (c7 : PySem.W.codeIn K cd7 "is_bound" = true) (k7 : PySem.W.keepIn K (.ref f7) = true)
    (a8 : PySem.W.nsIn K mainGlobals "are_bounds" = some (some (.ref f8))) (l8 : K.lookup f8 = some ⟨oc8, od8, .func (PySem.W.fnOf "are_bounds" "are_bounds" (defArgs s_are_bounds) (defBody s_are_bounds) (defScope s_are_bounds) .none kV8 dc8 pm8 an8 cd8 ct8), sl8⟩) (c8 : PySem.W.codeIn K cd8 "are_bounds" = true) (k8 : PySem.W.keepIn K (.ref f8) = true)
    (a9 : PySem.W.nsIn K mainGlobals "is_rooted" = some (some (.ref f9))) (l9 : K.lookup f9 = some ⟨oc9, od9, .func (PySem.W.fnOf "is_rooted" "is_rooted" (defArgs s_is_rooted) (defBody s_is_rooted) (defScope s_is_rooted) .none kV9 dc9 pm9 an9 cd9 ct9), sl9⟩) (c9 : PySem.W.codeIn K cd9 "is_rooted" = true) (k9 : PySem.W.keepIn K (.ref f9) = true)
    (a10 : PySem.W.nsIn K mainGlobals "is_task" = some (some (.ref f10))) (l10 : K.lookup f10 = some ⟨oc10, od10, .func (PySem.W.fnOf "is_task" "is_task" (defArgs s_is_task) (defBody s_is_task) (defScope s_is_task) .none kV10 dc10 pm10 an10 cd10 ct10), sl10⟩) (c10 : PySem.W.codeIn K cd10 "is_task" = true) (k10 : PySem.W.keepIn K (.ref f10) = true)
    (a11 : PySem.W.nsIn K mainGlobals "are_tasks" = some (some (.ref f11))) (l11 : K.lookup f11 = some ⟨oc11, od11, .func (PySem.W.fnOf "are_tasks" "are_tasks" (defArgs s_are_tasks) (defBody s_are_tasks) (defScope s_are_tasks) .none kV11 dc11 pm11 an11 cd11 ct11), sl11⟩) (c11 : PySem.W.codeIn K cd11 "are_tasks" = true) (k11 : PySem.W.keepIn K (.ref f11) = true)
    (a12 : PySem.W.nsIn K mainGlobals "is_plan" = some (some (.ref f12))) (l12 : K.lookup f12 = some ⟨oc12, od12, .func (PySem.W.fnOf "is_plan" "is_plan" (defArgs s_is_plan) (defBody s_is_plan) (defScope s_is_plan) .none kV12 dc12 pm12 an12 cd12 ct12), sl12⟩) (c12 : PySem.W.codeIn K cd12 "is_plan" = true) (k12 : PySem.W.keepIn K (.ref f12) = true)
    (a13 : PySem.W.nsIn K mainGlobals "require_plan" = some (some (.ref f13))) (l13 : K.lookup f13 = some ⟨oc13, od13, .func (PySem.W.fnOf "require_plan" "require_plan" (defArgs s_require_plan) (defBody s_require_plan) (defScope s_require_plan) .none kV13 dc13 pm13 an13 cd13 ct13), sl13⟩) (c13 : PySem.W.codeIn K cd13 "require_plan" = true) (k13 : PySem.W.keepIn K (.ref f13) = true)
    (a14 : PySem.W.nsIn K mainGlobals "ours" = some (some (.ref f14))) (l14 : K.lookup f14 = some ⟨oc14, od14, .func (PySem.W.fnOf "ours" "ours" (defArgs s_ours) (defBody s_ours) (defScope s_ours) .none kV14 dc14 pm14 an14 cd14 ct14), sl14⟩) (c14 : PySem.W.codeIn K cd14 "ours" = true) (k14 : PySem.W.keepIn K (.ref f14) = true)
    (a15 : PySem.W.nsIn K mainGlobals "moments_by_place" = some (some (.ref f15))) (l15 : K.lookup f15 = some ⟨oc15, od15, .func (PySem.W.fnOf "moments_by_place" "moments_by_place" (defArgs s_moments_by_place) (defBody s_moments_by_place) (defScope s_moments_by_place) .none kV15 dc15 pm15 an15 cd15 ct15), sl15⟩) (c15 : PySem.W.codeIn K cd15 "moments_by_place" = true) (k15 : PySem.W.keepIn K (.ref f15) = true)
    (a16 : PySem.W.nsIn K mainGlobals "is_run" = some (some (.ref f16))) (l16 : K.lookup f16 = some ⟨oc16, od16, .func (PySem.W.fnOf "is_run" "is_run" (defArgs s_is_run) (defBody s_is_run) (defScope s_is_run) .none kV16 dc16 pm16 an16 cd16 ct16), sl16⟩) (c16 : PySem.W.codeIn K cd16 "is_run" = true) (k16 : PySem.W.keepIn K (.ref f16) = true)
    (a17 : PySem.W.nsIn K mainGlobals "broken" = some (some (.ref f17))) (l17 : K.lookup f17 = some ⟨oc17, od17, .func (PySem.W.fnOf "broken" "broken" (defArgs s_broken) (defBody s_broken) (defScope s_broken) .none kV17 dc17 pm17 an17 cd17 ct17), sl17⟩) (c17 : PySem.W.codeIn K cd17 "broken" = true) (k17 : PySem.W.keepIn K (.ref f17) = true)
    (a18 : PySem.W.nsIn K mainGlobals "_law_dip" = some (some (.ref f18))) (l18 : K.lookup f18 = some ⟨oc18, od18, .func (PySem.W.fnOf "_law_dip" "_law_dip" (defArgs s_law_dip) (defBody s_law_dip) (defScope s_law_dip) .none kV18 dc18 pm18 an18 cd18 ct18), sl18⟩) (c18 : PySem.W.codeIn K cd18 "_law_dip" = true) (k18 : PySem.W.keepIn K (.ref f18) = true)
    (a19 : PySem.W.nsIn K mainGlobals "_law_sack" = some (some (.ref f19))) (l19 : K.lookup f19 = some ⟨oc19, od19, .func (PySem.W.fnOf "_law_sack" "_law_sack" (defArgs s_law_sack) (defBody s_law_sack) (defScope s_law_sack) .none kV19 dc19 pm19 an19 cd19 ct19), sl19⟩) (c19 : PySem.W.codeIn K cd19 "_law_sack" = true) (k19 : PySem.W.keepIn K (.ref f19) = true)
    (a20 : PySem.W.nsIn K mainGlobals "_law_names" = some (some (.ref f20))) (l20 : K.lookup f20 = some ⟨oc20, od20, .func (PySem.W.fnOf "_law_names" "_law_names" (defArgs s_law_names) (defBody s_law_names) (defScope s_law_names) .none kV20 dc20 pm20 an20 cd20 ct20), sl20⟩) (c20 : PySem.W.codeIn K cd20 "_law_names" = true) (k20 : PySem.W.keepIn K (.ref f20) = true)
    (a21 : PySem.W.nsIn K mainGlobals "_law_jobs" = some (some (.ref f21))) (l21 : K.lookup f21 = some ⟨oc21, od21, .func (PySem.W.fnOf "_law_jobs" "_law_jobs" (defArgs s_law_jobs) (defBody s_law_jobs) (defScope s_law_jobs) .none kV21 dc21 pm21 an21 cd21 ct21), sl21⟩) (c21 : PySem.W.codeIn K cd21 "_law_jobs" = true) (k21 : PySem.W.keepIn K (.ref f21) = true)
    (a22 : PySem.W.nsIn K mainGlobals "_law_limits" = some (some (.ref f22))) (l22 : K.lookup f22 = some ⟨oc22, od22, .func (PySem.W.fnOf "_law_limits" "_law_limits" (defArgs s_law_limits) (defBody s_law_limits) (defScope s_law_limits) .none kV22 dc22 pm22 an22 cd22 ct22), sl22⟩) (c22 : PySem.W.codeIn K cd22 "_law_limits" = true) (k22 : PySem.W.keepIn K (.ref f22) = true)
    (a23 : PySem.W.nsIn K mainGlobals "_law_drawn_plan" = some (some (.ref f23))) (l23 : K.lookup f23 = some ⟨oc23, od23, .func (PySem.W.fnOf "_law_drawn_plan" "_law_drawn_plan" (defArgs s_law_drawn_plan) (defBody s_law_drawn_plan) (defScope s_law_drawn_plan) .none kV23 dc23 pm23 an23 cd23 ct23), sl23⟩) (c23 : PySem.W.codeIn K cd23 "_law_drawn_plan" = true) (k23 : PySem.W.keepIn K (.ref f23) = true)
    (a24 : PySem.W.nsIn K mainGlobals "_law_worth" = some (some (.ref f24))) (l24 : K.lookup f24 = some ⟨oc24, od24, .func (PySem.W.fnOf "_law_worth" "_law_worth" (defArgs s_law_worth) (defBody s_law_worth) (defScope s_law_worth) .none kV24 dc24 pm24 an24 cd24 ct24), sl24⟩) (c24 : PySem.W.codeIn K cd24 "_law_worth" = true) (k24 : PySem.W.keepIn K (.ref f24) = true)
    (a25 : PySem.W.nsIn K mainGlobals "_law_drawn_run" = some (some (.ref f25))) (l25 : K.lookup f25 = some ⟨oc25, od25, .func (PySem.W.fnOf "_law_drawn_run" "_law_drawn_run" (defArgs s_law_drawn_run) (defBody s_law_drawn_run) (defScope s_law_drawn_run) .none kV25 dc25 pm25 an25 cd25 ct25), sl25⟩) (c25 : PySem.W.codeIn K cd25 "_law_drawn_run" = true) (k25 : PySem.W.keepIn K (.ref f25) = true)
    (a26 : PySem.W.nsIn K mainGlobals "_law_lost" = some (some (.ref f26))) (l26 : K.lookup f26 = some ⟨oc26, od26, .func (PySem.W.fnOf "_law_lost" "_law_lost" (defArgs s_law_lost) (defBody s_law_lost) (defScope s_law_lost) .none kV26 dc26 pm26 an26 cd26 ct26), sl26⟩) (c26 : PySem.W.codeIn K cd26 "_law_lost" = true) (k26 : PySem.W.keepIn K (.ref f26) = true)
    (a27 : PySem.W.nsIn K mainGlobals "_law_twin" = some (some (.ref f27))) (l27 : K.lookup f27 = some ⟨oc27, od27, .func (PySem.W.fnOf "_law_twin" "_law_twin" (defArgs s_law_twin) (defBody s_law_twin) (defScope s_law_twin) .none kV27 dc27 pm27 an27 cd27 ct27), sl27⟩) (c27 : PySem.W.codeIn K cd27 "_law_twin" = true) (k27 : PySem.W.keepIn K (.ref f27) = true)
    (a28 : PySem.W.nsIn K mainGlobals "law" = some (some (.ref f28))) (l28 : K.lookup f28 = some ⟨oc28, od28, .func (PySem.W.fnOf "law" "law" (defArgs s_law) (defBody s_law) (defScope s_law) .none kV28 dc28 pm28 an28 cd28 ct28), sl28⟩) (c28 : PySem.W.codeIn K cd28 "law" = true) (k28 : PySem.W.keepIn K (.ref f28) = true) :
    ∃ fd : FuncData, (∀ (s : Shared) (v : Value), BindsTo s fd ⟨[v], []⟩ [("script", v)]) ∧ ∀ base : Heap, K.In base → base.Ns mainGlobals mg → FnOk l.prog w K mg base CX0 9 fa fd ["script"] (spLaw K) := by
  have e := hfa.symm.trans (PySem.W.mg_of X G a28)
  cases e
  have T : Txt mg tg := ⟨PySem.W.mg_of X G aGO, PySem.W.mg_none_of X G zlen, PySem.W.mg_none_of X G zisinstance, PySem.W.mg_none_of X G zall, PySem.W.mg_none_of X G zrange, PySem.W.mg_none_of X G zzip, PySem.W.mg_none_of X G zint, PySem.W.mg_none_of X G zbool, PySem.W.mg_none_of X G zstr, PySem.W.mg_none_of X G ztuple, PySem.W.mg_none_of X G zlist, PySem.W.mg_none_of X G zabs, PySem.W.mg_none_of X G zmax, PySem.W.mg_none_of X G zmin, PySem.W.mg_none_of X G zsorted, PySem.W.mg_none_of X G zdict⟩
  refine ⟨PySem.W.fnOf "law" "law" (defArgs s_law) (defBody s_law) (defScope s_law) .none kV28 dc28 pm28 an28 cd28 ct28, fun s v => .of_eq rfl, fun base _ _ => ?_⟩
  have F := fun_mk (st := s_law) l28 c28 k28
  clear l28
  have F0 := fun_mk (st := s_is_integer) l0 c0 k0
  clear l0
  have b0 := F0.binds (ps := ["value"]) fun _ _ _ _ _ _ us hl => match us, hl with | [_], _ => rfl
  have O0 : FnOk l.prog w K mg base CX0 1 f0 _ ["value"] ((D1 K any isInt)) := ok_is_integer F0 T
  have C0 : Cal l.prog w K mg base 1 "is_integer" ["value"] ((D1 K any isInt)) := ⟨⟨_, _, O0, PySem.W.mg_of X G a0, k0, b0⟩⟩
  have F1 := fun_mk (st := s_is_moment) l1 c1 k1
  clear l1
  have b1 := F1.binds (ps := ["value"]) fun _ _ _ _ _ _ us hl => match us, hl with | [_], _ => rfl
  have O1 : FnOk l.prog w K mg base CX0 2 f1 _ ["value"] ((D1 K any isMom)) := ok_is_moment F1 T C0
  have C1 : Cal l.prog w K mg base 2 "is_moment" ["value"] ((D1 K any isMom)) := ⟨⟨_, _, O1, PySem.W.mg_of X G a1, k1, b1⟩⟩
  have F2 := fun_mk (st := s_is_place) l2 c2 k2
  clear l2
  have b2 := F2.binds (ps := ["events", "value"]) fun _ _ _ _ _ _ us hl => match us, hl with | [_, _], _ => rfl
  have O2 : FnOk l.prog w K mg base CX0 1 f2 _ ["events", "value"] ((D2 K any2 isPlace)) := ok_is_place F2 T
  have C2 : Cal l.prog w K mg base 1 "is_place" ["events", "value"] ((D2 K any2 isPlace)) := ⟨⟨_, _, O2, PySem.W.mg_of X G a2, k2, b2⟩⟩
  have F3 := fun_mk (st := s_ascends) l3 c3 k3
  clear l3
  have b3 := F3.binds (ps := ["rows"]) fun _ _ _ _ _ _ us hl => match us, hl with | [_], _ => rfl
  have O3 : FnOk l.prog w K mg base CX0 1 f3 _ ["rows"] ((spAsc K)) := ok_ascends F3 T
  have C3 : Cal l.prog w K mg base 1 "ascends" ["rows"] ((spAsc K)) := ⟨⟨_, _, O3, PySem.W.mg_of X G a3, k3, b3⟩⟩
  have F4 := fun_mk (st := s_is_name) l4 c4 k4
  clear l4
  have b4 := F4.binds (ps := ["value"]) fun _ _ _ _ _ _ us hl => match us, hl with | [_], _ => rfl
  have O4 : FnOk l.prog w K mg base CX0 1 f4 _ ["value"] ((D1 K nmOk isName)) := ok_is_name F4 T
  have C4 : Cal l.prog w K mg base 1 "is_name" ["value"] ((D1 K nmOk isName)) := ⟨⟨_, _, O4, PySem.W.mg_of X G a4, k4, b4⟩⟩
  have F5 := fun_mk (st := s_are_events) l5 c5 k5
  clear l5
  have b5 := F5.binds (ps := ["value"]) fun _ _ _ _ _ _ us hl => match us, hl with | [_], _ => rfl
  have O5 : FnOk l.prog w K mg base CX0 2 f5 _ ["value"] ((D1 K evOk isEvents)) := ok_are_events F5 T C4 C3
  have C5 : Cal l.prog w K mg base 2 "are_events" ["value"] ((D1 K evOk isEvents)) := ⟨⟨_, _, O5, PySem.W.mg_of X G a5, k5, b5⟩⟩
  have F6 := fun_mk (st := s_is_pair) l6 c6 k6
  clear l6
  have b6 := F6.binds (ps := ["events", "value"]) fun _ _ _ _ _ _ us hl => match us, hl with | [_, _], _ => rfl
  have O6 : FnOk l.prog w K mg base CX0 2 f6 _ ["events", "value"] ((D2 K any2 isPair)) := ok_is_pair F6 T C2
  have C6 : Cal l.prog w K mg base 2 "is_pair" ["events", "value"] ((D2 K any2 isPair)) := ⟨⟨_, _, O6, PySem.W.mg_of X G a6, k6, b6⟩⟩
  have F7 := fun_mk (st := s_is_bound) l7 c7 k7
  clear l7
  have b7 := F7.binds (ps := ["events", "value"]) fun _ _ _ _ _ _ us hl => match us, hl with | [_, _], _ => rfl
  have O7 : FnOk l.prog w K mg base CX0 3 f7 _ ["events", "value"] ((D2 K any2 isBound)) := ok_is_bound F7 T C6 C0
  have C7 : Cal l.prog w K mg base 3 "is_bound" ["events", "value"] ((D2 K any2 isBound)) := ⟨⟨_, _, O7, PySem.W.mg_of X G a7, k7, b7⟩⟩
  have F8 := fun_mk (st := s_are_bounds) l8 c8 k8
  clear l8
  have b8 := F8.binds (ps := ["events", "value"]) fun _ _ _ _ _ _ us hl => match us, hl with | [_, _], _ => rfl
  have O8 : FnOk l.prog w K mg base CX0 4 f8 _ ["events", "value"] ((D2 K seqOk areBounds)) := ok_are_bounds F8 T C7 C3
  have C8 : Cal l.prog w K mg base 4 "are_bounds" ["events", "value"] ((D2 K seqOk areBounds)) := ⟨⟨_, _, O8, PySem.W.mg_of X G a8, k8, b8⟩⟩
  have F9 := fun_mk (st := s_is_rooted) l9 c9 k9
  clear l9
  have b9 := F9.binds (ps := ["begins"]) fun _ _ _ _ _ _ us hl => match us, hl with | [_], _ => rfl
  have O9 : FnOk l.prog w K mg base CX0 1 f9 _ ["begins"] (spRoot) := ok_is_rooted F9 T
  have C9 : Cal l.prog w K mg base 1 "is_rooted" ["begins"] (spRoot) := ⟨⟨_, _, O9, PySem.W.mg_of X G a9, k9, b9⟩⟩
  have F10 := fun_mk (st := s_is_task) l10 c10 k10
  clear l10
  have b10 := F10.binds (ps := ["events", "value"]) fun _ _ _ _ _ _ us hl => match us, hl with | [_, _], _ => rfl
  have O10 : FnOk l.prog w K mg base CX0 2 f10 _ ["events", "value"] ((D2 K any2 isTask)) := ok_is_task F10 T C0
  have C10 : Cal l.prog w K mg base 2 "is_task" ["events", "value"] ((D2 K any2 isTask)) := ⟨⟨_, _, O10, PySem.W.mg_of X G a10, k10, b10⟩⟩
  have F11 := fun_mk (st := s_are_tasks) l11 c11 k11
  clear l11
  have b11 := F11.binds (ps := ["events", "value"]) fun _ _ _ _ _ _ us hl => match us, hl with | [_, _], _ => rfl
  have O11 : FnOk l.prog w K mg base CX0 3 f11 _ ["events", "value"] ((D2 K seqOk areTasks)) := ok_are_tasks F11 T C10 C3 C9
  have C11 : Cal l.prog w K mg base 3 "are_tasks" ["events", "value"] ((D2 K seqOk areTasks)) := ⟨⟨_, _, O11, PySem.W.mg_of X G a11, k11, b11⟩⟩
  have F12 := fun_mk (st := s_is_plan) l12 c12 k12
  clear l12
  have b12 := F12.binds (ps := ["value"]) fun _ _ _ _ _ _ us hl => match us, hl with | [_], _ => rfl
  have O12 : FnOk l.prog w K mg base CX0 5 f12 _ ["value"] ((D1 K plOk isPlan)) := ok_is_plan F12 T C1 C5 C8 C11
  have C12 : Cal l.prog w K mg base 5 "is_plan" ["value"] ((D1 K plOk isPlan)) := ⟨⟨_, _, O12, PySem.W.mg_of X G a12, k12, b12⟩⟩
  have F13 := fun_mk (st := s_require_plan) l13 c13 k13
  clear l13
  have b13 := F13.binds (ps := ["plan"]) fun _ _ _ _ _ _ us hl => match us, hl with | [_], _ => rfl
  have O13 : FnOk l.prog w K mg base CX0 6 f13 _ ["plan"] ((spReq K)) := ok_require_plan F13 T C12
  have C13 : Cal l.prog w K mg base 6 "require_plan" ["plan"] ((spReq K)) := ⟨⟨_, _, O13, PySem.W.mg_of X G a13, k13, b13⟩⟩
  have F14 := fun_mk (st := s_ours) l14 c14 k14
  clear l14
  have b14 := F14.binds (ps := ["plan"]) fun _ _ _ _ _ _ us hl => match us, hl with | [_], _ => rfl
  have O14 : FnOk l.prog w K mg base CX0 7 f14 _ ["plan"] ((spOurs K)) := ok_ours F14 T C13
  have C14 : Cal l.prog w K mg base 7 "ours" ["plan"] ((spOurs K)) := ⟨⟨_, _, O14, PySem.W.mg_of X G a14, k14, b14⟩⟩
  have F15 := fun_mk (st := s_moments_by_place) l15 c15 k15
  clear l15
  have b15 := F15.binds (ps := ["plan", "run"]) fun _ _ _ _ _ _ us hl => match us, hl with | [_, _], _ => rfl
  have O15 : FnOk l.prog w K mg base CX0 1 f15 _ ["plan", "run"] ((spMo K)) := ok_moments_by_place F15 T
  have C15 : Cal l.prog w K mg base 1 "moments_by_place" ["plan", "run"] ((spMo K)) := ⟨⟨_, _, O15, PySem.W.mg_of X G a15, k15, b15⟩⟩
  have F16 := fun_mk (st := s_is_run) l16 c16 k16
  clear l16
  have b16 := F16.binds (ps := ["plan", "value"]) fun _ _ _ _ _ _ us hl => match us, hl with | [_, _], _ => rfl
  have O16 : FnOk l.prog w K mg base CX0 7 f16 _ ["plan", "value"] ((spRun K)) := ok_is_run F16 T C13 C1 C15
  have C16 : Cal l.prog w K mg base 7 "is_run" ["plan", "value"] ((spRun K)) := ⟨⟨_, _, O16, PySem.W.mg_of X G a16, k16, b16⟩⟩
  have F17 := fun_mk (st := s_broken) l17 c17 k17
  clear l17
  have b17 := F17.binds (ps := ["plan", "run"]) fun _ _ _ _ _ _ us hl => match us, hl with | [_, _], _ => rfl
  have O17 : FnOk l.prog w K mg base CX0 8 f17 _ ["plan", "run"] ((spBroken K)) := ok_broken F17 T C16 C15
  have C17 : Cal l.prog w K mg base 8 "broken" ["plan", "run"] ((spBroken K)) := ⟨⟨_, _, O17, PySem.W.mg_of X G a17, k17, b17⟩⟩
  have F18 := fun_mk (st := s_law_dip) l18 c18 k18
  clear l18
  have b18 := F18.binds (ps := ["sack", "below"]) fun _ _ _ _ _ _ us hl => match us, hl with | [_, _], _ => rfl
  have O18 : FnOk l.prog w K mg base CX0 1 f18 _ ["sack", "below"] (spDip) := ok_law_dip F18 T
  have C18 : Cal l.prog w K mg base 1 "_law_dip" ["sack", "below"] (spDip) := ⟨⟨_, _, O18, PySem.W.mg_of X G a18, k18, b18⟩⟩
  have F19 := fun_mk (st := s_law_sack) l19 c19 k19
  clear l19
  have b19 := F19.binds (ps := ["script", "at"]) fun _ _ _ _ _ _ us hl => match us, hl with | [_, _], _ => rfl
  have O19 : FnOk l.prog w K mg base CX0 1 f19 _ ["script", "at"] ((spSack K)) := ok_law_sack F19 T
  have C19 : Cal l.prog w K mg base 1 "_law_sack" ["script", "at"] ((spSack K)) := ⟨⟨_, _, O19, PySem.W.mg_of X G a19, k19, b19⟩⟩
  have F20 := fun_mk (st := s_law_names) l20 c20 k20
  clear l20
  have b20 := F20.binds (ps := ["sack", "many_here"]) fun _ _ _ _ _ _ us hl => match us, hl with | [_, _], _ => rfl
  have O20 : FnOk l.prog w K mg base CX0 2 f20 _ ["sack", "many_here"] ((spNames K)) := ok_law_names F20 T C18
  have C20 : Cal l.prog w K mg base 2 "_law_names" ["sack", "many_here"] ((spNames K)) := ⟨⟨_, _, O20, PySem.W.mg_of X G a20, k20, b20⟩⟩
  have F21 := fun_mk (st := s_law_jobs) l21 c21 k21
  clear l21
  have b21 := F21.binds (ps := ["sack", "points", "many_here", "great"]) fun _ _ _ _ _ _ us hl => match us, hl with | [_, _, _, _], _ => rfl
  have O21 : FnOk l.prog w K mg base CX0 2 f21 _ ["sack", "points", "many_here", "great"] ((spJobs K)) := ok_law_jobs F21 T C18
  have C21 : Cal l.prog w K mg base 2 "_law_jobs" ["sack", "points", "many_here", "great"] ((spJobs K)) := ⟨⟨_, _, O21, PySem.W.mg_of X G a21, k21, b21⟩⟩
  have F22 := fun_mk (st := s_law_limits) l22 c22 k22
  clear l22
  have b22 := F22.binds (ps := ["sack", "points", "many_here", "great"]) fun _ _ _ _ _ _ us hl => match us, hl with | [_, _, _, _], _ => rfl
  have O22 : FnOk l.prog w K mg base CX0 2 f22 _ ["sack", "points", "many_here", "great"] ((spLimits K)) := ok_law_limits F22 T C18
  have C22 : Cal l.prog w K mg base 2 "_law_limits" ["sack", "points", "many_here", "great"] ((spLimits K)) := ⟨⟨_, _, O22, PySem.W.mg_of X G a22, k22, b22⟩⟩
  have F23 := fun_mk (st := s_law_drawn_plan) l23 c23 k23
  clear l23
  have b23 := F23.binds (ps := ["sack", "many_events", "many_limits", "many_jobs", "great"]) fun _ _ _ _ _ _ us hl => match us, hl with | [_, _, _, _, _], _ => rfl
  have O23 : FnOk l.prog w K mg base CX0 3 f23 _ ["sack", "many_events", "many_limits", "many_jobs", "great"] ((spPlan K)) := ok_law_drawn_plan F23 T C18 C20 C21 C22
  have C23 : Cal l.prog w K mg base 3 "_law_drawn_plan" ["sack", "many_events", "many_limits", "many_jobs", "great"] ((spPlan K)) := ⟨⟨_, _, O23, PySem.W.mg_of X G a23, k23, b23⟩⟩
  have F24 := fun_mk (st := s_law_worth) l24 c24 k24
  clear l24
  have b24 := F24.binds (ps := ["plan_here", "moments_here", "point"]) fun _ _ _ _ _ _ us hl => match us, hl with | [_, _, _], _ => rfl
  have O24 : FnOk l.prog w K mg base CX0 1 f24 _ ["plan_here", "moments_here", "point"] ((spWorth K)) := ok_law_worth F24 T
  have C24 : Cal l.prog w K mg base 1 "_law_worth" ["plan_here", "moments_here", "point"] ((spWorth K)) := ⟨⟨_, _, O24, PySem.W.mg_of X G a24, k24, b24⟩⟩
  have F25 := fun_mk (st := s_law_drawn_run) l25 c25 k25
  clear l25
  have b25 := F25.binds (ps := ["sack", "plan_here", "great"]) fun _ _ _ _ _ _ us hl => match us, hl with | [_, _, _], _ => rfl
  have O25 : FnOk l.prog w K mg base CX0 2 f25 _ ["sack", "plan_here", "great"] ((spRunD K)) := ok_law_drawn_run F25 T C18
  have C25 : Cal l.prog w K mg base 2 "_law_drawn_run" ["sack", "plan_here", "great"] ((spRunD K)) := ⟨⟨_, _, O25, PySem.W.mg_of X G a25, k25, b25⟩⟩
  have F26 := fun_mk (st := s_law_lost) l26 c26 k26
  clear l26
  have b26 := F26.binds (ps := ["plan_here", "run_here"]) fun _ _ _ _ _ _ us hl => match us, hl with | [_, _], _ => rfl
  have O26 : FnOk l.prog w K mg base CX0 2 f26 _ ["plan_here", "run_here"] ((spLost K)) := ok_law_lost F26 T C24
  have C26 : Cal l.prog w K mg base 2 "_law_lost" ["plan_here", "run_here"] ((spLost K)) := ⟨⟨_, _, O26, PySem.W.mg_of X G a26, k26, b26⟩⟩
  have F27 := fun_mk (st := s_law_twin) l27 c27 k27
  clear l27
  have b27 := F27.binds (ps := ["found", "due"]) fun _ _ _ _ _ _ us hl => match us, hl with | [_, _], _ => rfl
  have C27 : Cal l.prog w K mg base 5 "_law_twin" ["found", "due"] (spTwin K 5) := ⟨⟨_, _, ok_law_twin F27 T (PySem.W.mg_of X G a27) b27 5, PySem.W.mg_of X G a27, k27, b27⟩⟩
  have K14_g1 : CalK l.prog w K mg base 7 "ours" ["plan"] ["plan"] g1 ((spOurs K)) := ⟨⟨_, _, h1, O14, PySem.W.mg_of X G a14, k14, ⟨fun s us ws _ hl => (match us, ws, hl with | [], [_], _ => .of_eq rfl), vals_h1⟩⟩⟩
  have K17_g21 : CalK l.prog w K mg base 8 "broken" ["plan", "run"] ["run", "plan"] g21 ((spBroken K)) := ⟨⟨_, _, h21, O17, PySem.W.mg_of X G a17, k17, ⟨fun s us ws _ hl => (match us, ws, hl with | [], [_, _], _ => .of_eq rfl), vals_h21⟩⟩⟩
  exact ok_law F T C19 C18 C23 C14 K14_g1 C27 C25 C26 C17 K17_g21
end Vf
end
section
set_option Elab.async false
set_option linter.all false
set_option maxRecDepth 100000
open PySem PySem.W PyProof.Rows in
set_option maxHeartbeats 0 in
theorem PySem.Challenge.cw_startnow_k02_ours_and_broken_bounds_holds : PySem.Challenge.rw_startnow_k02_ours_and_broken_bounds.Holds := by
  w_on; o_law; k_head; (case hw => w_witness2)
  k_fill
  refine L2.walk_of (l := PySem.Challenge.rw_startnow_k02_ours_and_broken_bounds) (n := 63) (k := 9) (x := "script") (CX := fun _ => L2.CX0) (sp := fun w => Vf.spLaw _) rfl (by decide) rfl ⟨rfl, by decide, by decide⟩ (fun w h Y => PySem.W.kIn_of Y) ?F (fun _ _ a ns hl _ hS => ⟨a, ns, rfl, hS, hl, fun _ => rfl⟩) (fun _ _ _ _ _ z => z)
  case F =>
    intro w mg fa h KX G hmg
    refine' Vf.all_mk KX G hmg ?aGO ?zlen ?zisinstance ?zall ?zrange ?zzip ?zint ?zbool ?zstr ?ztuple ?zlist ?zabs ?zmax ?zmin ?zsorted ?zdict ?a0 ?l0 ?c0 ?k0 ?a1 ?l1 ?c1 ?k1 ?a2 ?l2 ?c2 ?k2 ?a3 ?l3 ?c3 ?k3 ?a4 ?l4 ?c4 ?k4 ?a5 ?l5 ?c5 ?k5 ?a6 ?l6 ?c6 ?k6 ?a7 ?l7 ?c7 ?k7 ?a8 ?l8 ?c8 ?k8 ?a9 ?l9 ?c9 ?k9 ?a10 ?l10 ?c10 ?k10 ?a11 ?l11 ?c11 ?k11 ?a12 ?l12 ?c12 ?k12 ?a13 ?l13 ?c13 ?k13 ?a14 ?l14 ?c14 ?k14 ?a15 ?l15 ?c15 ?k15 ?a16 ?l16 ?c16 ?k16 ?a17 ?l17 ?c17 ?k17 ?a18 ?l18 ?c18 ?k18 ?a19 ?l19 ?c19 ?k19 ?a20 ?l20 ?c20 ?k20 ?a21 ?l21 ?c21 ?k21 ?a22 ?l22 ?c22 ?k22 ?a23 ?l23 ?c23 ?k23 ?a24 ?l24 ?c24 ?k24 ?a25 ?l25 ?c25 ?k25 ?a26 ?l26 ?c26 ?k26 ?a27 ?l27 ?c27 ?k27 ?a28 ?l28 ?c28 ?k28
    (case aGO => k_is)
    (case zlen => k_is)
    (case zisinstance => k_is)
    (case zall => k_is)
    (case zrange => k_is)
    (case zzip => k_is)
    (case zint => k_is)
    (case zbool => k_is)
    (case zstr => k_is)
    (case ztuple => k_is)
    (case zlist => k_is)
    (case zabs => k_is)
    (case zmax => k_is)
    (case zmin => k_is)
    (case zsorted => k_is)
    (case zdict => k_is)
    (case a0 => k_is)
    (case l0 => k_is)
    (case c0 => k_is)
    (case k0 => k_is)
    (case a1 => k_is)
    (case l1 => k_is)
    (case c1 => k_is)
    (case k1 => k_is)
    (case a2 => k_is)
    (case l2 => k_is)
    (case c2 => k_is)
    (case k2 => k_is)
    (case a3 => k_is)
    (case l3 => k_is)
    (case c3 => k_is)
    (case k3 => k_is)
    (case a4 => k_is)
    (case l4 => k_is)
    (case c4 => k_is)
    (case k4 => k_is)
    (case a5 => k_is)
    (case l5 => k_is)
    (case c5 => k_is)
    (case k5 => k_is)
    (case a6 => k_is)
    (case l6 => k_is)
    (case c6 => k_is)
    (case k6 => k_is)
    (case a7 => k_is)
    (case l7 => k_is)
    (case c7 => k_is)
    (case k7 => k_is)
    (case a8 => k_is)
    (case l8 => k_is)
    (case c8 => k_is)
    (case k8 => k_is)
    (case a9 => k_is)
    (case l9 => k_is)
    (case c9 => k_is)
    (case k9 => k_is)
    (case a10 => k_is)
    (case l10 => k_is)
    (case c10 => k_is)
    (case k10 => k_is)
    (case a11 => k_is)
    (case l11 => k_is)
    (case c11 => k_is)
    (case k11 => k_is)
    (case a12 => k_is)
    (case l12 => k_is)
    (case c12 => k_is)
    (case k12 => k_is)
    (case a13 => k_is)
    (case l13 => k_is)
    (case c13 => k_is)
    (case k13 => k_is)
    (case a14 => k_is)
    (case l14 => k_is)
    (case c14 => k_is)
    (case k14 => k_is)
    (case a15 => k_is)
    (case l15 => k_is)
    (case c15 => k_is)
    (case k15 => k_is)
    (case a16 => k_is)
    (case l16 => k_is)
    (case c16 => k_is)
    (case k16 => k_is)
    (case a17 => k_is)
    (case l17 => k_is)
    (case c17 => k_is)
    (case k17 => k_is)
    (case a18 => k_is)
    (case l18 => k_is)
    (case c18 => k_is)
    (case k18 => k_is)
    (case a19 => k_is)
    (case l19 => k_is)
    (case c19 => k_is)
    (case k19 => k_is)
    (case a20 => k_is)
    (case l20 => k_is)
    (case c20 => k_is)
    (case k20 => k_is)
    (case a21 => k_is)
    (case l21 => k_is)
    (case c21 => k_is)
    (case k21 => k_is)
    (case a22 => k_is)
    (case l22 => k_is)
    (case c22 => k_is)
    (case k22 => k_is)
    (case a23 => k_is)
    (case l23 => k_is)
    (case c23 => k_is)
    (case k23 => k_is)
    (case a24 => k_is)
    (case l24 => k_is)
    (case c24 => k_is)
    (case k24 => k_is)
    (case a25 => k_is)
    (case l25 => k_is)
    (case c25 => k_is)
    (case k25 => k_is)
    (case a26 => k_is)
    (case l26 => k_is)
    (case c26 => k_is)
    (case k26 => k_is)
    (case a27 => k_is)
    (case l27 => k_is)
    (case c27 => k_is)
    (case k27 => k_is)
    (case a28 => k_is)
    (case l28 => k_is)
    (case c28 => k_is)
    (case k28 => k_is)
#print axioms PySem.Challenge.cw_startnow_k02_ours_and_broken_bounds_holds
end
