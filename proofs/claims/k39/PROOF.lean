import PyProof.Rows.All
import Wide.All
import OpenK.AllK
import Wide.FinOn
import HandS.ForMost
import HandS.Evl
import HandS.IsInst
import HandS.DictComp
import HandS.Zip
import HandS.Wide
import HandS.Style
import HandS.TupAny
import KE.LtData
import KE.KDictWalk
import PySem.Challenge.RW_startnow_k39_designs_put_together
import HandS.Flow
import HandS.Text
import KE.SortData
import HandS.Conv
import HandS.Walk
import KE.KPairComp
import KE.KOpsOwn
import HandS.Property
import HandS.SlotsOwn
import HandS.Star
import KE.DataEq
import HandS.Deep
import KE.KDictPairs
section
set_option Elab.async false
set_option linter.all false
set_option maxRecDepth 100000
set_option maxHeartbeats 2000000
/-! The general part: data in the heap, own rules. -/
namespace Vf
open PySem L2 Evl
/-! ### own rules -/
section
variable {X : Cx}
/-- a < b of data that are alike -/
def rLtD (K : PySem.W.Frag) : R2 := fun x y H Q => ∃ d e, Dp K H x d ∧ Dp K H y e ∧ PySem.W.alike d e = true ∧ d ≠ .none ∧ d.depth ≤ 64 ∧ Q (.bl (PySem.W.dataLt d e)) H
theorem op_ltD (hu : X.A.units + 64 < cLine) : OpR X (compareOp .Lt) (rLtD X.K) := by
  intro pins s σ H x y v u Q I rx ry h
  obtain ⟨d, e, hd, he, ha, hn, hz, q⟩ := h
  obtain ⟨as, r1⟩ := Dp.reads I d x v hd rx
  obtain ⟨bs, r2⟩ := Dp.reads I e y u he ry
  have hm : min d.depth e.depth ≤ d.depth := Nat.min_le_left _ _
  exact PySem.W.rcLt_alike d e X.A s v u as bs r1 r2 ha hn (by omega) X.prog X.w _ _ ⟨.bl _, H, I, rfl, q⟩
/-- a ** b of a great base and a small exponent -/
def CPowW (i j : Int) : Prop := 0 ≤ j ∧ (Builtin.Int.intBits i : Int) * j ≤ 2 ^ 27
theorem op_powW : OpR X (binaryOp .Pow) (rI CPowW fun i j => .int (i ^ j.toNat)) := opI fun _ _ _ _ _ _ _ hc q => PyProof.Rows.pow_int hc.1 hc.2 q
end
/-! ### data stay -/
section
variable {K : PySem.W.Frag} {H H' : Hp}
mutual
theorem dp_ex (e : Ex H H') : ∀ {v : V} {d : PyData}, Dp K H v d → Dp K H' v d
  | _, _, .non => .non
  | _, _, .bl b => .bl b
  | _, _, .int i => .int i
  | _, _, .str x => .str x
  | _, _, .lst hs ha => .lst (ex_l e hs) (dpa_ex e ha)
  | _, _, .tup hs ha => .tup (ex_t e hs) (dpa_ex e ha)
theorem dpa_ex (e : Ex H H') : ∀ {vs : List V} {ds : List PyData}, DpAll K H vs ds → DpAll K H' vs ds
  | _, _, .nil => .nil
  | _, _, .cons h t => .cons (dp_ex e h) (dpa_ex e t)
end
theorem dpa_len : ∀ {vs : List V} {ds : List PyData}, DpAll K H vs ds → vs.length = ds.length
  | _, _, .nil => rfl
  | _, _, .cons _ t => by rw [List.length_cons, List.length_cons, dpa_len t]
theorem dpa_get : ∀ {vs : List V} {ds : List PyData} {i : Nat} {v : V}, DpAll K H vs ds → vs[i]? = some v → ∃ d, ds[i]? = some d ∧ Dp K H v d
  | _, _, _, _, .nil, e => by simp at e
  | _, _, 0, _, .cons h _, e => by simp at e; subst e; exact ⟨_, rfl, h⟩
  | _, _, i + 1, v, .cons _ t, e => by
    obtain ⟨u, h1, h2⟩ := dpa_get (i := i) (v := v) t (by simpa using e)
    exact ⟨u, by simpa using h1, h2⟩
theorem dpa_at : ∀ {vs : List V} {ds : List PyData} {i : Nat} {d : PyData}, DpAll K H vs ds → ds[i]? = some d → ∃ v, vs[i]? = some v ∧ Dp K H v d
  | _, _, _, _, .nil, e => by simp at e
  | _, _, 0, _, .cons h _, e => by simp at e; subst e; exact ⟨_, rfl, h⟩
  | _, _, i + 1, d, .cons _ t, e => by
    obtain ⟨u, h1, h2⟩ := dpa_at (i := i) (d := d) t (by simpa using e)
    exact ⟨u, by simpa using h1, h2⟩
/-- the name of a datum's type -/
def tyN : PyData → String
  | .none => "NoneType" | .bool _ => "bool" | .int _ => "int" | .str _ => "str" | .list _ => "list" | .tuple _ => "tuple" | .dict _ => "dict"
theorem ty_lst {a : Addr} {xs : List V} (h : SqL K H a xs) : TyX K H (.ref a) (.type "list") := by
  rcases h with (h | ⟨o, h⟩) | ⟨o, its, n, hk, hc, _⟩
  · exact .base (.lst h)
  · exact .base (.frz h)
  · exact .kList hk hc
theorem ty_tup {a : Addr} {xs : List V} (h : SqT K H a xs) : TyX K H (.ref a) (.type "tuple") := by
  rcases h with (h | ⟨o, h⟩) | ⟨o, its, n, hk, hc, _⟩
  · exact .base (.tup h)
  · exact .fTuple h
  · exact .kTuple hk hc
theorem ty_dp {v : V} {d : PyData} (h : Dp K H v d) : TyX K H v (.type (tyN d)) := by
  cases h with
  | non => exact .base .non
  | bl b => exact .base (.bl b)
  | int i => exact .base (.int i)
  | str x => exact .base (.str x)
  | lst hs _ => exact ty_lst hs
  | tup hs _ => exact ty_tup hs
/-- isinstance(x, T) of a datum, T one of int, bool, str, list, tuple -/
def isT (n : String) (d : PyData) : Bool := (kitB (tyN d) n).getD false
def okT (n : String) : Bool := ["NoneType", "bool", "int", "str", "list", "tuple", "dict"].all fun t => (kitB t n).isSome
theorem okT_int : okT "int" = true := by decide +kernel
theorem okT_bool : okT "bool" = true := by decide +kernel
theorem okT_str : okT "str" = true := by decide +kernel
theorem okT_list : okT "list" = true := by decide +kernel
theorem okT_tuple : okT "tuple" = true := by decide +kernel
theorem kit_isT {n : String} {d : PyData} (h : okT n = true) : kitB (tyN d) n = some (isT n d) := by
  unfold okT at h
  rw [List.all_eq_true] at h
  have h2 := h (tyN d) (by cases d <;> simp [tyN])
  unfold isT
  cases e : kitB (tyN d) n with
  | none => rw [e] at h2; cases h2
  | some b => rfl
variable {σ : L2.St} {te : TE} {v : V} {d : PyData} {n : String}
theorem rc_isi (ok : okT n = true) (h : Dp K H v d) : RC (rIsi K) [v, .ty n] H (.bl (isT n d)) := fun H1 e Q q =>
  ⟨v, .ty n, .type (tyN d), .type n, isT n d, rfl, .ty n, ty_dp (dp_ex e h), kit_ty (kit_isT ok), q H1 (Ex.refl H1)⟩
theorem ev_isi (ok : okT n = true) (hv : Ev te σ H v) (h : Dp K H v d) : Ev (tCB (rIsi K) (tCons te (tCons (tC (.ty n)) tNil))) σ H (.bl (isT n d)) := ev_cb (ea_cons hv (ea_cons ev_c ea_nil)) (rc_isi ok h)
theorem isT_int : isT "int" d = (match d with | .int _ => true | .bool _ => true | _ => false) := by
  cases d <;> simp only [isT, tyN] <;> decide +kernel
theorem isT_bool : isT "bool" d = (match d with | .bool _ => true | _ => false) := by
  cases d <;> simp only [isT, tyN] <;> decide +kernel
theorem isT_str : isT "str" d = (match d with | .str _ => true | _ => false) := by
  cases d <;> simp only [isT, tyN] <;> decide +kernel
theorem isT_list : isT "list" d = (match d with | .list _ => true | _ => false) := by
  cases d <;> simp only [isT, tyN] <;> decide +kernel
theorem isT_tuple : isT "tuple" d = (match d with | .tuple _ => true | _ => false) := by
  cases d <;> simp only [isT, tyN] <;> decide +kernel
end

/-! ### either of two readings -/
section
variable {X : Cx} {e a b : Expr} {op : CmpOp} {t u : TE}
def tEi (t u : TE) : TE := fun σ H Q => t σ H Q ∨ u σ H Q
theorem pe_ei (h1 : PE X e t) (h2 : PE X e u) : PE X e (tEi t u) := ⟨fun pins s σ H Q I h => h.elim (h1.run pins s σ H Q I) (h2.run pins s σ H Q I)⟩
end
theorem hu64 {A : Around} {k : Nat} (hr : Room k A) : A.units + 64 < cLine := Nat.lt_of_le_of_lt (by omega) hr.un
/-! ### a def of the text that is called -/
structure Cal (P : Program) (w : World) (K : PySem.W.Frag) (mg : Str → Option Value) (base : Heap) (k : Nat) (x : Str) (ps : List Str) (sp : Sp) : Prop where
  ex : ∃ f fd, FnOk P w K mg base CX0 k f fd ps sp ∧ mg x = some (.ref f) ∧ PySem.W.keepIn K (.ref f) = true ∧ Binds K fd ps []
section
variable {X : Cx} {k : Nat} {x : Str} {ps : List Str} {sp : Sp} {p pos : Pos} {e : Expr} {es : List Expr} {t : TA}
theorem pe_cal (C : Cal X.prog X.w X.K X.mg X.base k x ps sp) (hr : Room k X.A) (hg : Gl X x) (ha : PA X (e :: es) t) (hdb : (x == ("__debug__" : Str)) = false := by decide)
    (he : starEach (e :: es) X.env = (false, eval e X.env) :: starEach es X.env := by rfl) (hpl : (backTo pos (starEach es X.env)).any (·.1) = false := by rfl) : PE X (.Call (.Name x p) (e :: es) [] pos) (tCall sp [] E0 t) := by
  obtain ⟨f, fd, F, hm, hk, hb⟩ := C.ex
  exact pe_call F hr hg hm hk hb .nil pass0 ha hdb he hpl
end
/-! ### what evaluates to a datum -/
section
variable {K : PySem.W.Frag} {σ σ2 : L2.St} {H H' : Hp} {ta tb te tx tl : TE} {t u : TT} {x y z v : V} {r : R2}
theorem ev_ei1 (h : Ev ta σ H v) : Ev (tEi ta tb) σ H v := fun H1 e Q q => .inl (h H1 e Q q)
theorem ev_ei2 (h : Ev tb σ H v) : Ev (tEi ta tb) σ H v := fun H1 e Q q => .inr (h H1 e Q q)
def EvD (K : PySem.W.Frag) (te : TE) (σ : L2.St) (H : Hp) (d : PyData) : Prop := ∀ H1, Ex H H1 → ∀ Q : VK, (∀ v H2, Ex H1 H2 → Dp K H2 v d → Q v H2) → te σ H1 Q
def EvDs (K : PySem.W.Frag) (ta : TA) (σ : L2.St) (H : Hp) (ds : List PyData) : Prop := ∀ H1, Ex H H1 → ∀ Q : List V → Hp → Prop, (∀ vs H2, Ex H1 H2 → DpAll K H2 vs ds → Q vs H2) → ta σ H1 Q
/-- a new list of data -/
def EvN (K : PySem.W.Frag) (te : TE) (σ : L2.St) (H : Hp) (ds : List PyData) : Prop := ∀ H1, Ex H H1 → ∀ Q : VK, (∀ p xs H2, H1 p = none → Ex H1 H2 → H2 p = some (.lst xs) → DpAll K H2 xs ds → Q (.ref p) H2) → te σ H1 Q
theorem EvD.mono {d : PyData} (e : Ex H H') (h : EvD K te σ H d) : EvD K te σ H' d := fun H1 a Q q => h H1 (e.trans a) Q q
theorem EvN.mono {ds : List PyData} (e : Ex H H') (h : EvN K te σ H ds) : EvN K te σ H' ds := fun H1 a Q q => h H1 (e.trans a) Q q
theorem ed_of {d : PyData} (h : Ev te σ H v) (hd : Dp K H v d) : EvD K te σ H d := fun H1 e Q q => h H1 e _ fun H2 e2 => q v H2 e2 (dp_ex (e.trans e2) hd)
theorem ed_n {ds : List PyData} (h : EvN K te σ H ds) : EvD K te σ H (.list ds) := fun H1 e Q q => h H1 e _ fun p xs H2 _ e2 h2 ha => q _ H2 e2 (.lst (sq_of h2) ha)
theorem ed_l {ds : List PyData} {xs : List V} (h : EvL te σ H xs) (ha : DpAll K H xs ds) : EvN K te σ H ds := fun H1 e Q q => h H1 e _ fun p H2 hp e2 h2 => q p xs H2 hp e2 h2 (dpa_ex (e.trans e2) ha)
theorem ev_bool {b : Bool} (h : EvD K te σ H (.bool b)) : Ev te σ H (.bl b) := fun H1 e Q q => h H1 e _ fun v H2 e2 hd => by
  cases hd
  exact q H2 e2
theorem ev_intD {i : Int} (h : EvD K te σ H (.int i)) : Ev te σ H (.int i) := fun H1 e Q q => h H1 e _ fun v H2 e2 hd => by
  cases hd
  exact q H2 e2
theorem ev_strD {i : Str} (h : EvD K te σ H (.str i)) : Ev te σ H (.str i) := fun H1 e Q q => h H1 e _ fun v H2 e2 hd => by
  cases hd
  exact q H2 e2
theorem eds_nil : EvDs K tNil σ H [] := fun H1 _ Q q => q [] H1 (Ex.refl H1) .nil
theorem eds_cons {tr : TA} {d : PyData} {ds : List PyData} (h : EvD K te σ H d) (hr : EvDs K tr σ H ds) : EvDs K (tCons te tr) σ H (d :: ds) := fun H1 e Q q =>
  h H1 e _ fun v H2 e2 hd => hr H2 (e.trans e2) _ fun vs H3 e3 hds => q (v :: vs) H3 (e2.trans e3) (.cons (dp_ex e3 hd) hds)
theorem ed_tup {tr : TA} {ds : List PyData} (h : EvDs K tr σ H ds) (hl : ds.length ≤ 100000) : EvD K (tTup tr) σ H (.tuple ds) := fun H1 e Q q =>
  h H1 e _ fun vs H2 e2 ha => ⟨sz_of (by rw [dpa_len ha]; exact hl), fun p hp => q _ _ (e2.trans (Ex.new hp)) (.tup (st_of upd_same) (dpa_ex (Ex.new hp) ha))⟩
theorem en_lst {tr : TA} {ds : List PyData} (h : EvDs K tr σ H ds) (hl : ds.length ≤ 100000) : EvN K (tLst tr) σ H ds := fun H1 e Q q =>
  h H1 e _ fun vs H2 e2 ha => ⟨sz_of (by rw [dpa_len ha]; exact hl), fun p hp => q _ vs _ (fresh_back e2 hp) (e2.trans (Ex.new hp)) upd_same (dpa_ex (Ex.new hp) ha)⟩
theorem edt_ite {d : PyData} {b : Bool} (h : EvT t σ H b) (h1 : b = true → EvD K ta σ H d) (h2 : b = false → EvD K tb σ H d) : EvD K (tIf t ta tb) σ H d := fun H1 e Q q => h H1 e _ fun H2 e2 => by
  cases b with
  | true =>
    show ta σ H2 Q
    exact h1 rfl H2 (e.trans e2) Q fun v H3 e3 hd => q v H3 (e2.trans e3) hd
  | false =>
    show tb σ H2 Q
    exact h2 rfl H2 (e.trans e2) Q fun v H3 e3 hd => q v H3 (e2.trans e3) hd
/-- an operation on two data -/
def RD (K : PySem.W.Frag) (r : R2) (d e : PyData) (H : Hp) (z : V) : Prop := ∀ H1, Ex H H1 → ∀ x y, Dp K H1 x d → Dp K H1 y e → ∀ Q : VK, Q z H1 → r x y H1 Q
theorem ev_opD {d d' : PyData} (ha : EvD K ta σ H d) (hb : EvD K tb σ H d') (hr : RD K r d d' H z) : Ev (tOp r ta tb) σ H z := fun H1 e Q q =>
  ha H1 e _ fun x H2 e2 hx => hb H2 (e.trans e2) _ fun y H3 e3 hy => hr H3 ((e.trans e2).trans e3) x y (dp_ex e3 hx) hy Q (q H3 (e2.trans e3))
theorem rd_ltD {d d' : PyData} (h : PySem.W.alike d d' = true) (hn : d ≠ .none) (hz : d.depth ≤ 64) : RD K (rLtD K) d d' H (.bl (PySem.W.dataLt d d')) := fun H1 _ x y hx hy Q q => ⟨d, d', hx, hy, h, hn, hz, q⟩
theorem rd_eqD {d d' : PyData} (h : SeqAt.shaped d = true) (h' : SeqAt.shaped d' = true) : RD K (rEqD K) d d' H (.bl (PyData.eqv d d')) := fun H1 _ x y hx hy Q q => ⟨d, d', hx, hy, h, h', q⟩
theorem rd_neD {d d' : PyData} (h : SeqAt.shaped d = true) (h' : SeqAt.shaped d' = true) : RD K (rNeD K) d d' H (.bl (!PyData.eqv d d')) := fun H1 _ x y hx hy Q q => ⟨d, d', hx, hy, h, h', q⟩
theorem rd_eqS {a b : Str} : RD K rEq (.str a) (.str b) H (.bl (decide (a = b))) := fun H1 _ x y hx hy Q q => by
  cases hx
  cases hy
  refine ⟨rfl, ?_⟩
  have e : decide (V.str a = V.str b) = decide (a = b) := by
    by_cases h : a = b
    · subst h; simp
    · rw [decide_eq_false h]; exact decide_eq_false fun z => h (V.str.inj z)
  rw [e]
  exact q
theorem rd_neS {a b : Str} : RD K rNe (.str a) (.str b) H (.bl (!decide (a = b))) := fun H1 _ x y hx hy Q q => by
  cases hx
  cases hy
  refine ⟨rfl, ?_⟩
  have e : decide (V.str a = V.str b) = decide (a = b) := by
    by_cases h : a = b
    · subst h; simp
    · rw [decide_eq_false h]; exact decide_eq_false fun z => h (V.str.inj z)
  rw [e]
  exact q
theorem rd_I0 {g : Int → Int → V} {i j : Int} : RD K (rI0 g) (.int i) (.int j) H (g i j) := fun H1 _ x y hx hy Q q => by
  cases hx
  cases hy
  exact ⟨i, j, rfl, rfl, q⟩
/-- len of a list or tuple -/
theorem ev_lenT {p : Addr} {xs : List V} (ha : Ev ta σ H (.ref p)) (h : SqT K H p xs) : Ev (tCB (rLenS K) (tCons ta tNil)) σ H (.int (xs.length : Int)) := fun H1 e Q q =>
  ha H1 e _ fun H2 e2 => ⟨p, xs, rfl, Or.inr (ex_t (e.trans e2) h), q H2 e2⟩
theorem ev_lenD {ds : List PyData} (ha : EvD K ta σ H (.tuple ds)) : Ev (tCB (rLenS K) (tCons ta tNil)) σ H (.int (ds.length : Int)) := fun H1 e Q q =>
  ha H1 e _ fun v H2 e2 hd => by
    cases hd with
    | tup hs hall =>
      refine ⟨_, _, rfl, Or.inr hs, ?_⟩
      rw [dpa_len hall]
      exact q H2 e2
theorem ev_lenL {ds : List PyData} (ha : EvD K ta σ H (.list ds)) : Ev (tCB (rLenS K) (tCons ta tNil)) σ H (.int (ds.length : Int)) := fun H1 e Q q =>
  ha H1 e _ fun v H2 e2 hd => by
    cases hd with
    | lst hs hall =>
      refine ⟨_, _, rfl, Or.inl hs, ?_⟩
      rw [dpa_len hall]
      exact q H2 e2
def rLenStr : List V → Hp → VK → Prop := fun xs H Q => ∃ z, xs = [.str z] ∧ z.length ≤ sizeLine ∧ Q (.int z.length) H
theorem ev_lenStr {s : Str} (ha : Ev ta σ H (.str s)) (h : s.length ≤ 100000) : Ev (tCB rLenStr (tCons ta tNil)) σ H (.int (s.length : Int)) := fun H1 e Q q =>
  ha H1 e _ fun H2 e2 => ⟨s, rfl, sz_of h, q H2 e2⟩
/-- xs[i] -/
theorem atI_of {ds : List PyData} {vs : List V} {i : Int} {j : Nat} {d : PyData} (h : DpAll K H vs ds) (hi : i = (j : Int)) (hd : ds[j]? = some d) : ∃ v, atI vs i = some v ∧ Dp K H v d := by
  obtain ⟨v, h1, h2⟩ := dpa_at h hd
  exact ⟨v, at_of hi h1, h2⟩
theorem ed_ixT {ds : List PyData} {i : Int} {d : PyData} (j : Nat) (ha : EvD K ta σ H (.tuple ds)) (hb : Ev tb σ H (.int i)) (hi : i = (j : Int)) (hd : ds[j]? = some d) : EvD K (tOp (rIxT K) ta tb) σ H d := fun H1 e Q q =>
  ha H1 e _ fun v H2 e2 h2 => hb H2 (e.trans e2) _ fun H3 e3 => by
    cases h2 with
    | tup hs hall =>
      obtain ⟨w, h4, h5⟩ := atI_of (dpa_ex e3 hall) hi hd
      exact ⟨_, _, i, w, rfl, rfl, ex_t e3 hs, h4, q w H3 (e2.trans e3) h5⟩
theorem ed_ixL {ds : List PyData} {i : Int} {d : PyData} (j : Nat) (ha : EvD K ta σ H (.list ds)) (hb : Ev tb σ H (.int i)) (hi : i = (j : Int)) (hd : ds[j]? = some d) : EvD K (tOp (rIxL K) ta tb) σ H d := fun H1 e Q q =>
  ha H1 e _ fun v H2 e2 h2 => hb H2 (e.trans e2) _ fun H3 e3 => by
    cases h2 with
    | lst hs hall =>
      obtain ⟨w, h4, h5⟩ := atI_of (dpa_ex e3 hall) hi hd
      exact ⟨_, _, i, w, rfl, rfl, ex_l e3 hs, h4, q w H3 (e2.trans e3) h5⟩
/-- of a list or a tuple -/
def seqD (b : Bool) (ds : List PyData) : PyData := if b = true then .list ds else .tuple ds
theorem ed_ixS {b : Bool} {ds : List PyData} {i : Int} {d : PyData} (j : Nat) (ha : EvD K ta σ H (seqD b ds)) (hb : Ev tb σ H (.int i)) (hi : i = (j : Int)) (hd : ds[j]? = some d) : EvD K (tOp (rIx K) ta tb) σ H d := fun H1 e Q q =>
  ha H1 e _ fun v H2 e2 h2 => hb H2 (e.trans e2) _ fun H3 e3 => by
    cases b with
    | true =>
      cases h2 with
      | lst hs hall =>
        obtain ⟨w, h4, h5⟩ := atI_of (dpa_ex e3 hall) hi hd
        exact .inl ⟨_, _, i, w, rfl, rfl, ex_l e3 hs, h4, q w H3 (e2.trans e3) h5⟩
    | false =>
      cases h2 with
      | tup hs hall =>
        obtain ⟨w, h4, h5⟩ := atI_of (dpa_ex e3 hall) hi hd
        exact .inr (.inl ⟨_, _, i, w, rfl, rfl, ex_t e3 hs, h4, q w H3 (e2.trans e3) h5⟩)
theorem ev_lenSeq {b : Bool} {ds : List PyData} (ha : EvD K ta σ H (seqD b ds)) : Ev (tCB (rLenS K) (tCons ta tNil)) σ H (.int (ds.length : Int)) := by
  cases b with
  | true => exact ev_lenL ha
  | false => exact ev_lenD ha
/-- all(a list of bools) -/
theorem dpa_bools : ∀ {vs : List V} {bs : List Bool}, DpAll K H vs (bs.map PyData.bool) → vs = bs.map V.bl
  | [], [], _ => rfl
  | [], _ :: _, h => by cases h
  | _ :: _, [], h => by cases h
  | v :: vs, b :: bs, h => by
    cases h with
    | cons h1 h2 =>
      cases h1
      rw [dpa_bools h2, List.map_cons]
theorem ev_all {bs : List Bool} (h : EvD K tl σ H (.list (bs.map PyData.bool))) : Ev (tCB (rAll K) (tCons tl tNil)) σ H (.bl (bs.all id)) := fun H1 e Q q =>
  h H1 e _ fun v H2 e2 hd => by
    cases hd with
    | lst hs hall =>
      rw [dpa_bools hall] at hs
      exact ⟨_, bs, rfl, hs, q H2 e2⟩
/-- a < b < c -/
theorem ev_chain {r' : R2} {tc : TE} {b c : Bool} {d d' d2 : PyData} (ha : EvD K ta σ H d) (hb : EvD K tb σ H d') (hr : RD K r d d' H (.bl b)) (hc : b = true → EvD K tc σ H d2) (hr' : b = true → RD K r' d' d2 H (.bl c)) :
    Ev (tChain r r' ta tb tc) σ H (.bl (b && c)) := fun H1 e Q q =>
  ha H1 e _ fun x H2 e2 hx => hb H2 (e.trans e2) _ fun y H3 e3 hy => hr H3 ((e.trans e2).trans e3) x y (dp_ex e3 hx) hy _ ⟨b, rfl, by
    cases b with
    | true =>
      show tc σ H3 fun w' H4 => r' y w' H4 Q
      exact hc rfl H3 ((e.trans e2).trans e3) _ fun z H4 e4 hz => hr' rfl H4 (((e.trans e2).trans e3).trans e4) y z (dp_ex e4 hy) hz Q (q H4 ((e2.trans e3).trans e4))
    | false =>
      show Q (.bl false) H3
      exact q H3 (e2.trans e3)⟩
/-- a dict told by texts -/
theorem ev_dget {a : Addr} {kvs : List (Key × V)} {k : Key} {d : PyData} (ha : Ev ta σ H (.ref a)) (hd : H a = some (.dK kvs)) (hk : Ev tb σ H (kV k)) (hv : valV kvs k = some v) : Ev (tDGet ta tb) σ H v := fun H1 e Q q =>
  ha H1 e _ fun H2 e2 => hk H2 (e.trans e2) _ fun H3 e3 => ⟨a, v, rfl, by
    have g := DGet.k (k := k) (((e.trans e2).trans e3) a _ hd)
    rw [hv] at g
    exact g, q H3 (e2.trans e3)⟩
theorem ev_din {a : Addr} {kvs : List (Key × V)} {k : Key} {b : Bool} (hk : Ev tb σ H (kV k)) (ha : Ev ta σ H (.ref a)) (hd : H a = some (.dK kvs)) (hb : (valV kvs k).isSome = b) : Ev (tDIn tb ta) σ H (.bl b) := fun H1 e Q q =>
  hk H1 e _ fun H2 e2 => ha H2 (e.trans e2) _ fun H3 e3 => ⟨a, valV kvs k, rfl, DGet.k (((e.trans e2).trans e3) a _ hd), by
    rw [hb]
    exact q H3 (e2.trans e3)⟩
theorem ev_dnin {a : Addr} {kvs : List (Key × V)} {k : Key} {b : Bool} (hk : Ev tb σ H (kV k)) (ha : Ev ta σ H (.ref a)) (hd : H a = some (.dK kvs)) (hb : (valV kvs k).isSome = b) : Ev (tDNotIn tb ta) σ H (.bl (!b)) := fun H1 e Q q =>
  hk H1 e _ fun H2 e2 => ha H2 (e.trans e2) _ fun H3 e3 => ⟨a, valV kvs k, rfl, DGet.k (((e.trans e2).trans e3) a _ hd), by
    rw [hb]
    exact q H3 (e2.trans e3)⟩
/-- a promise that takes a datum and gives a value -/
theorem ev_callD {sp : Sp} {tr : TA} {E : XK} {ds : List PyData} (h : EvDs K tr σ H ds) (hs : ∀ H1 vs, Ex H H1 → DpAll K H1 vs ds → SpV sp (vs ++ []) H1 z) : Ev (tCall sp [] E tr) σ H z := fun H1 e Q q =>
  h H1 e _ fun vs H2 e2 ha => hs H2 vs (e.trans e2) ha H2 (Ex.refl H2) Q (fun H3 e3 => q H3 (e2.trans e3)) E
/-! ### comprehensions -/
def givenD (n : Nat) (f : Nat → Bool) (v : Nat → PyData) : List PyData := ((List.range n).filter f).map v
theorem givenD_yes {n : Nat} {f : Nat → Bool} {v : Nat → PyData} (h : f n = true) : givenD (n + 1) f v = givenD n f v ++ [v n] := by
  unfold givenD
  rw [List.range_succ, List.filter_append, List.map_append, List.filter_cons, if_pos h] <;> rfl
theorem givenD_no {n : Nat} {f : Nat → Bool} {v : Nat → PyData} (h : f n = false) : givenD (n + 1) f v = givenD n f v := by
  unfold givenD
  rw [List.range_succ, List.filter_append, List.map_append, List.filter_cons, if_neg (by rw [h]; decide)]
  show _ ++ [] = _
  rw [List.append_nil]
theorem givenD_len (n : Nat) (f : Nat → Bool) (v : Nat → PyData) : (givenD n f v).length ≤ n := by
  unfold givenD
  rw [List.length_map]
  have h := List.length_filter_le f (List.range n)
  rw [List.length_range] at h
  exact h
theorem dpa_snoc : ∀ {vs : List V} {ds : List PyData} {v : V} {d : PyData}, DpAll K H vs ds → Dp K H v d → DpAll K H (vs ++ [v]) (ds ++ [d])
  | _, _, _, _, .nil, h => .cons h .nil
  | _, _, _, _, .cons h t, h' => .cons h (dpa_snoc t h')
/-- the heap without one place -/
def but (H : Hp) (p : Addr) : Hp := fun b => if b = p then none else H b
theorem but_ex (H : Hp) (p : Addr) : Ex (but H p) H := fun b o h => by
  unfold but at h
  split at h
  · cases h
  · exact h
theorem but_same {p : Addr} : but H p p = none := by unfold but; rw [if_pos rfl]
theorem ex_but {p : Addr} (e : Ex H H') (h : H p = none) : Ex H (but H' p) := fun b o hb => by
  unfold but
  rw [if_neg (ne_of_none hb h)]
  exact e b o hb
theorem but_upd {p : Addr} {o : HO} (e : Ex H H') : Ex (but H p) (upd H' p o) := fun b u hb => by
  unfold but at hb
  split at hb
  · cases hb
  · rename_i hn
    rw [upd_ne hn]
    exact e b u hb
theorem but_mono {p : Addr} (e : Ex H H') : Ex (but H p) (but H' p) := fun b u hb => by
  unfold but at hb ⊢
  split at hb
  · cases hb
  · rename_i hn
    rw [if_neg hn]
    exact e b u hb
theorem but_put {p : Addr} {o : HO} : but (upd H p o) p = but H p := by
  funext b
  unfold but upd
  split <;> rfl
mutual
/-- no list, no dict in it -/
def noL : PyData → Bool
  | .list _ => false
  | .dict _ => false
  | .tuple xs => noLs xs
  | _ => true
def noLs : List PyData → Bool
  | [] => true
  | x :: xs => noL x && noLs xs
end
theorem sqt_but {p a : Addr} {xs ys : List V} (hp : H p = some (.lst ys)) (h : SqT K H a xs) : SqT K (but H p) a xs := by
  have ne : ∀ o, H a = some o → (∀ zs, o ≠ .lst zs) → a ≠ p := fun o e n z => by
    subst z
    rw [e] at hp
    exact n ys (Option.some.inj hp)
  rcases h with (h | ⟨o, h⟩) | h
  · refine .inl (.inl ?_)
    unfold but
    rw [if_neg (ne _ h fun zs z => nomatch z)]
    exact h
  · refine .inl (.inr ⟨o, ?_⟩)
    unfold but
    rw [if_neg (ne _ h fun zs z => nomatch z)]
    exact h
  · exact .inr h
mutual
theorem dp_but {p : Addr} {ys : List V} : ∀ {v : V} {d : PyData}, noL d = true → Dp K H v d → H p = some (.lst ys) → Dp K (but H p) v d
  | _, _, _, .non, _ => .non
  | _, _, _, .bl b, _ => .bl b
  | _, _, _, .int i, _ => .int i
  | _, _, _, .str x, _ => .str x
  | _, _, n, .lst hs ha, _ => nomatch n
  | _, _, n, .tup hs ha, hp => .tup (sqt_but hp hs) (dpa_but n ha hp)
theorem dpa_but {p : Addr} {ys : List V} : ∀ {vs : List V} {ds : List PyData}, noLs ds = true → DpAll K H vs ds → H p = some (.lst ys) → DpAll K (but H p) vs ds
  | _, _, _, .nil, _ => .nil
  | _, _, n, .cons h t, hp => .cons (dp_but (Bool.and_eq_true_iff.mp n).1 h hp) (dpa_but (Bool.and_eq_true_iff.mp n).2 t hp)
end
/-- the list being made stands at Dl; its items are data that don't lean on Dl -/
def Cd (K : PySem.W.Frag) (H : Hp) (f : Nat → Bool) (v : Nat → PyData) (Dl : Addr) (i : Nat) (H' : Hp) : Prop := H Dl = none ∧ Ex H H' ∧ ∃ xs, H' Dl = some (.lst xs) ∧ DpAll K (but H' Dl) xs (givenD i f v)
/-- evaluates, and what comes doesn't lean on a place that is not known yet -/
theorem cd_turn {f : Nat → Bool} {v : Nat → PyData} {Dl : Addr} {i : Nat} (p : Cd K H f v Dl i H') (hi : i < 50000) (ht : EvT t σ2 H (f i)) (he : f i = true → EvD K te σ2 H (v i)) (hf : f i = true → noL (v i) = true) :
    t σ2 H' fun b H3 => if b = true then te σ2 H3 fun y H4 => ∃ acc, H4 Dl = some (.lst acc) ∧ acc.length < sizeLine ∧ Cd K H f v Dl (i + 1) (upd H4 Dl (.lst (acc ++ [y]))) else Cd K H f v Dl (i + 1) H3 := by
  obtain ⟨p1, p2, xs, p3, p4⟩ := p
  refine ht H' p2 _ fun H3 e3 => ?_
  cases hfi : f i with
  | true =>
    show te σ2 H3 fun y H4 => ∃ acc, H4 Dl = some (.lst acc) ∧ acc.length < sizeLine ∧ Cd K H f v Dl (i + 1) (upd H4 Dl (.lst (acc ++ [y])))
    refine he hfi H3 (p2.trans e3) _ fun y H4 e4 hd => ⟨xs, e4 Dl _ (e3 Dl _ p3), sz_lt ?_, p1, Ex.mut ((p2.trans e3).trans e4) p1, xs ++ [y], upd_same, ?_⟩
    · rw [dpa_len p4]
      have := givenD_len i f v
      omega
    · rw [givenD_yes hfi, but_put]
      exact dpa_snoc (dpa_ex (but_mono (e3.trans e4)) p4) (dp_but (hf hfi) hd (e4 Dl _ (e3 Dl _ p3)))
  | false =>
    show Cd K H f v Dl (i + 1) H3
    refine ⟨p1, p2.trans e3, xs, e3 Dl _ p3, ?_⟩
    rw [givenD_no hfi]
    exact dpa_ex (but_mono e3) p4
end
end Vf
end
section
set_option Elab.async false
set_option linter.all false
set_option maxRecDepth 100000
set_option maxHeartbeats 2000000
namespace Vf
open PySem L2 Evl
section
variable {K : PySem.W.Frag} {σ σ2 : L2.St} {H H' : Hp} {ta tb te tx tl tk tv : TE} {t u : TT} {x y z v : V} {r : R2} {D : Ends} {tu tw tz : TS} {g : TG}
/-! ### comprehensions over a tuple, a list, a range, a text -/
/-- one turn's target: from what is drawn the slots σ2 come, the block's own ones alone changed -/
def GoesTo (g : TG) (x : V) (σ σ2 : L2.St) (H : Hp) : Prop := ∀ (R : L2.St → Hp → Prop) (H2 : Hp), Ex H H2 → R σ2 H2 → g x σ H2 R
theorem goes_name {i : Nat} : GoesTo (gName i) x σ (σ.set i (some x)) H := fun R H2 _ h => h
theorem goes_tup2 {i j : Nat} {a : Addr} (h : SqT K H a [x, y]) : GoesTo (gTup K 2 (gCons (gName i) (gCons (gName j) gNil))) (.ref a) σ ((σ.set i (some x)).set j (some y)) H := fun R H2 e q =>
  ⟨a, [x, y], rfl, ex_t e h, rfl, x, [y], rfl, y, [], rfl, rfl, q⟩
theorem goes_tup3 {i j k : Nat} {a : Addr} (h : SqT K H a [x, y, z]) : GoesTo (gTup K 3 (gCons (gName i) (gCons (gName j) (gCons (gName k) gNil)))) (.ref a) σ (((σ.set i (some x)).set j (some y)).set k (some z)) H := fun R H2 e q =>
  ⟨a, [x, y, z], rfl, ex_t e h, rfl, x, [y, z], rfl, y, [z], rfl, z, [], rfl, rfl, q⟩
theorem goes_tup4 {i j k l : Nat} {a : Addr} (h : SqT K H a [x, y, z, v]) : GoesTo (gTup K 4 (gCons (gName i) (gCons (gName j) (gCons (gName k) (gCons (gName l) gNil))))) (.ref a) σ ((((σ.set i (some x)).set j (some y)).set k (some z)).set l (some v)) H := fun R H2 e q =>
  ⟨a, [x, y, z, v], rfl, ex_t e h, rfl, x, [y, z, v], rfl, y, [z, v], rfl, z, [v], rfl, v, [], rfl, rfl, q⟩
variable {vs : List Nat}
theorem en_lcT {ds : List PyData} (f : Nat → Bool) (w : Nat → PyData) (h : EvD K tl σ H (.tuple ds)) (hz : ds.length ≤ 40000) (hn : ∀ i, f i = true → noL (w i) = true)
    (hg : ∀ (i : Nat) (x : V) (d : PyData) H1, Ex H H1 → ds[i]? = some d → Dp K H1 x d → ∃ σ2, wipe σ2 vs = wipe σ vs ∧ GoesTo g x (wipe σ vs) σ2 H1 ∧ EvT t σ2 H1 (f i) ∧ (f i = true → EvD K te σ2 H1 (w i))) :
    EvN K (tLc (iTup K tl) g t te vs) σ H (givenD ds.length f w) := fun H0 e Q q => h H0 e _ fun a0 H1 e1 hd => by
  cases hd with
  | @tup a xs _ hs hall =>
    refine ⟨a, rfl, ⟨xs, hs⟩, fun Dl hD => lc_tup (xs := xs) (Cd K H1 f w Dl) ⟨hD, Ex.new hD, [], upd_same, .nil⟩ (fun i H' _ p => ex_t p.2.1 hs) (fun i x H' hi p => ?_) (fun H' p => ?_)⟩
    · obtain ⟨d, hi2, hxd⟩ := dpa_get hall hi
      obtain ⟨σ2, w1, w2, w3, w4⟩ := hg i x d H1 (e.trans e1) hi2 hxd
      exact w2 _ H' p.2.1 ⟨w1, cd_turn p (by have := (List.getElem?_eq_some_iff.mp hi2).1; omega) w3 w4 (hn i)⟩
    · obtain ⟨p1, p2, ys, p3, p4⟩ := p
      rw [dpa_len hall] at p4
      exact q Dl ys H' (fresh_back e1 p1) (e1.trans p2) p3 (dpa_ex (but_ex _ _) p4)
theorem en_lcL {ds : List PyData} (f : Nat → Bool) (w : Nat → PyData) (h : EvD K tl σ H (.list ds)) (hz : ds.length ≤ 40000) (hn : ∀ i, f i = true → noL (w i) = true)
    (hg : ∀ (i : Nat) (x : V) (d : PyData) H1, Ex H H1 → ds[i]? = some d → Dp K H1 x d → ∃ σ2, wipe σ2 vs = wipe σ vs ∧ GoesTo g x (wipe σ vs) σ2 H1 ∧ EvT t σ2 H1 (f i) ∧ (f i = true → EvD K te σ2 H1 (w i))) :
    EvN K (tLc (iList K tl) g t te vs) σ H (givenD ds.length f w) := fun H0 e Q q => h H0 e _ fun a0 H1 e1 hd => by
  cases hd with
  | @lst a xs _ hs hall =>
    refine ⟨a, rfl, ⟨xs, hs⟩, fun Dl hD => lc_list (xs := xs) (Cd K H1 f w Dl) ⟨hD, Ex.new hD, [], upd_same, .nil⟩ (fun i H' _ p => ex_l p.2.1 hs) (fun i x H' hi p => ?_) (fun H' p => ?_)⟩
    · obtain ⟨d, hi2, hxd⟩ := dpa_get hall hi
      obtain ⟨σ2, w1, w2, w3, w4⟩ := hg i x d H1 (e.trans e1) hi2 hxd
      exact w2 _ H' p.2.1 ⟨w1, cd_turn p (by have := (List.getElem?_eq_some_iff.mp hi2).1; omega) w3 w4 (hn i)⟩
    · obtain ⟨p1, p2, ys, p3, p4⟩ := p
      rw [dpa_len hall] at p4
      exact q Dl ys H' (fresh_back e1 p1) (e1.trans p2) p3 (dpa_ex (but_ex _ _) p4)
theorem en_lcR {ta : TA} {n : Int} (m : Nat) (f : Nat → Bool) (w : Nat → PyData) (h : EvA ta σ H [.int n]) (hm : n.toNat = m) (hz : -40000 ≤ n ∧ n ≤ 40000) (hn : ∀ i, f i = true → noL (w i) = true)
    (hg : ∀ (i : Nat) H1, Ex H H1 → i < m → ∃ σ2, wipe σ2 vs = wipe σ vs ∧ GoesTo g (.int (i : Int)) (wipe σ vs) σ2 H1 ∧ EvT t σ2 H1 (f i) ∧ (f i = true → EvD K te σ2 H1 (w i))) :
    EvN K (tLc (iRng1 ta) g t te vs) σ H (givenD m f w) := fun H0 e Q q => h H0 e _ fun H1 e1 => ⟨n, rfl, by omega, by omega, fun Dl hD => by
  subst hm
  refine lc_range (lo := 0) (n := n.toNat) (Cd K H1 f w Dl) ⟨hD, Ex.new hD, [], upd_same, .nil⟩ (fun i H' hi p => ?_) (fun H' p => ?_)
  · rw [Int.zero_add]
    obtain ⟨σ2, w1, w2, w3, w4⟩ := hg i H1 (e.trans e1) hi
    exact w2 _ H' p.2.1 ⟨w1, cd_turn p (by omega) w3 w4 (hn i)⟩
  · obtain ⟨p1, p2, ys, p3, p4⟩ := p
    exact q Dl ys H' (fresh_back e1 p1) (e1.trans p2) p3 (dpa_ex (but_ex _ _) p4)⟩
theorem en_lcS {s : Str} (f : Nat → Bool) (w : Nat → PyData) (h : Ev tl σ H (.str s)) (hz : s.cps.size ≤ 40000) (hn : ∀ i, f i = true → noL (w i) = true)
    (hg : ∀ (i c : Nat) H1, Ex H H1 → s.cps[i]? = some c → ∃ σ2, wipe σ2 vs = wipe σ vs ∧ GoesTo g (.str ⟨#[c]⟩) (wipe σ vs) σ2 H1 ∧ EvT t σ2 H1 (f i) ∧ (f i = true → EvD K te σ2 H1 (w i))) :
    EvN K (tLc (iStr tl) g t te vs) σ H (givenD s.cps.size f w) := fun H0 e Q q => h H0 e _ fun H1 e1 => ⟨s, rfl, fun Dl hD => by
  refine ⟨fun i m H => m = s.cps.size - i ∧ i ≤ s.cps.size ∧ Cd K H1 f w Dl i H, ⟨s.cps.size, by simp, Nat.zero_le _, hD, Ex.new hD, [], upd_same, .nil⟩, ?_⟩
  rintro i m H2 ⟨rfl, hi, p⟩
  by_cases hlt : i < s.cps.size
  · refine .inr ⟨hlt, Cd K H1 f w Dl (i + 1), fun H' p' => ⟨s.cps.size - (i + 1), by omega, rfl, hlt, p'⟩, fun x H' y => ?_⟩
    obtain ⟨e2, c, hc, rfl⟩ := y
    subst e2
    obtain ⟨σ2, w1, w2, w3, w4⟩ := hg i c H1 (e.trans e1) hc
    exact w2 _ _ p.2.1 ⟨w1, cd_turn p (by omega) w3 w4 (hn i)⟩
  · have e3 : i = s.cps.size := by omega
    subst e3
    obtain ⟨p1, p2, ys, p3, p4⟩ := p
    exact .inl ⟨Nat.le_refl _, q Dl ys H2 (fresh_back e1 p1) (e1.trans p2) p3 (dpa_ex (but_ex _ _) p4)⟩⟩
/-! ### dict comprehensions over a tuple -/
/-- the pairs put, one after another -/
def putAll (n : Nat) (k : Nat → Key) (w : Nat → V) : List (Key × V) := (List.range n).foldl (fun acc i => putK acc (k i) (w i)) []
theorem putAll_succ {n : Nat} {k : Nat → Key} {w : Nat → V} : putAll (n + 1) k w = putK (putAll n k w) (k n) (w n) := by
  unfold putAll
  rw [List.range_succ, List.foldl_append]
  rfl
theorem putAll_len (k : Nat → Key) (w : Nat → V) : ∀ n, (putAll n k w).length ≤ n
  | 0 => Nat.le_refl _
  | n + 1 => by
    rw [putAll_succ]
    have h1 := length_putK (putAll n k w) (k n) (w n)
    have h2 := putAll_len k w n
    omega
/-- a new dict -/
def EvK (te : TE) (σ : L2.St) (H : Hp) (kvs : List (Key × V)) : Prop := ∀ H1, Ex H H1 → ∀ Q : VK, (∀ p H2, H1 p = none → Ex H1 H2 → H2 p = some (.dK kvs) → Q (.ref p) H2) → te σ H1 Q
theorem ek_dcT {ds : List PyData} (k : Nat → Key) (w : Nat → V) (h : EvD K tl σ H (.tuple ds)) (hz : ds.length ≤ 40000)
    (hg : ∀ (i : Nat) (x : V) (d : PyData) H1, Ex H H1 → ds[i]? = some d → Dp K H1 x d → ∃ σ2, wipe σ2 vs = wipe σ vs ∧ GoesTo g x (wipe σ vs) σ2 H1 ∧ EvT t σ2 H1 true ∧ Ev tk σ2 H1 (kV (k i)) ∧ Ev tv σ2 H1 (w i)) :
    EvK (tDc (iTup K tl) g t tk tv vs) σ H (putAll ds.length k w) := fun H0 e Q q => h H0 e _ fun a0 H1 e1 hd => by
  cases hd with
  | @tup a xs _ hs hall =>
    refine ⟨a, rfl, ⟨xs, hs⟩, fun Dl hD => ?_⟩
    refine ⟨fun i m H => m = xs.length - i ∧ i ≤ xs.length ∧ Ex H1 H ∧ H Dl = some (.dK (putAll i k w)), ⟨xs.length, by simp, Nat.zero_le _, Ex.new hD, upd_same⟩, ?_⟩
    rintro i m H2 ⟨rfl, hi, p1, p2⟩
    by_cases hlt : i < xs.length
    · refine .inr ⟨⟨xs, xs[i], ex_t p1 hs, by simp [hlt]⟩, fun H' => Ex H1 H' ∧ H' Dl = some (.dK (putAll (i + 1) k w)), fun H' p' => ⟨xs.length - (i + 1), by omega, rfl, hlt, p'.1, p'.2⟩, fun x H' y => ?_⟩
      obtain ⟨e2, y⟩ := y
      subst e2
      have hx : xs[i]? = some x := y xs (ex_t p1 hs)
      obtain ⟨d, hi2, hxd⟩ := dpa_get hall hx
      obtain ⟨σ2, w1, w2, w3, w4, w5⟩ := hg i x d H1 (e.trans e1) hi2 hxd
      refine w2 _ _ p1 ⟨w1, w3 _ p1 _ fun H3 e3 => ?_⟩
      show tk σ2 H3 _
      refine w4 H3 (p1.trans e3) _ fun H4 e4 => w5 H4 ((p1.trans e3).trans e4) _ fun H5 e5 => ⟨putAll i k w, k i, rfl, e5 _ _ (e4 _ _ (e3 _ _ p2)), sz_lt ?_, Ex.mut (((p1.trans e3).trans e4).trans e5) hD, ?_⟩
      · have h1 := putAll_len k w i
        have h2 := dpa_len hall
        omega
      · rw [putAll_succ]
        exact upd_same
    · have e3 : i = xs.length := by omega
      subst e3
      rw [dpa_len hall] at p2
      exact .inl ⟨⟨xs, ex_t p1 hs, Nat.le_refl _⟩, q Dl H2 (fresh_back e1 hD) (e1.trans p1) p2⟩
/-! ### statements -/
theorem q_asgD {i : Nat} {d : PyData} (h : EvD K te σ H d) (k : ∀ v H1, Ex H H1 → Dp K H1 v d → tz D (σ.set i (some v)) H1) : tSeq (tAsg te (gName i)) tz D σ H := h H (Ex.refl H) _ fun v H1 e hd => k v H1 e hd
theorem q_asgK {i : Nat} {kvs : List (Key × V)} (h : EvK te σ H kvs) (k : ∀ p H1, H p = none → Ex H H1 → H1 p = some (.dK kvs) → tz D (σ.set i (some (.ref p))) H1) : tSeq (tAsg te (gName i)) tz D σ H := h H (Ex.refl H) _ fun p H1 hp e hd => k p H1 hp e hd
theorem q_asgN {i : Nat} {ds : List PyData} (h : EvN K te σ H ds) (k : ∀ p xs H1, H p = none → Ex H H1 → H1 p = some (.lst xs) → DpAll K H1 xs ds → tz D (σ.set i (some (.ref p))) H1) : tSeq (tAsg te (gName i)) tz D σ H := h H (Ex.refl H) _ fun p xs H1 hp e hd ha => k p xs H1 hp e hd ha
theorem q_unp3 {i j l : Nat} {d1 d2 d3 : PyData} (h : EvD K te σ H (.tuple [d1, d2, d3])) (k : ∀ v1 v2 v3 H1, Ex H H1 → Dp K H1 v1 d1 → Dp K H1 v2 d2 → Dp K H1 v3 d3 → tz D (((σ.set i (some v1)).set j (some v2)).set l (some v3)) H1) :
    tSeq (tAsg te (gTup K 3 (gCons (gName i) (gCons (gName j) (gCons (gName l) gNil))))) tz D σ H := h H (Ex.refl H) _ fun v H1 e hd => by
  cases hd with
  | tup hs ha =>
    cases ha with
    | cons h1 ha => cases ha with
      | cons h2 ha => cases ha with
        | cons h3 ha => cases ha; exact goes_tup3 hs _ H1 (Ex.refl H1) (k _ _ _ H1 e h1 h2 h3)
theorem q_unp4 {i j l m : Nat} {d1 d2 d3 d4 : PyData} (h : EvD K te σ H (.tuple [d1, d2, d3, d4])) (k : ∀ v1 v2 v3 v4 H1, Ex H H1 → Dp K H1 v1 d1 → Dp K H1 v2 d2 → Dp K H1 v3 d3 → Dp K H1 v4 d4 → tz D ((((σ.set i (some v1)).set j (some v2)).set l (some v3)).set m (some v4)) H1) :
    tSeq (tAsg te (gTup K 4 (gCons (gName i) (gCons (gName j) (gCons (gName l) (gCons (gName m) gNil)))))) tz D σ H := h H (Ex.refl H) _ fun v H1 e hd => by
  cases hd with
  | tup hs ha =>
    cases ha with
    | cons h1 ha => cases ha with
      | cons h2 ha => cases ha with
        | cons h3 ha => cases ha with
          | cons h4 ha => cases ha; exact goes_tup4 hs _ H1 (Ex.refl H1) (k _ _ _ _ H1 e h1 h2 h3 h4)
/-- d[k] = v -/
theorem s_dput {a : Addr} {kvs : List (Key × V)} {k : Key} (hd : H a = some (.dK kvs)) (hv : Ev tv σ H v) (ha : Ev ta σ H (.ref a)) (hk : Ev tk σ H (kV k)) (hl : kvs.length < 100000)
    (q : ∀ H1, Ex H H1 → D.nx σ (upd H1 a (.dK (putK kvs k v)))) : sDPut ta tk tv D σ H := hv H (Ex.refl H) _ fun H1 e1 => ha H1 e1 _ fun H2 e2 => hk H2 (e1.trans e2) _ fun H3 e3 =>
  ⟨a, _, rfl, DPut.k (((e1.trans e2).trans e3) a _ hd) (sz_lt hl), q H3 ((e1.trans e2).trans e3)⟩
theorem q_dput {a : Addr} {kvs : List (Key × V)} {k : Key} (hd : H a = some (.dK kvs)) (hv : Ev tv σ H v) (ha : Ev ta σ H (.ref a)) (hk : Ev tk σ H (kV k)) (hl : kvs.length < 100000)
    (q : ∀ H1, Ex H H1 → tz D σ (upd H1 a (.dK (putK kvs k v)))) : tSeq (sDPut ta tk tv) tz D σ H := s_dput (D := { D with nx := tz D }) hd hv ha hk hl q
/-- t[:2], xs[a:b] of a tuple -/
theorem ed_slT {lo hi : Option Int} {to th : TO} {ds : List PyData} (h : EvD K te σ H (.tuple ds)) (h1 : EvO to σ H lo) (h2 : EvO th σ H hi) (hn : ¬ (HT.sIx ds.length 0 lo = 0 ∧ HT.sIx ds.length ds.length hi = ds.length)) :
    EvD K (tSl (rSlT K) te to th) σ H (.tuple ((ds.drop (HT.sIx ds.length 0 lo)).take (HT.sIx ds.length ds.length hi - HT.sIx ds.length 0 lo))) := fun H0 e Q q => h H0 e _ fun v H1 e1 hd => by
  cases hd with
  | @tup a xs _ hs ha =>
    have el := dpa_len ha
    refine h1 H1 (e.trans e1) _ fun H2 e2 => h2 H2 ((e.trans e1).trans e2) _ fun H3 e3 => ⟨a, xs, rfl, ex_t (e2.trans e3) hs, by rw [el]; exact hn, fun p hp => ?_⟩
    refine q (.ref p) _ (((e1.trans e2).trans e3).trans (Ex.new hp)) (.tup (st_of upd_same) ?_)
    unfold cutV
    rw [el]
    have cut : ∀ {H : Hp} {vs : List V} {ds : List PyData}, DpAll K H vs ds → ∀ i j, DpAll K H ((vs.drop i).take j) ((ds.drop i).take j) := by
      intro H vs ds h
      have dr : ∀ (i : Nat) {vs : List V} {ds : List PyData}, DpAll K H vs ds → DpAll K H (vs.drop i) (ds.drop i) := by
        intro i
        induction i with
        | zero => exact fun h => h
        | succ i ih =>
          intro vs ds h
          cases h with
          | nil => exact .nil
          | cons _ t => exact ih t
      have tk : ∀ (j : Nat) {vs : List V} {ds : List PyData}, DpAll K H vs ds → DpAll K H (vs.take j) (ds.take j) := by
        intro j
        induction j with
        | zero => exact fun _ => .nil
        | succ j ih =>
          intro vs ds h
          cases h with
          | nil => exact .nil
          | cons a t => exact .cons a (ih t)
      exact fun i j => tk j (dr i h)
    exact cut (dpa_ex (((e2.trans e3)).trans (Ex.new hp)) ha) _ _
end
/-! ### the rules with the written part named -/
section
variable {X : Cx} {K : PySem.W.Frag}
theorem ix_seqK (h : X.K = K) : IxR X (rIx K) := h ▸ ix_seq
theorem ix_tupK (h : X.K = K) : IxR X (rIxT K) := h ▸ ix_tup
theorem ix_listK (h : X.K = K) : IxR X (rIxL K) := h ▸ ix_list
theorem op_ltDK (h : X.K = K) (hu : X.A.units + 64 < cLine) : OpR X (compareOp .Lt) (rLtD K) := h ▸ op_ltD hu
theorem op_eqDK (h : X.K = K) (hu : X.A.units + 64 < cLine) : OpR X (compareOp .Eq) (rEqD K) := h ▸ op_eqD hu
theorem op_neDK (h : X.K = K) (hu : X.A.units + 64 < cLine) : OpR X (compareOp .NotEq) (rNeD K) := h ▸ op_neD hu
theorem op_in_seqK (h : X.K = K) : OpR X (compareOp .In) (rIn K false) := h ▸ op_in_seq
theorem op_notIn_seqK (h : X.K = K) : OpR X (compareOp .NotIn) (rIn K true) := h ▸ op_notIn_seq
theorem sl_tupK (h : X.K = K) : SlR X (rSlT K) := h ▸ sl_tup
theorem sl_listK (h : X.K = K) : SlR X (rSlL K) := h ▸ sl_list
theorem call_isiK' (h : X.K = K) : CallR X (.builtin "isinstance") (rIsi K) := h ▸ call_isi
theorem call_isiTK (h : X.K = K) : CallR X (.builtin "isinstance") (rIsiT K) := h ▸ call_isiT
theorem call_len_seqK (h : X.K = K) : CallR X (.builtin "len") (rLenS K) := h ▸ call_len_seq
theorem cr_allK (h : X.K = K) (hc : X.calm = true) : CallR X (.builtin "all") (rAll K) := h ▸ cr_all hc
theorem pg_tupK (h : X.K = K) {es : List Expr} {k : Nat} {t : TGs} {n : Nat} {pos : Pos} (hc : X.calm = true) (hg : PGs X es t)
    (hn : (assignEach es X.env).length = n := by rfl) (hst : (assignEach es X.env).findIdx? (·.1) = none := by rfl) : PG X (.Tuple es k pos) (gTup K n t) := h ▸ pg_tup hc hg hn hst
theorem pi_tupK (h : X.K = K) {tg l : Expr} {tl : TE} (hl : PE X l tl) : PI X tg l (iTup K tl) := h ▸ pi_tup hl
theorem pi_listK (h : X.K = K) {tg l : Expr} {tl : TE} (hl : PE X l tl) : PI X tg l (iList K tl) := h ▸ pi_list hl
end
/-! ### more operations on data -/
section
variable {K : PySem.W.Frag} {H : Hp}
theorem dec_vint (a b : Int) : decide (V.int a = V.int b) = decide (a = b) := by
  by_cases h : a = b
  · subst h; simp
  · rw [decide_eq_false h]; exact decide_eq_false fun z => h (V.int.inj z)
theorem rd_eqI {a b : Int} : RD K rEq (.int a) (.int b) H (.bl (decide (a = b))) := fun H1 _ x y hx hy Q q => by
  cases hx
  cases hy
  refine ⟨rfl, ?_⟩
  rw [dec_vint]
  exact q
theorem rd_neI {a b : Int} : RD K rNe (.int a) (.int b) H (.bl (!decide (a = b))) := fun H1 _ x y hx hy Q q => by
  cases hx
  cases hy
  refine ⟨rfl, ?_⟩
  rw [dec_vint]
  exact q
def rLeStr : R2 := fun x y H Q => ∃ i j, x = .str i ∧ y = .str j ∧ Q (.bl (!decide (j.cps.toList < i.cps.toList))) H
theorem op_leStr {X : Cx} : OpR X (compareOp .LtE) rLeStr := op_le_str
theorem rd_leS {a b : Str} : RD K rLeStr (.str a) (.str b) H (.bl (!decide (b.cps.toList < a.cps.toList))) := fun H1 _ x y hx hy Q q => by
  cases hx
  cases hy
  exact ⟨a, b, rfl, rfl, q⟩
theorem getD_of {ds : List PyData} {i : Nat} {d : PyData} (h : ds[i]? = some d) : ds.getD i .none = d := by
  rw [List.getD_eq_getElem?_getD, h]
  rfl
end
/-! ### y = {k: v for ..} on one line, y a local that no block reads -/
section
variable {X : Cx}
/-- what holds in each block of the comprehension -/
abbrev InBlk (X : Cx) (scope : Scope) (p : Cx → Prop) : Prop := ∀ (s : Shared) (H : Hp) (C : Addr) (cl : List (Str × Addr)) (fp : List Addr), p (X.blk s H scope (compEnvC scope cl C X.env) fp)
theorem ps_setDc {i : Nat} {y : Str} {py pos spos : Pos} {kx vx tg iter : Expr} {ifs : List Expr} {scope : Scope} {own : List (Str × Nat)} {wi : TI} {g : TG} {tt : TT} {tk tv : TE} (hc : X.calm = true) (hN : X.N.Nodup)
    (hy : X.N[i]? = some y) (hyl : X.env.scope.names.lookup y = some .local) (hsw : swapsWith (.DictComp kx vx [⟨tg, iter, ifs, 0⟩] scope pos) (some (.Name y py)) spos.line X.env = pure true)
    (hi : PI X tg iter wi) (ok : BlkOk X.N X.env.scope scope own) (hg : InBlk X scope fun B => PG B tg g) (ht : InBlk X scope fun B => PTs B ifs tt) (hk : InBlk X scope fun B => PE B kx tk) (he : InBlk X scope fun B => PE B vx tv)
    (hs : ∀ x, foldedSetIterable iter X.env x = pure x := by intro _; rfl) : PS X (.Assign [.Name y py] (.DictComp kx vx [⟨tg, iter, ifs, 0⟩] scope pos) spos) (tAsg (tDc wi g tt tk tv (own.map (·.2))) (gName i)) := by
  refine ⟨fun pins s σ H D I h => ?_⟩
  rw [exec_Assign_Name_used _ _ _ _ hsw]
  refine wpAny_bind (wpAny_standAt (wpAny_bind ?_))
  have h2 : tDc wi g tt tk tv (own.map (·.2)) σ H (fun x H1 => gName i x σ H1 D.nx) := h
  show wpAny _ X.A (do let _ ← comprehension (.DictComp kx vx [⟨tg, iter, ifs, 0⟩] scope pos) scope X.env (firstIterPos [⟨tg, iter, ifs, 0⟩] pos) newDict false (eval iter X.env) (some (assign (.Name y py) X.env))) _ _ s
  refine wpAny_bind (thn (dc_core (Qf := fun _ s' => SP X pins D .next s') hc hN I hi ok hg ht hk he hs h2 fun L C s' m H' I' q hn fo => ?_) fun _ s' hq => wpAny_pure (wpAny_pure hq))
  show wpAny _ _ (assign (.Name y py) X.env (.ref L)) _ _ _
  refine wpAny_assign_Name (store_ok2 (v := V.ref L) I' hN hy (.inl hyl) rfl (fun s2 I2 ⟨a, sb, ha⟩ => ?_) (.inr hyl))
  have hCa : C ≠ a := by
    cases ha with
    | inl z => exact fun e => fo.2.1 (e.trans z)
    | inr z => exact fun e => fo.2.2.2.2.1 y a z e.symm
  refine ⟨m, hn.sameBut sb hCa, fun h3 sb3 => ⟨_, H', ?_, q⟩⟩
  exact I2.turned (t' := s2.toks) (fun b o hb e => (sb3.2 b hb).trans e) fo.1 fo.2.1 fo.2.2.2.1 fo.2.2.2.2.1 fo.2.2.2.2.2
theorem sw_dc {kx vx : Expr} {gs : List Comprehension} {scope : Scope} {pos py : Pos} {y : Str} {l : Nat} {env : Env} (h1 : env.scope.kind = .function) (h2 : env.scope.names.lookup y = some .local) (h3 : (py.line == pos.line) = true)
    (h4 : (scope.names.any fun (n, k) => n == y && (k == .local || k == .cell)) = false) : swapsWith (.DictComp kx vx gs scope pos) (some (.Name y py)) l env = pure true := by
  have e1 : env.kindOf y = some .local := h2
  have e2 : env.blockKind = .function := by unfold Env.blockKind; rw [h1]; rfl
  unfold swapsWith
  simp only [e2, e1, h4, Expr.pos, h3]
  rfl
end
/-! ### the first look at a tuple of n -/
section
variable {K : PySem.W.Frag} {σ : L2.St} {H : Hp} {te : TE} {v : V} {d : PyData}
def isTupN (n : Nat) : PyData → Bool | .tuple ds => decide (ds.length = n) | _ => false
theorem et_tupN {n : Nat} {i : Int} (hi : i = (n : Int)) (hv : Ev te σ H v) (hd : Dp K H v d) : EvT (tOr (tNot (tB (tCB (rIsi K) (tCons te (tCons (tC (.ty "tuple")) tNil))))) (tTest (tOp rNe (tCB (rLenS K) (tCons te tNil)) (tC (.int i))))) σ H (!isTupN n d) := by
  have h1 := et_not (et_B (ev_isi (n := "tuple") okT_tuple hv hd))
  rw [isT_tuple] at h1
  cases d with
  | tuple ds =>
    refine et_is (et_or h1 fun _ => et_test (ev_opD (K := K) (ed_of (ev_lenD (ed_of hv hd)) (.int _)) (ed_of ev_c (.int i)) rd_neI)) ?_
    show (!true || !decide ((ds.length : Int) = i)) = !decide (ds.length = n)
    subst hi
    by_cases h : ds.length = n
    · subst h; simp
    · have h' : ¬ ((ds.length : Int) = (n : Int)) := by omega
      rw [decide_eq_false h, decide_eq_false h']
      rfl
  | _ => exact et_is (et_or (b := true) h1 fun z => nomatch z) rfl
theorem isTupN_3 {d : PyData} (h : isTupN 3 d = true) : ∃ x y z, d = .tuple [x, y, z] := by
  cases d <;> first | (cases h; done) | skip
  rename_i ds
  match ds, h with
  | [x, y, z], _ => exact ⟨x, y, z, rfl⟩
theorem isTupN_4 {d : PyData} (h : isTupN 4 d = true) : ∃ x y z u, d = .tuple [x, y, z, u] := by
  cases d <;> first | (cases h; done) | skip
  rename_i ds
  match ds, h with
  | [x, y, z, u], _ => exact ⟨x, y, z, u, rfl⟩
end
/-! ### dicts, locked or not; a walk over a dict's keys -/
section
variable {K : PySem.W.Frag} {σ : L2.St} {H H' : Hp} {ta tb td : TE} {v : V} {D : Ends} {g : TG} {tu : TS}
theorem ev_dgetR {a : Addr} {kvs : List (Key × V)} {k : Key} (ha : Ev ta σ H (.ref a)) (hd : Rd H a (.dK kvs)) (hk : Ev tb σ H (kV k)) (hv : valV kvs k = some v) : Ev (tDGet ta tb) σ H v := fun H1 e Q q =>
  ha H1 e _ fun H2 e2 => hk H2 (e.trans e2) _ fun H3 e3 => ⟨a, v, rfl, .inl ⟨kvs, k, ex_rd ((e.trans e2).trans e3) hd, rfl, hv.symm⟩, q H3 (e2.trans e3)⟩
theorem ev_dinR {a : Addr} {kvs : List (Key × V)} {k : Key} {b : Bool} (hk : Ev tb σ H (kV k)) (ha : Ev ta σ H (.ref a)) (hd : Rd H a (.dK kvs)) (hb : (valV kvs k).isSome = b) : Ev (tDIn tb ta) σ H (.bl b) := fun H1 e Q q =>
  hk H1 e _ fun H2 e2 => ha H2 (e.trans e2) _ fun H3 e3 => ⟨a, valV kvs k, rfl, .inl ⟨kvs, k, ex_rd ((e.trans e2).trans e3) hd, rfl, rfl⟩, by
    rw [hb]
    exact q H3 (e2.trans e3)⟩
theorem s_forKeys {d : Addr} {o : Obj} {kvs : List (Key × V)} (h : Ev td σ H (.ref d)) (hd : H d = some (.frz o (.dK kvs))) (Pv : Nat → L2.St → Hp → Prop) (h0 : ∀ H1, Ex H H1 → Pv 0 σ H1) (hl : ∀ i σ' H', Pv i σ' H' → H' d = some (.frz o (.dK kvs)))
    (hs : ∀ i k v σ' H', kvs[i]? = some (k, v) → Pv i σ' H' → g (kV k) σ' H' fun σ2 H2 => tu { D with nx := Pv (i + 1), ct := Pv (i + 1), bk := D.nx } σ2 H2) (he : ∀ σ' H', Pv kvs.length σ' H' → D.nx σ' H') : tFor (iKeys td) g tu D σ H :=
  h H (Ex.refl H) _ fun H1 e => ⟨d, o, rfl, .inl ⟨kvs, e _ _ hd, fun i m σ' H' => m = kvs.length - i ∧ i ≤ kvs.length ∧ Pv i σ' H', ⟨kvs.length, rfl, Nat.zero_le _, h0 H1 e⟩, by
    rintro i m σ' H' ⟨rfl, hi, p⟩
    have q := hl i σ' H' p
    by_cases hlt : i < kvs.length
    · refine .inr ⟨⟨q, hlt⟩, Pv (i + 1), fun σ2 H2 p2 => ⟨kvs.length - (i + 1), by omega, rfl, hlt, p2⟩, fun x H2 y => ?_⟩
      obtain ⟨e2, k, w, hk, rfl⟩ := y
      subst e2
      exact hs i k w σ' _ hk p
    · have e2 : i = kvs.length := by omega
      subst e2
      exact .inl ⟨⟨q, Nat.le_refl _⟩, he σ' H' p⟩⟩⟩
end
end Vf
end
section
set_option Elab.async false
set_option linter.all false
set_option maxRecDepth 100000
set_option maxHeartbeats 4000000
/-! {k: v for a in xs for b in ys}, keys that are ints or texts; d.values() of a dict whose keys are tuples. -/
namespace Vf
open PySem PySem.Spec PyProof.Rows L2 Evl
section
variable {prog : Program} {w : World} {A : Around} {R : Result → Shared → Prop} {env : Env}
/-- what is wished of an error that leaves a clause -/
abbrev Flies (prog : Program) (w : World) (A : Around) (env : Env) (R : Result → Shared → Prop) : Value → Shared → Prop := notedBy (model prog w) A env fun x t => R (.error x) t
/-- a clause's tests, none of them failing -/
abbrev TestsGo (ifs : List Expr) (env : Env) : Sem Bool := forIn ifs true fun c r => if r = true then (do let ok ← isTrue c env (eval c env); pure (ForInStep.yield ok)) else pure (ForInStep.yield r)
/-- the two clauses -/
abbrev twoFor (kx vx ta ia tb ib : Expr) (scope : Scope) (pos : Pos) : Expr := .DictComp kx vx [⟨ta, ia, [], 0⟩, ⟨tb, ib, [], 0⟩] scope pos
variable {kx vx ta ia tb ib : Expr} {scope : Scope} {pos : Pos} {it : Value} {D : Addr} {s : Shared}
/-- a clause's loop without tests, whatever is done behind them: the turn is told by its equation -/
theorem clause_loop {depth : Nat} {acc : Value} {tg : Expr} {p : Pos} {rest last : Sem PySem.Fin}
    (eq : compTurn (twoFor kx vx ta ia tb ib scope pos) depth it acc env = (do
      standAt p
      match ← pyNext it with
      | none => pure (.done .next)
      | some v =>
        letOwnedTupleGo tg it v
        assign tg env v
        let ok ← TestsGo [] env
        if ok = true then rest else last))
    (I : Nat → Shared → Prop)
    (turn : ∀ n s, I n s → wpAny (model prog w) A (pyNext it) (fun r a => match r with
      | none => R (.ok .next) a
      | some v => wpAny (model prog w) A (letOwnedTupleGo tg it v) (fun _ b => wpAny (model prog w) A (assign tg env v) (fun _ c => wpAny (model prog w) A rest (fun fin d => match fin with
        | .done f => R (.ok f) d
        | .again c' => c' = .compLoop (twoFor kx vx ta ia tb ib scope pos) depth it acc env ∧ ∃ m, m < n ∧ I m d) (Flies prog w A env R) c) (Flies prog w A env R) b) (Flies prog w A env R) a) (Flies prog w A env R) s)
    (n : Nat) (h : I n s) : codeAny (model prog w) A (.compLoop (twoFor kx vx ta ia tb ib scope pos) depth it acc env) R s := by
  refine codeAny_loop rfl I (fun k t hk => ?_) n h
  show wpAny _ A ((compTurn (twoFor kx vx ta ia tb ib scope pos) depth it acc env).onRaise fun x => do noteFrame x env; theTreesLotGoes x) _ _ t
  refine wpAny_noted ?_
  rw [eq]
  refine wpAny_bind (wpAny_standAt (wpAny_bind (thn (turn k t hk) fun r a ha => ?_)))
  match r, ha with
  | none, ha => exact wpAny_pure ha
  | some v, ha =>
    refine wpAny_bind (thn ha fun _ b hb => wpAny_bind (thn hb fun _ c hc => ?_))
    refine wpAny_bind (wpAny_of_eq (a := true) (by rfl) ?_)
    exact hc
end
end Vf
namespace Vf
open PySem PySem.Spec PyProof.Rows L2 Evl
section
variable {prog : Program} {w : World} {A : Around} {R : Result → Shared → Prop} {env : Env} {kx vx ta ia tb ib : Expr} {scope : Scope} {pos : Pos} {it : Value} {D : Addr} {s : Shared}
/-- the first clause's loop: within it the second one is begun -/
theorem first_loop (hs : ∀ x, foldedSetIterable ib env x = pure x) (I : Nat → Shared → Prop)
    (turn : ∀ n s, I n s → wpAny (model prog w) A (pyNext it) (fun r a => match r with
      | none => R (.ok .next) a
      | some v => wpAny (model prog w) A (letOwnedTupleGo ta it v) (fun _ b => wpAny (model prog w) A (assign ta env v) (fun _ c =>
          wpAny (model prog w) A (eval ib env) (fun x d => wpAny (model prog w) A (pyIter x) (fun j f => codeAny (model prog w) A (.compStart (twoFor kx vx ta ia tb ib scope pos) 1 j (.ref D) env) (fun r g => match r with
            | .ok _ => ∃ m, m < n ∧ I m g
            | .error _ => False) f) (Flies prog w A env R) d) (Flies prog w A env R) c) (Flies prog w A env R) b) (Flies prog w A env R) a) (Flies prog w A env R) s)
    (n : Nat) (h : I n s) : codeAny (model prog w) A (.compLoop (twoFor kx vx ta ia tb ib scope pos) 0 it (.ref D) env) R s := by
  refine clause_loop (tg := ta) (p := ia.pos) (rest := (do
    let x ← eval ib env
    standAt ib.pos
    let x ← foldedSetIterable ib env x
    let _ ← runOwn (.compStart (twoFor kx vx ta ia tb ib scope pos) 1 (← holding [x] (pyIter x)) (.ref D) env) env
    again (.compLoop (twoFor kx vx ta ia tb ib scope pos) 0 it (.ref D) env))) (last := again (.compLoop (twoFor kx vx ta ia tb ib scope pos) 0 it (.ref D) env)) (by rfl) I (fun k t hk => thn (turn k t hk) fun r a ha => ?_) n h
  match r, ha with
  | none, ha => exact ha
  | some v, ha =>
    refine thn ha fun _ b hb => thn hb fun _ c hc => wpAny_bind (thn hc fun x d hd => ?_)
    refine wpAny_bind (wpAny_standAt (wpAny_bind (wpAny_of_eq (hs x) (wpAny_bind (wpAny_holding (thn hd fun j f hf => ?_))))))
    refine wpAny_bind (wpAny_runOwn ?_)
    rw [Around.mark_none]
    refine codeAny_mono hf fun r g hg => ?_
    match r, hg with
    | .ok _, hg => exact wpAny_pure ⟨rfl, hg⟩
/-- the second clause's loop: within it an entry is stored -/
theorem second_loop (I : Nat → Shared → Prop)
    (turn : ∀ n s, I n s → wpAny (model prog w) A (pyNext it) (fun r a => match r with
      | none => R (.ok .next) a
      | some v => wpAny (model prog w) A (letOwnedTupleGo tb it v) (fun _ b => wpAny (model prog w) A (assign tb env v) (fun _ c =>
          wpAny (model prog w) A (eval kx env) (fun k d => wpAny (model prog w) A (eval vx env) (fun u f => wpAny (model prog w) A (dictSet D k u) (fun _ g => ∃ m, m < n ∧ I m g) (Flies prog w A env R) f) (Flies prog w A env R) d) (Flies prog w A env R) c) (Flies prog w A env R) b) (Flies prog w A env R) a) (Flies prog w A env R) s)
    (n : Nat) (h : I n s) : codeAny (model prog w) A (.compLoop (twoFor kx vx ta ia tb ib scope pos) 1 it (.ref D) env) R s := by
  refine clause_loop (tg := tb) (p := ib.pos) (rest := (do
    (do
      let k ← eval kx env
      let u ← holding [k] (eval vx env)
      standAt { kx.pos with endLine := vx.pos.endLine, endCol := vx.pos.endCol }
      holding [k, u] (dictSet D k u))
    again (.compLoop (twoFor kx vx ta ia tb ib scope pos) 1 it (.ref D) env))) (last := again (.compLoop (twoFor kx vx ta ia tb ib scope pos) 1 it (.ref D) env)) (by rfl) I (fun k t hk => thn (turn k t hk) fun r a ha => ?_) n h
  match r, ha with
  | none, ha => exact ha
  | some v, ha =>
    exact thn ha fun _ b hb => thn hb fun _ c hc => wpAny_bind (wpAny_bind (thn hc fun k d hd => wpAny_bind (wpAny_holding (thn hd fun u f hf => wpAny_bind (wpAny_standAt (wpAny_holding (thn hf fun _ g hg => wpAny_pure ⟨rfl, hg⟩)))))))
/-- the second clause begins -/
theorem second_start (h0 : codeAny (model prog w) A (.compLoop (twoFor kx vx ta ia tb ib scope pos) 1 it (.ref D) env) R s)
    (h : wpAny (model prog w) A (pyIter it) (fun j t => codeAny (model prog w) A (.compLoop (twoFor kx vx ta ia tb ib scope pos) 1 j (.ref D) env) R t) (Flies prog w A env R) s) :
    codeAny (model prog w) A (.compStart (twoFor kx vx ta ia tb ib scope pos) 1 it (.ref D) env) R s := by
  refine codeAny_of_tree ?_
  show wpAny _ A ((compStart (twoFor kx vx ta ia tb ib scope pos) 1 it (.ref D) env).onRaise fun x => do noteFrame x env; standAt theWindowsPlace) _ _ s
  refine wpAny_notedAt ?_
  unfold compStart
  show wpAny _ A (ask >>= _) _ _ s
  refine wpAny_bind (wpAny_askSetting (wpAny_ite ?_))
  split
  · first
      | exact wpAny_pure ⟨rfl, h0⟩
      | exact wpAny_bind (wpAny_pure (wpAny_pure ⟨rfl, h0⟩))
  · refine wpAny_bind (wpAny_rule ?_)
    first
      | exact wpAny_bind (wpAny_standAt (wpAny_bind (thn h fun j t ht => wpAny_pure ⟨rfl, ht⟩)))
      | (show wpAny _ A (standAt ib.pos >>= _) _ _ s
         exact wpAny_bind (wpAny_standAt (wpAny_bind (thn h fun j t ht => wpAny_pure ⟨rfl, ht⟩))))
end
/-! ### the reading -/
section
variable {X : Cx}
/-- the second clause's turns, from slots σ2 on: behind them Nx -/
def tIn (wi : TI) (g : TG) (tk tv : TE) (vs : List Nat) (D : Addr) (Nx : Hp → Prop) : L2.St → Hp → Prop := fun σ2 H2 => wi σ2 H2 fun J H3 => ∃ W : Nat → Nat → Hp → Prop, (∃ m, W 0 m H3) ∧ ∀ j k H, W j k H →
  (J.stop j H ∧ Nx H) ∨ (J.go j H ∧ ∃ N : Hp → Prop, (∀ H', N H' → ∃ k', k' < k ∧ W (j + 1) k' H') ∧ ∀ x H', J.yld j H x H' → g x (wipe σ2 vs) H' fun σ3 H5 => wipe σ3 vs = wipe σ2 vs ∧
    tk σ3 H5 fun y H6 => tv σ3 H6 fun z H7 => ∃ kvs k, y = kV k ∧ H7 D = some (.dK kvs) ∧ kvs.length < sizeLine ∧ N (upd H7 D (.dK (putK kvs k z))))
/-- vo: the block's names; vs: those of the second target -/
def tDc2 (wo : TI) (go : TG) (wi : TI) (g : TG) (tk tv : TE) (vo vs : List Nat) : TE := fun σ H Q => wo σ H fun J H1 => ∀ D, H1 D = none → ∃ W : Nat → Nat → Hp → Prop, (∃ m, W 0 m (upd H1 D (.dK []))) ∧ ∀ i m H, W i m H →
  (J.stop i H ∧ Q (.ref D) H) ∨ (J.go i H ∧ ∃ N : Hp → Prop, (∀ H', N H' → ∃ m', m' < m ∧ W (i + 1) m' H') ∧ ∀ x H', J.yld i H x H' → go x (wipe σ vo) H' fun σ2 H2 => wipe σ2 vo = wipe σ vo ∧ tIn wi g tk tv vs D N σ2 H2)
theorem dc2_core {pins : List (Addr × Obj)} {s : Shared} {σ : L2.St} {H : Hp} {Q : VK} {kx vx ta ia tb ib : Expr} {scope : Scope} {own : List (Str × Nat)} {vs : List Nat} {pos pos' : Pos} {wo wi : TI} {go g : TG} {tk tv : TE} {use : Option (Value → Sem Unit)} {Qf : Value → Shared → Prop}
    (hc : X.calm = true) (hN : X.N.Nodup) (I : Inv X pins σ H s) (ho : PI X ta ia wo) (ok : BlkOk X.N X.env.scope scope own) (hv : ∀ i ∈ vs, i ∈ own.map (·.2))
    (hgo : InBlk X scope fun B => PG B ta go) (hi : InBlk X scope fun B => PI B tb ib wi) (hg : InBlk X scope fun B => PG B tb g) (hk : InBlk X scope fun B => PE B kx tk) (he : InBlk X scope fun B => PE B vx tv)
    (hs : ∀ x, foldedSetIterable ia X.env x = pure x) (hs1 : ∀ env x, foldedSetIterable ib env x = pure x) (h : tDc2 wo go wi g tk tv (own.map (·.2)) vs σ H Q)
    (hR : ∀ D C t m H', Inv X pins σ H' t → Q (.ref D) H' → t.heap.Ns C m → FpOk X pins H' C → compPost (model X.prog X.w) X.A X.xe use Qf (.ref D) C (.ok .next) t) :
    wpAny (model X.prog X.w) X.A (comprehension (twoFor kx vx ta ia tb ib scope pos) scope X.env pos' newDict false (eval ia X.env) use) Qf X.xe s := by
  have hfree : ∀ y ∈ scope.names, y.2 = .free → ∃ c, X.env.cells.lookup y.1 = some c := fun y hy e => (ok.free y hy e).elim (fun k => I.ok.has _ (.inl k)) fun k => I.ok.has _ (.inr k)
  refine wpAny_comprehension_free (use := use) rfl hs (closure_ok hfree) ok.kind (fun y hy e => by rw [ok.uniq y hy, e]) (thn (ho.run pins s σ H _ I h) fun xv s1 hx => thn hx fun itv s2 h2 => ?_)
  obtain ⟨it, fp, tn, J, H2, rfl, I2, T, st2, f2, q⟩ := h2
  refine wpAny_newObj_type (newEnv_comp ?_)
  obtain ⟨D, hD⟩ : ∃ D, s2.heap.objs.size = D := ⟨_, rfl⟩
  rw [hD]
  have hDn : H2 D = none := I2.hok.fresh (Nat.le_of_eq hD)
  obtain ⟨W, ⟨m0, w0⟩, turn⟩ := q D hDn
  -- the new dict
  obtain ⟨s3, hs3⟩ : ∃ s3, s3 = ({ s2 with heap := s2.heap.push { cls := .type "dict", data := .dict #[] } } : Shared) := ⟨_, rfl⟩
  have h3 : s3.heap = s2.heap.push { cls := .type "dict", data := .dict #[] } := by rw [hs3]
  have I3 : Inv X pins σ (upd H2 D (.dK [])) s3 := by
    rw [hs3]
    refine I2.laid (t' := s2.toks) (fun b o e => Heap.get?_push_of_some _ e) (Nat.le_of_eq hD) ?_
    rw [← hD]
    exact dk_empty s2.heap I2.big
  have f3 : ∀ b ∈ fp, FpOk X pins (upd H2 D (.dK [])) b ∧ b < s3.heap.objs.size := fun b hb => by
    obtain ⟨o, e, _⟩ := T.obj _ _ st2 b hb
    have hlt : b < s2.heap.objs.size := Heap.lt_size e
    have hne : b ≠ D := fun z => absurd hlt (by rw [z, hD]; exact Nat.lt_irrefl _)
    exact ⟨⟨by rw [upd_ne hne]; exact (f2 b hb).1, (f2 b hb).2⟩, by rw [h3, Heap.size_push]; exact Nat.lt_succ_of_lt hlt⟩
  have st3 : tn 0 s3.heap := T.keep _ _ _ st2 fun b _ o e => by rw [h3]; exact Heap.get?_push_of_some _ e
  have I4 := block_start I3 ok hN f3
  obtain ⟨C, hC⟩ : ∃ C, s3.heap.objs.size = C := ⟨_, rfl⟩
  obtain ⟨cl, hcl⟩ : ∃ cl, cl = cellsFrom (s3.heap.objs.size + 1) scope.names (cloFrom X.env.cells scope.names []) := ⟨_, rfl⟩
  have pgo := hgo s3 (upd H2 D (.dK [])) C cl fp
  have pi1 := hi s3 (upd H2 D (.dK [])) C cl fp
  have pg := hg s3 (upd H2 D (.dK [])) C cl fp
  have pk := hk s3 (upd H2 D (.dK [])) C cl fp
  have pe := he s3 (upd H2 D (.dK [])) C cl fp
  have nfp : ∀ b ∈ fp, (upd H2 D (.dK [])) b = none := fun b hb => (f3 b hb).1.1
  rw [← hcl, hC] at I4
  have hs2D : s2.heap.push { cls := .type "dict", data := .dict #[] } = s3.heap := h3.symm
  show codeAny _ _ (.compStart (twoFor kx vx ta ia tb ib scope pos) 0 (.ref it) (.ref D) (compEnvC scope (cellsFrom ((s2.heap.push { cls := .type "dict", data := .dict #[] }).objs.size + 1) scope.names (cloFrom X.env.cells scope.names [])) (s2.heap.push { cls := .type "dict", data := .dict #[] }).objs.size X.env)) (compPost (model X.prog X.w) X.A X.xe use Qf (.ref D) (s2.heap.push { cls := .type "dict", data := .dict #[] }).objs.size)
    { s2 with heap := pushCells ((s2.heap.push { cls := .type "dict", data := .dict #[] }).push { cls := .type "dict", data := .dict #[] }) scope.names }
  rw [hs2D, ← hcl, hC]
  obtain ⟨ce, hce⟩ : ∃ ce, ce = compEnvC scope cl C X.env := ⟨_, rfl⟩
  rw [← hce] at I4 pgo pi1 pg pk pe ⊢
  have cL : ce.locals = C := by rw [hce]; rfl
  obtain ⟨H3, hH3⟩ : ∃ H3, H3 = upd H2 D (.dK []) := ⟨_, rfl⟩
  rw [← hH3] at I3 I4 pgo pi1 pg pk pe nfp f3 w0
  obtain ⟨s4, hs4⟩ : ∃ s4, s4 = ({ s3 with heap := pushCells (s3.heap.push { cls := .type "dict", data := .dict #[] }) scope.names } : Shared) := ⟨_, rfl⟩
  rw [← hs4] at I4
  have e4 : ({ s2 with heap := pushCells (s3.heap.push { cls := .type "dict", data := .dict #[] }) scope.names } : Shared) = s4 := by rw [hs4, hs3]
  rw [e4]
  have st4 : tn 0 s4.heap := T.keep _ _ _ st3 fun b _ o e => by rw [hs4]; exact pushCells_keeps _ _ _ _ (Heap.get?_push_of_some _ e)
  -- the block's own places
  have mine : ∀ {σ' : L2.St} {H' : Hp} {t : Shared}, Inv (X.blk s3 H3 scope ce fp) [] σ' H' t → (∀ b ∈ fp, H' b = none) → ∀ b ∈ fp, FpOk (X.blk s3 H3 scope ce fp) [] H' b := fun {σ' H' t} I' hn b hb =>
    ⟨hn b hb, (I'.ok.exf b hb).1, I'.ok.exfs b hb, .inl hb, fun x c e => (I'.ok.exf b hb).2 x c e, fun p hp => by simp at hp⟩
  have back : ∀ {H' : Hp} {t : Shared}, Inv (X.blk s3 H3 scope ce fp) [] (wipe σ (own.map (·.2))) H' t → Q (.ref D) H' → compPost (model X.prog X.w) X.A X.xe use Qf (.ref D) C (.ok .next) t := fun {H' t} I6 qq => by
    have I7 : Inv X pins σ H' t := I3.call' (ch := fp) I6.os I6.base I6.hok I6.bare fun b hb => ⟨(f3 b hb).1.2.2.2.1, (f3 b hb).1.2.1, (f3 b hb).1.2.2.2.2.1, (f3 b hb).1.2.2.2.2.2⟩
    have nC : H' C = none := by
      have z : H' ce.locals = none := I6.free
      rw [cL] at z
      exact z
    obtain ⟨m, hn, _⟩ := I6.loc
    have hn : t.heap.Ns ce.locals m := hn
    rw [cL] at hn
    exact hR D C t m H' I7 qq hn (I3.fpOk (Nat.le_of_eq hC) nC)
  have loop : codeAny (model X.prog X.w) X.A (.compLoop (twoFor kx vx ta ia tb ib scope pos) 0 (.ref it) (.ref D) ce) (compPost (model X.prog X.w) X.A X.xe use Qf (.ref D) C) s4 := by
    refine first_loop (hs1 ce) (fun n t => ∃ i H', Inv (X.blk s3 H3 scope ce fp) [] (wipe σ (own.map (·.2))) H' t ∧ tn i t.heap ∧ (∀ b ∈ fp, H' b = none) ∧ W i n H') ?_ m0 ⟨0, H3, I4, st4, nfp, w0⟩
    rintro n s5 ⟨i, H5, I5, st5, n5, w5⟩
    rcases turn i n H5 w5 with ⟨stop, qq⟩ | ⟨goes, N, hNx, step⟩
    · refine thnF (T.done (X.blk s3 H3 scope ce fp) rfl rfl rfl hc i [] s5 _ H5 (fun _ _ => False) I5 (mine I5 n5) st5 stop) fun r s6 hr => ?_
      obtain ⟨rfl, I6⟩ := hr
      exact back I6 qq
    · refine thnF (T.item (X.blk s3 H3 scope ce fp) rfl rfl rfl hc i [] s5 _ H5 (fun _ _ => False) I5 (mine I5 n5) st5 goes) fun r s6 hr => ?_
      obtain ⟨u, rfl, h6⟩ := hr
      refine thnF h6 fun _ s7 h7 => ?_
      obtain ⟨x, H7, I7, r7, y7, st7, n7⟩ := h7
      refine thnF (pgo.run _ s7 _ H7 x u _ (I7.pinned (mine I7 n7) (T.obj _ _ st7)) r7 (step x H7 y7)) fun _ s8 h8 => ?_
      obtain ⟨σ8, H8, I8, hw8, q8⟩ := h8
      have hl8 : (wipe σ (own.map (·.2))).length = (wipe σ8 vs).length := by rw [← hw8, wipe_length, wipe_length]
      have hk8 : ∀ (j : Nat) v, (wipe σ (own.map (·.2)))[j]? = some (some v) → (wipe σ8 vs)[j]? = some (some v) := fun j v e => by
        rw [← hw8] at e
        obtain ⟨e1, e2⟩ := wipe_some e
        rw [wipe_out fun z => e2 (hv j z)]
        exact e1
      -- a turn of the first clause is over
      have over : ∀ {t : Shared} {H' : Hp}, Inv (X.blk s3 H3 scope ce fp) ([] ++ pinsAt fp s7.heap) (wipe σ8 vs) H' t → N H' → ∃ m, m < n ∧ ∃ i H', Inv (X.blk s3 H3 scope ce fp) [] (wipe σ (own.map (·.2))) H' t ∧ tn i t.heap ∧ (∀ b ∈ fp, H' b = none) ∧ W i m H' := fun {t H'} I' nx => by
        obtain ⟨m', hm, w'⟩ := hNx H' nx
        have pin : ∀ b ∈ fp, ∀ o, s7.heap.get? b = some o → t.heap.get? b = some o ∧ H' b = none := fun b hb o e => ⟨(I'.pin (b, o) (List.mem_append_right _ (List.mem_append_right _ (mem_pinsAt hb e)))).1, (I'.pin (b, o) (List.mem_append_right _ (List.mem_append_right _ (mem_pinsAt hb e)))).2.1⟩
        exact ⟨m', hm, i + 1, H', (I'.unpinned (pins := [])).weak hl8 hk8, T.keep _ _ _ st7 fun b hb o e => (pin b hb o e).1, fun b hb => let ⟨o, e, _⟩ := T.obj _ _ st7 b hb; (pin b hb o e).2, w'⟩
      refine thnF (pi1.run _ s8 σ8 H8 _ I8 q8) fun xv s10 hx => thnF hx fun itv s11 h11 => ?_
      obtain ⟨it1, fp1, tn1, J1, H11, rfl, I11, T1, st11, f11, W1, ⟨m1, w1⟩, turn1⟩ := h11
      have mine1 : ∀ {H' : Hp}, (∀ b ∈ fp1, H' b = none) → ∀ b ∈ fp1, FpOk (X.blk s3 H3 scope ce fp) ([] ++ pinsAt fp s7.heap) H' b := fun hn b hb => ⟨hn b hb, (f11 b hb).2⟩
      have inner : codeAny (model X.prog X.w) X.A (.compLoop (twoFor kx vx ta ia tb ib scope pos) 1 (.ref it1) (.ref D) ce) (fun r t => match r with
          | .ok _ => ∃ m, m < n ∧ ∃ i H', Inv (X.blk s3 H3 scope ce fp) [] (wipe σ (own.map (·.2))) H' t ∧ tn i t.heap ∧ (∀ b ∈ fp, H' b = none) ∧ W i m H'
          | .error _ => False) s11 := by
        refine second_loop (fun k t => ∃ j H', Inv (X.blk s3 H3 scope ce fp) ([] ++ pinsAt fp s7.heap) (wipe σ8 vs) H' t ∧ tn1 j t.heap ∧ (∀ b ∈ fp1, H' b = none) ∧ W1 j k H') ?_ m1 ⟨0, H11, I11.weak (wipe_length _ _) (fun j v e => (wipe_some e).1), st11, fun b hb => (f11 b hb).1, w1⟩
        rintro k s12 ⟨j, H12, I12, st12, n12, w12⟩
        rcases turn1 j k H12 w12 with ⟨stop1, nx1⟩ | ⟨goes1, N1, hN1, step1⟩
        · refine thnF (T1.done (X.blk s3 H3 scope ce fp) rfl rfl rfl hc j _ s12 (wipe σ8 vs) H12 (fun _ _ => False) I12 (mine1 n12) st12 stop1) fun r s13 hr => ?_
          obtain ⟨rfl, I13⟩ := hr
          exact over I13 nx1
        · refine thnF (T1.item (X.blk s3 H3 scope ce fp) rfl rfl rfl hc j _ s12 (wipe σ8 vs) H12 (fun _ _ => False) I12 (mine1 n12) st12 goes1) fun r s13 hr => ?_
          obtain ⟨u1, rfl, h13⟩ := hr
          refine thnF h13 fun _ s14 h14 => ?_
          obtain ⟨x1, H14, I14, r14, y14, st14, n14⟩ := h14
          refine thnF (pg.run _ s14 (wipe σ8 vs) H14 x1 u1 _ (I14.pinned (mine1 n14) (T1.obj _ _ st14)) r14 (step1 x1 H14 y14)) fun _ s15 h15 => ?_
          obtain ⟨σ15, H15, I15, hw15, q15⟩ := h15
          refine thnF (pk.run _ s15 σ15 H15 _ I15 q15) fun kv s16 h16 => ?_
          obtain ⟨yk, H16, I16, r16, q16⟩ := h16
          refine thnF (pe.run _ s16 σ15 H16 _ I16 q16) fun vv s17 h17 => ?_
          obtain ⟨yv, H17, I17, r17, kvs, key, rfl, hD17, hz17, nx⟩ := h17
          refine d_dictSet (X := X.blk s3 H3 scope ce fp) I17 hD17 hz17 r16 r17 fun s18 I18 => ?_
          obtain ⟨m', hm, w'⟩ := hN1 _ nx
          have pin : ∀ b ∈ fp1, ∀ o, s14.heap.get? b = some o → s18.heap.get? b = some o ∧ (upd H17 D (.dK (putK kvs key yv))) b = none := fun b hb o e => ⟨(I18.pin (b, o) (List.mem_append_right _ (List.mem_append_right _ (mem_pinsAt hb e)))).1, (I18.pin (b, o) (List.mem_append_right _ (List.mem_append_right _ (mem_pinsAt hb e)))).2.1⟩
          exact ⟨m', hm, j + 1, _, I18.unpinned.weak (by rw [← hw15, wipe_length]) (fun j v e => by rw [← hw15] at e; exact (wipe_some e).1), T1.keep _ _ _ st14 fun b hb o e => (pin b hb o e).1, fun b hb => let ⟨o, e, _⟩ := T1.obj _ _ st14 b hb; (pin b hb o e).2, w'⟩
      exact second_start inner (T1.self X.A 0 _ _ _ st11 inner)
  exact codeAny_compStart_dict loop (T.self X.A 0 _ _ _ st4 loop)
end
end Vf
end
section
set_option Elab.async false
set_option linter.all false
set_option maxRecDepth 100000
set_option maxHeartbeats 4000000
namespace Vf
open PySem PySem.Spec PyProof.Rows L2 Evl
section
variable {X : Cx}
/-- y = {k: v for .. for ..} on one line, y a local that no block reads -/
theorem ps_setDc2 {i : Nat} {y : Str} {py pos spos : Pos} {kx vx ta ia tb ib : Expr} {scope : Scope} {own : List (Str × Nat)} {vs : List Nat} {wo wi : TI} {go g : TG} {tk tv : TE} (hc : X.calm = true) (hN : X.N.Nodup)
    (hy : X.N[i]? = some y) (hyl : X.env.scope.names.lookup y = some .local) (hsw : swapsWith (twoFor kx vx ta ia tb ib scope pos) (some (.Name y py)) spos.line X.env = pure true)
    (ho : PI X ta ia wo) (ok : BlkOk X.N X.env.scope scope own) (hv : ∀ i ∈ vs, i ∈ own.map (·.2)) (hgo : InBlk X scope fun B => PG B ta go) (hi : InBlk X scope fun B => PI B tb ib wi) (hg : InBlk X scope fun B => PG B tb g) (hk : InBlk X scope fun B => PE B kx tk) (he : InBlk X scope fun B => PE B vx tv)
    (hs : ∀ x, foldedSetIterable ia X.env x = pure x := by intro _; rfl) (hs1 : ∀ env x, foldedSetIterable ib env x = pure x := by intro _ _; rfl) : PS X (.Assign [.Name y py] (twoFor kx vx ta ia tb ib scope pos) spos) (tAsg (tDc2 wo go wi g tk tv (own.map (·.2)) vs) (gName i)) := by
  refine ⟨fun pins s σ H D I h => ?_⟩
  rw [exec_Assign_Name_used _ _ _ _ hsw]
  refine wpAny_bind (wpAny_standAt (wpAny_bind ?_))
  have h2 : tDc2 wo go wi g tk tv (own.map (·.2)) vs σ H (fun x H1 => gName i x σ H1 D.nx) := h
  show wpAny _ X.A (do let _ ← comprehension (twoFor kx vx ta ia tb ib scope pos) scope X.env (firstIterPos [⟨ta, ia, [], 0⟩, ⟨tb, ib, [], 0⟩] pos) newDict false (eval ia X.env) (some (assign (.Name y py) X.env))) _ _ s
  refine wpAny_bind (thn (dc2_core (Qf := fun _ s' => SP X pins D .next s') hc hN I ho ok hv hgo hi hg hk he hs hs1 h2 fun L C s' m H' I' q hn fo => ?_) fun _ s' hq => wpAny_pure (wpAny_pure hq))
  show wpAny _ _ (assign (.Name y py) X.env (.ref L)) _ _ _
  refine wpAny_assign_Name (store_ok2 (v := V.ref L) I' hN hy (.inl hyl) rfl (fun s2 I2 ⟨a, sb, ha⟩ => ?_) (.inr hyl))
  have hCa : C ≠ a := ha.elim (fun z e => fo.2.1 (e.trans z)) fun z e => fo.2.2.2.2.1 y a z e.symm
  exact ⟨m, hn.sameBut sb hCa, fun h3 sb3 => ⟨_, H', I2.turned (t' := s2.toks) (fun b o hb e => (sb3.2 b hb).trans e) fo.1 fo.2.1 fo.2.2.2.1 fo.2.2.2.2.1 fo.2.2.2.2.2, q⟩⟩
/-! ### d.values(), tuple keys -/
/-- the values of the locked dict at d, in their order -/
def Itdt (d : Addr) (o : Obj) (kvs : List (List Key × V)) : It :=
  ⟨fun i H => H d = some (.frz o (.dT kvs)) ∧ i < kvs.length, fun i H x H' => H' = H ∧ ∃ k, kvs[i]? = some (k, x), fun i H => H d = some (.frz o (.dT kvs)) ∧ kvs.length ≤ i⟩
theorem frz_vals {pins : List (Addr × Obj)} {σ : L2.St} {H : Hp} {s : Shared} {d : Addr} {o : Obj} {kvs : List (List Key × V)} (I : Inv X pins σ H s) (h : H d = some (.frz o (.dT kvs))) :
    (d == sysModules) = false ∧ ∃ (es : Array DictEntry) (ep : Nat), s.heap.DictRaw d es ep ∧ o.data = .dict es ep ∧ es.size = kvs.length ∧ ∀ (i : Nat) (hi : i < es.size) (k : List Key) (v : V), kvs[i]? = some (k, v) → RelV v es[i].val := by
  obtain ⟨hd, z, hs, xs, pr, o', es, ep, ho, hx, hdt, he, _⟩ := I.hok d _ h
  rw [hd] at ho
  cases ho
  refine ⟨hs, es, ep, ⟨o, hd, hx, hdt⟩, hdt, (size_of_entries he).trans (Paired.length pr).symm, fun i hi k v e => ?_⟩
  obtain ⟨b, hb, r⟩ := paired_get pr e
  have q := entry_at he i
  rw [hb, Array.getElem?_eq_getElem hi] at q
  have q2 := Option.some.inj q
  rw [q2]
  exact r.2.2
theorem turn_valsT {P : Program} {w : World} {K : PySem.W.Frag} {tg : Expr} {d : Addr} {o : Obj} {es : Array DictEntry} {ep : Nat} {kvs : List (List Key × V)} (it : Addr) (hod : o.data = .dict es ep) : Turn P w K tg (Itdt d o kvs) [it] it (fun i h => h.IsValIter it d i kvs.length ep) where
  mem := List.mem_singleton.mpr rfl
  obj := fun i h st b hb => by
    cases List.mem_singleton.mp hb
    obtain ⟨oi, e, c, dd⟩ := st
    exact ⟨oi, e, fun v z => by rw [dd] at z; cases z⟩
  keep := fun i h h' st k => st.at fun oi e => k it (List.mem_singleton.mpr rfl) oi e
  item := by
    intro X hP hw hK hc i pins s σ H E I hf st hg
    subst hP hw hK
    obtain ⟨f0, f1, f2, f3, f4, f5⟩ := hf it (List.mem_singleton.mpr rfl)
    obtain ⟨hs, es', ep', raw, hdt, hsz, val⟩ := frz_vals I hg.1
    obtain ⟨rfl, rfl⟩ := dict_ep hod hdt
    have hi : i < es'.size := by rw [hsz]; exact hg.2
    obtain ⟨⟨k, v⟩, hkv⟩ : ∃ p, kvs[i]? = some p := ⟨kvs[i], List.getElem?_eq_getElem hg.2⟩
    rw [← hsz] at st
    refine wpAny_pyNext_values_item_raw st raw hi fun h' st' sb => ?_
    have I1 : Inv X pins σ H { s with heap := h' } := I.turned (t' := s.toks) (fun b ob hb e => (sb.2 b hb).trans e) f0 f1 f3 f4 f5
    obtain ⟨oi, e, c, dd⟩ := id st'
    refine ⟨_, rfl, go_of (s := { s with heap := h' }) e c dd (by decide) ⟨v, H, I1, val i hi k v hkv, ⟨rfl, k, hkv⟩, ?_, fun b hb => (hf b hb).1⟩⟩
    show h'.IsValIter it d (i + 1) kvs.length _
    rw [← hsz]
    exact st'
  done := by
    intro X hP hw hK hc i pins s σ H E I hf st hg
    subst hP hw hK
    obtain ⟨f0, f1, f2, f3, f4, f5⟩ := hf it (List.mem_singleton.mpr rfl)
    obtain ⟨hs, es', ep', raw, hdt, hsz, val⟩ := frz_vals I hg.1
    obtain ⟨rfl, rfl⟩ := dict_ep hod hdt
    rw [← hsz] at st
    exact wpAny_pyNext_values_end_raw (I.ok.hd hc) st raw (by rw [hsz]; exact hg.2) fun h' eb => ⟨rfl, I.turned (t' := s.toks) (fun b ob hb e => eb b ob hb e) f0 f1 f3 f4 f5⟩
  self := fun A i s Q E st h => wpAny_pyIter_valiter st h
def iValsT (td : TE) : TI := fun σ H R => td σ H fun x H1 => ∃ d o kvs, x = .ref d ∧ H1 d = some (.frz o (.dT kvs)) ∧ R (Itdt d o kvs) H1
theorem pi_valuesT {tg e : Expr} {td : TE} {apos cpos : Pos} (he : PE X e td) (hbase : attributeBase e "values" X.env (eval e X.env) = eval e X.env := by rfl) (hline : (apos.endLine == cpos.line) = true := by rfl) : PI X tg (.Call (.Attribute e "values" apos) [] [] cpos) (iValsT td) := by
  refine ⟨fun pins s σ H R I h => ?_⟩
  refine wpAny_Call_method (T := "dict") (id := "dict.values") hbase rfl hline F.plainAttrs_dict F.slot_dict_values F.type_dict_values (thn (he.run pins s σ H _ I h) fun u s1 hq => ?_)
  obtain ⟨x, H1, I1, rx, d, o, kvs, rfl, hd, q⟩ := hq
  obtain rfl : u = Value.ref d := rx
  obtain ⟨hs, es, ep, raw, hdt, hsz, _⟩ := frz_vals I1 hd
  refine ⟨raw.typeIs, (let ⟨ob, e, x, _⟩ := raw; fun o' h' => by cases h'; exact ⟨ob, e, x.2.1⟩), ?_⟩
  have I2 : Inv X pins σ H1 { s1 with heap := s1.heap.push { cls := .type "dict_values", data := .fields #[.ref d] } } := I1.kept (t' := s1.toks) fun b ob q => Heap.get?_push_of_some _ q
  have fin : wpAny (model X.prog X.w) X.A (pyIter (.ref s1.heap.objs.size)) (PIE X pins σ tg R) X.xe { s1 with heap := s1.heap.push { cls := .type "dict_values", data := .fields #[.ref d] } } := by
    refine wpAny_pyIter_values_raw (d := d) (es := es) (ep := ep) ⟨_, Heap.get?_push_size _ rfl, rfl, rfl⟩ (raw.at fun o' e => Heap.get?_push_of_some _ e) (pi_one (tk := s1.toks) I2 _ (turn_valsT _ hdt) ⟨_, Heap.get?_push_size _ rfl, rfl, ?_⟩ q)
    rw [hsz] <;> rfl
  show wpAny _ _ (callWith cpos (.builtin "dict.values") [.ref d] [] []) _ X.xe s1
  exact method_meetsIn F.slot_dict_values F.entry_dict_values rfl (PySem.evalArgs_none ⟨rfl, raw.typeIs, F.args_dict_values_1 _, _, meets_dict_values_raw d hs, ⟨es, ep, raw⟩, fin⟩)
end
end Vf
end
section
set_option autoImplicit false
set_option linter.unusedSectionVars false
/-! What comes from edges by rules: closed ways below 0, and why there are none. -/
namespace Vf.Cl
variable {N : Type} [DecidableEq N]
/-- an edge from x to y with a label and a weight -/
structure Ed (N : Type) where
  x : N
  y : N
  e : N
  w : Int
  deriving DecidableEq
/-- a task -/
structure Tk (N : Type) where
  b : N
  e : N
  lo : Int
  hi : Int
  deriving DecidableEq
def Ed.k (a : Ed N) : N × N × N := (a.x, a.y, a.e)
theorem Ed.k_eq {a b : Ed N} (h : a.k = b.k) : a.x = b.x ∧ a.y = b.y ∧ a.e = b.e := by
  have h1 : a.x = b.x ∧ (a.y, a.e) = (b.y, b.e) := Prod.mk.injEq .. ▸ h
  have h2 : a.y = b.y ∧ a.e = b.e := Prod.mk.injEq .. ▸ h1.2
  exact ⟨h1.1, h2.1, h2.2⟩
theorem Ed.k_of {a b : Ed N} (h1 : a.x = b.x) (h2 : a.y = b.y) (h3 : a.e = b.e) : a.k = b.k := by
  unfold Ed.k
  rw [h1, h2, h3]
def sumE (o : N) (f s : Ed N) : Option (Ed N) := if f.e ≠ o ∨ f.y ≠ s.x ∨ f.x = s.y ∨ f.x = f.y ∨ s.x = s.y then none else some ⟨f.x, s.y, s.e, f.w + s.w⟩
def earlyE (T : N → Option (Tk N)) (a : Ed N) : Option (Ed N) :=
  match T a.x with
  | none => none
  | some t => if 0 ≤ a.w ∨ a.x = a.e ∨ a.x = a.y then none else some ⟨t.b, a.y, a.e, t.lo + a.w⟩
def sureE (o : N) (T : N → Option (Tk N)) (a : Ed N) : Option (Ed N) :=
  if a.e = o ∨ a.x = a.y then none else
  match T a.e with
  | none => none
  | some t => some ⟨a.x, a.y, o, max a.w (-t.lo)⟩
/-- what comes from the edges of B -/
inductive Der (o : N) (T : N → Option (Tk N)) (B : Ed N → Prop) : Ed N → Prop
  | base {a : Ed N} : B a → Der o T B a
  | sum {f s r : Ed N} : Der o T B f → Der o T B s → sumE o f s = some r → Der o T B r
  | early {a r : Ed N} : Der o T B a → earlyE T a = some r → Der o T B r
  | sure {a r : Ed N} : Der o T B a → sureE o T a = some r → Der o T B r
/-- a row of edges from x to y, not empty -/
inductive Way (S : Ed N → Prop) : N → N → Int → Prop
  | one {a : Ed N} : S a → Way S a.x a.y a.w
  | more {a : Ed N} {z : N} {t : Int} : S a → Way S a.y z t → Way S a.x z (a.w + t)
def Ring (S : Ed N → Prop) : Prop := ∃ x t, Way S x x t ∧ t < 0
theorem Way.up {S S' : Ed N → Prop} (h : ∀ a, S a → S' a) {x y : N} {t : Int} (w : Way S x y t) : Way S' x y t := by
  induction w with
  | one s => exact .one (h _ s)
  | more s _ ih => exact .more (h _ s) ih
theorem Way.trans {S : Ed N → Prop} {x y z : N} {t u : Int} (w : Way S x y t) (v : Way S y z u) : Way S x z (t + u) := by
  induction w with
  | one s => exact .more s v
  | more s _ ih => rw [Int.add_assoc]; exact .more s (ih v)
theorem Ring.up {S S' : Ed N → Prop} (h : ∀ a, S a → S' a) : Ring S → Ring S' := fun ⟨x, t, w, l⟩ => ⟨x, t, w.up h, l⟩
theorem way_pot {S : Ed N → Prop} {φ : N → Int} (h : ∀ a, S a → φ a.y ≤ φ a.x + a.w) {x y : N} {t : Int} (w : Way S x y t) : φ y ≤ φ x + t := by
  induction w with
  | one s => exact h _ s
  | @more a z t s _ ih =>
    have := h _ s
    omega
theorem no_ring_pot {S : Ed N → Prop} {φ : N → Int} (h : ∀ a, S a → φ a.y ≤ φ a.x + a.w) : ¬ Ring S := fun ⟨x, t, w, l⟩ => by
  have := way_pot h w
  omega
/-- what is known: a weight, or none, for each key -/
abbrev Kn (N : Type) := N × N × N → Option Int
def InM (M : Kn N) (a : Ed N) : Prop := M a.k = some a.w
def Dom (M : Kn N) (a : Ed N) : Prop := ∃ v, M a.k = some v ∧ v ≤ a.w
structure Closed (o : N) (T : N → Option (Tk N)) (B : Ed N → Prop) (M : Kn N) : Prop where
  nl : ∀ a, InM M a → a.x ≠ a.y
  base : ∀ a, B a → a.x ≠ a.y ∧ Dom M a
  sum : ∀ f s r, InM M f → InM M s → sumE o f s = some r → Dom M r
  early : ∀ a r, InM M a → earlyE T a = some r → (r.x = r.y → 0 ≤ r.w) ∧ (r.x ≠ r.y → Dom M r)
  sure : ∀ a r, InM M a → sureE o T a = some r → Dom M r
theorem Dom.get {M : Kn N} {a : Ed N} (h : Dom M a) : ∃ v, InM M { a with w := v } ∧ v ≤ a.w := h
theorem Dom.up {M : Kn N} {a b : Ed N} (h : Dom M a) (k : a.k = b.k) (w : a.w ≤ b.w) : Dom M b := by
  obtain ⟨v, hv, hl⟩ := h
  exact ⟨v, k ▸ hv, Int.le_trans hl w⟩
variable {o : N} {T : N → Option (Tk N)} {B : Ed N → Prop} {M : Kn N}
theorem sumE_some {f s r : Ed N} (h : sumE o f s = some r) : f.e = o ∧ f.y = s.x ∧ f.x ≠ s.y ∧ f.x ≠ f.y ∧ s.x ≠ s.y ∧ r = ⟨f.x, s.y, s.e, f.w + s.w⟩ := by
  unfold sumE at h
  split at h
  · cases h
  · rename_i n
    simp only [not_or, Decidable.not_not] at n
    exact ⟨n.1, n.2.1, n.2.2.1, n.2.2.2.1, n.2.2.2.2, (Option.some.inj h).symm⟩
theorem sumE_of {f s : Ed N} (h1 : f.e = o) (h2 : f.y = s.x) (h3 : f.x ≠ s.y) (h4 : f.x ≠ f.y) (h5 : s.x ≠ s.y) : sumE o f s = some ⟨f.x, s.y, s.e, f.w + s.w⟩ := by
  unfold sumE
  rw [if_neg]
  simp only [not_or, Decidable.not_not]
  exact ⟨h1, h2, h3, h4, h5⟩
theorem earlyE_some {a r : Ed N} (h : earlyE T a = some r) : ∃ t, T a.x = some t ∧ a.w < 0 ∧ a.x ≠ a.e ∧ a.x ≠ a.y ∧ r = ⟨t.b, a.y, a.e, t.lo + a.w⟩ := by
  unfold earlyE at h
  split at h
  · cases h
  · rename_i t ht
    split at h
    · cases h
    · rename_i n
      simp only [not_or, Int.not_le] at n
      exact ⟨t, ht, n.1, n.2.1, n.2.2, (Option.some.inj h).symm⟩
theorem earlyE_of {a : Ed N} {t : Tk N} (h : T a.x = some t) (h1 : a.w < 0) (h2 : a.x ≠ a.e) (h3 : a.x ≠ a.y) : earlyE T a = some ⟨t.b, a.y, a.e, t.lo + a.w⟩ := by
  unfold earlyE
  rw [h]
  dsimp only
  rw [if_neg]
  simp only [not_or, Int.not_le]
  exact ⟨h1, h2, h3⟩
theorem sureE_some {a r : Ed N} (h : sureE o T a = some r) : ∃ t, T a.e = some t ∧ a.e ≠ o ∧ a.x ≠ a.y ∧ r = ⟨a.x, a.y, o, max a.w (-t.lo)⟩ := by
  unfold sureE at h
  split at h
  · cases h
  · rename_i n
    simp only [not_or] at n
    split at h
    · cases h
    · rename_i t ht
      exact ⟨t, ht, n.1, n.2, (Option.some.inj h).symm⟩
theorem sureE_of {a : Ed N} {t : Tk N} (h : T a.e = some t) (h1 : a.e ≠ o) (h2 : a.x ≠ a.y) : sureE o T a = some ⟨a.x, a.y, o, max a.w (-t.lo)⟩ := by
  unfold sureE
  rw [if_neg (by simp only [not_or]; exact ⟨h1, h2⟩), h]
theorem der_dom (c : Closed o T B M) {a : Ed N} (d : Der o T B a) : (a.x = a.y → 0 ≤ a.w) ∧ (a.x ≠ a.y → Dom M a) := by
  induction d with
  | base b => exact ⟨fun z => absurd z (c.base _ b).1, fun _ => (c.base _ b).2⟩
  | @sum f s r df ds e ihf ihs =>
    obtain ⟨h1, h2, h3, h4, h5, rfl⟩ := sumE_some e
    obtain ⟨v, iv, lv⟩ := (ihf.2 h4).get
    obtain ⟨u, iu, lu⟩ := (ihs.2 h5).get
    refine ⟨fun z => absurd z h3, fun _ => ?_⟩
    have := c.sum { f with w := v } { s with w := u } _ iv iu (sumE_of h1 h2 h3 h4 h5)
    exact this.up rfl (Int.add_le_add lv lu)
  | @early a r da e ih =>
    obtain ⟨t, ht, h1, h2, h3, rfl⟩ := earlyE_some e
    obtain ⟨v, iv, lv⟩ := (ih.2 h3).get
    have hv : v < 0 := by omega
    have := c.early { a with w := v } _ iv (earlyE_of ht hv h2 h3)
    refine ⟨fun z => ?_, fun z => (this.2 z).up rfl ?_⟩
    · have := this.1 z
      dsimp only at this ⊢
      omega
    · dsimp only
      omega
  | @sure a r da e ih =>
    obtain ⟨t, ht, h1, h2, rfl⟩ := sureE_some e
    obtain ⟨v, iv, lv⟩ := (ih.2 h2).get
    refine ⟨fun z => absurd z h2, fun _ => ?_⟩
    have := c.sure { a with w := v } _ iv (sureE_of ht h1 h2)
    refine this.up rfl ?_
    show max v _ ≤ max a.w _
    omega
theorem way_drop (c : Closed o T B M) {x y : N} {t : Int} (w : Way (Der o T B) x y t) : (x = y ∧ 0 ≤ t) ∨ ∃ t', t' ≤ t ∧ Way (InM M) x y t' := by
  induction w with
  | @one a s =>
    have h := der_dom c s
    by_cases z : a.x = a.y
    · exact .inl ⟨z, h.1 z⟩
    · obtain ⟨v, iv, lv⟩ := (h.2 z).get
      exact .inr ⟨v, lv, .one iv⟩
  | @more a z t s _ ih =>
    have h := der_dom c s
    by_cases e : a.x = a.y
    · have hw := h.1 e
      rcases ih with ⟨e2, h2⟩ | ⟨t', h2, w2⟩
      · exact .inl ⟨e.trans e2, by omega⟩
      · exact .inr ⟨t', by omega, e ▸ w2⟩
    · obtain ⟨v, iv, lv⟩ := (h.2 e).get
      rcases ih with ⟨e2, h2⟩ | ⟨t', h2, w2⟩
      · refine .inr ⟨v, by omega, ?_⟩
        have : Way (InM M) a.x a.y v := .one iv
        rw [← e2]
        exact this
      · exact .inr ⟨v + t', by omega, .more (a := { a with w := v }) iv w2⟩
/-- where what is known is closed and has no ring, none comes -/
theorem no_ring (c : Closed o T B M) (h : ¬ Ring (InM M)) : ¬ Ring (Der o T B) := fun ⟨x, t, w, l⟩ => by
  rcases way_drop c w with ⟨_, h2⟩ | ⟨t', h2, w2⟩
  · omega
  · exact h ⟨x, t', w2, by omega⟩
/-- no more comes from fewer -/
theorem Der.up {B' : Ed N → Prop} (h : ∀ a, B a → B' a) {a : Ed N} (d : Der o T B a) : Der o T B' a := by
  induction d with
  | base b => exact .base (h _ b)
  | sum _ _ e h1 h2 => exact .sum h1 h2 e
  | early _ e h1 => exact .early h1 e
  | sure _ e h1 => exact .sure h1 e
end Vf.Cl
end
section
set_option autoImplicit false
set_option linter.all false
/-! Pairs by key; rounds end. -/
namespace Vf.Cl
section
variable {α β : Type} [DecidableEq α]
def lookA (l : List (α × β)) (a : α) : Option β := (l.find? fun p => decide (p.1 = a)).map (·.2)
def putA (l : List (α × β)) (a : α) (b : β) : List (α × β) := if (l.any fun p => decide (p.1 = a)) = true then l.map (fun p => if p.1 = a then (p.1, b) else p) else l ++ [(a, b)]
theorem lookA_nil {a : α} : lookA ([] : List (α × β)) a = none := rfl
theorem lookA_pos {p : α × β} {r : List (α × β)} {a : α} (e : p.1 = a) : lookA (p :: r) a = some p.2 := by simp [lookA, List.find?_cons, e]
theorem lookA_neg {p : α × β} {r : List (α × β)} {a : α} (e : ¬ p.1 = a) : lookA (p :: r) a = lookA r a := by simp [lookA, List.find?_cons, e]
theorem lookA_any (a : α) : ∀ l : List (α × β), (l.any fun p => decide (p.1 = a)) = (lookA l a).isSome
  | [] => rfl
  | p :: r => by
    rw [List.any_cons]
    by_cases e : p.1 = a
    · rw [lookA_pos e, decide_eq_true e]; rfl
    · rw [lookA_neg e, decide_eq_false e, Bool.false_or]; exact lookA_any a r
theorem lookA_mem {l : List (α × β)} {a : α} {b : β} (h : lookA l a = some b) : (a, b) ∈ l := by
  induction l with
  | nil => cases h
  | cons p r ih =>
    by_cases e : p.1 = a
    · rw [lookA_pos e] at h
      cases h
      subst e
      exact List.mem_cons_self ..
    · rw [lookA_neg e] at h
      exact List.mem_cons_of_mem _ (ih h)
theorem lookA_of {l : List (α × β)} (nd : (l.map (·.1)).Nodup) {p : α × β} (h : p ∈ l) : lookA l p.1 = some p.2 := by
  induction l with
  | nil => cases h
  | cons q r ih =>
    rw [List.map_cons, List.nodup_cons] at nd
    rcases List.mem_cons.mp h with rfl | h
    · exact lookA_pos rfl
    · have : ¬ q.1 = p.1 := fun e => nd.1 (e ▸ List.mem_map_of_mem (f := (·.1)) h)
      rw [lookA_neg this]
      exact ih nd.2 h
theorem lookA_none {l : List (α × β)} {a : α} : lookA l a = none ↔ a ∉ l.map (·.1) := by
  induction l with
  | nil => simp [lookA_nil]
  | cons p r ih =>
    by_cases e : p.1 = a
    · rw [lookA_pos e]
      simp [e]
    · rw [lookA_neg e, ih, List.map_cons, List.mem_cons, not_or]
      exact ⟨fun h => ⟨fun z => e z.symm, h⟩, fun h => h.2⟩
theorem lookA_map (k : α) (b : β) (j : α) : ∀ l : List (α × β), lookA (l.map fun p => if p.1 = k then (p.1, b) else p) j = (lookA l j).map fun x => if j = k then b else x
  | [] => rfl
  | p :: r => by
    have ih := lookA_map k b j r
    rw [List.map_cons]
    by_cases h : p.1 = k
    · rw [if_pos h]
      by_cases e : p.1 = j
      · rw [lookA_pos (p := (p.1, b)) e, lookA_pos e]
        simp [← e, h]
      · rw [lookA_neg (p := (p.1, b)) e, lookA_neg e, ih]
    · rw [if_neg h]
      by_cases e : p.1 = j
      · rw [lookA_pos e, lookA_pos e]
        simp [← e, h]
      · rw [lookA_neg e, lookA_neg e, ih]
theorem lookA_snoc (k : α) (b : β) (j : α) : ∀ l : List (α × β), lookA l k = none → lookA (l ++ [(k, b)]) j = if j = k then some b else lookA l j
  | [], _ => by
    by_cases e : k = j
    · rw [if_pos e.symm]; exact lookA_pos (p := (k, b)) e
    · rw [if_neg fun z => e z.symm]; exact lookA_neg (p := (k, b)) e
  | p :: r, hn => by
    rw [List.cons_append]
    by_cases h : p.1 = k
    · rw [lookA_pos h] at hn; cases hn
    · rw [lookA_neg h] at hn
      by_cases e : p.1 = j
      · have : ¬ j = k := fun z => h (e.trans z)
        rw [lookA_pos e, lookA_pos e, if_neg this]
      · rw [lookA_neg e, lookA_neg e]; exact lookA_snoc k b j r hn
theorem lookA_put (l : List (α × β)) (k j : α) (b : β) : lookA (putA l k b) j = if j = k then some b else lookA l j := by
  unfold putA
  rw [lookA_any]
  cases h : lookA l k with
  | some x =>
    rw [if_pos (show (some x).isSome = true from rfl), lookA_map]
    by_cases e : j = k
    · subst e; rw [h]; simp
    · cases lookA l j <;> simp [e]
  | none => rw [if_neg (by simp)]; exact lookA_snoc k b j l h
theorem putA_new {l : List (α × β)} {k : α} (b : β) (h : lookA l k = none) : putA l k b = l ++ [(k, b)] := by
  unfold putA
  rw [lookA_any, h]
  rfl
theorem putA_old {l : List (α × β)} {k : α} {c : β} (b : β) (h : lookA l k = some c) : putA l k b = l.map (fun p => if p.1 = k then (p.1, b) else p) := by
  unfold putA
  rw [lookA_any, h]
  rfl
theorem keys_map (k : α) (b : β) (l : List (α × β)) : (l.map fun p => if p.1 = k then (p.1, b) else p).map (·.1) = l.map (·.1) := by
  rw [List.map_map]
  refine List.map_congr_left fun p _ => ?_
  show (if p.1 = k then (p.1, b) else p).1 = p.1
  split <;> rfl
theorem nodup_snoc {l : List α} {a : α} (nd : l.Nodup) (h : a ∉ l) : (l ++ [a]).Nodup := by
  rw [List.nodup_append]
  refine ⟨nd, by simp, fun x hx y hy e => ?_⟩
  rw [List.mem_singleton] at hy
  subst hy
  subst e
  exact h hx
theorem putA_nodup {l : List (α × β)} (nd : (l.map (·.1)).Nodup) (k : α) (b : β) : ((putA l k b).map (·.1)).Nodup := by
  cases h : lookA l k with
  | some c =>
    rw [putA_old b h, keys_map]
    exact nd
  | none =>
    rw [putA_new b h, List.map_append]
    exact nodup_snoc nd (lookA_none.mp h)
theorem putA_len {l : List (α × β)} (k : α) (b : β) : (putA l k b).length = if (lookA l k).isSome = true then l.length else l.length + 1 := by
  cases h : lookA l k with
  | some c =>
    rw [putA_old b h, List.length_map]
    rfl
  | none =>
    rw [putA_new b h, List.length_append]
    rfl
theorem mem_putA {l : List (α × β)} {k : α} {b : β} {p : α × β} (h : p ∈ putA l k b) : p = (k, b) ∨ p ∈ l := by
  cases e : lookA l k with
  | some c =>
    rw [putA_old b e] at h
    obtain ⟨q, hq, rfl⟩ := List.mem_map.mp h
    by_cases z : q.1 = k
    · rw [if_pos z, z]; exact .inl rfl
    · rw [if_neg z]; exact .inr hq
  | none =>
    rw [putA_new b e] at h
    rcases List.mem_append.mp h with h | h
    · exact .inr h
    · exact .inl (List.mem_singleton.mp h)
/-- keys moved by a one to one function -/
theorem lookA_mapK {α' : Type} [DecidableEq α'] {f : α → α'} (inj : ∀ a b, f a = f b → a = b) (a : α) : ∀ l : List (α × β), lookA (l.map fun p => (f p.1, p.2)) (f a) = lookA l a
  | [] => rfl
  | p :: r => by
    rw [List.map_cons]
    by_cases e : p.1 = a
    · rw [lookA_pos (p := (f p.1, p.2)) (congrArg f e), lookA_pos e]
    · rw [lookA_neg (p := (f p.1, p.2)) (fun z => e (inj _ _ z)), lookA_neg e]
      exact lookA_mapK inj a r
theorem lookA_mapV {γ : Type} (g : β → γ) (a : α) : ∀ l : List (α × β), lookA (l.map fun p => (p.1, g p.2)) a = (lookA l a).map g
  | [] => rfl
  | p :: r => by
    rw [List.map_cons]
    by_cases e : p.1 = a
    · rw [lookA_pos (p := (p.1, g p.2)) e, lookA_pos e]; rfl
    · rw [lookA_neg (p := (p.1, g p.2)) e, lookA_neg e]
      exact lookA_mapV g a r
theorem putA_mapV {γ : Type} (g : β → γ) (a : α) (b : β) (l : List (α × β)) : (putA l a b).map (fun p => (p.1, g p.2)) = putA (l.map fun p => (p.1, g p.2)) a (g b) := by
  cases h : lookA l a with
  | some c =>
    have h2 : lookA (l.map fun p => (p.1, g p.2)) a = some (g c) := by rw [lookA_mapV, h]; rfl
    rw [putA_old b h, putA_old _ h2, List.map_map, List.map_map]
    refine List.map_congr_left fun p _ => ?_
    show ((if p.1 = a then (p.1, b) else p).1, g (if p.1 = a then (p.1, b) else p).2) = if p.1 = a then (p.1, g b) else (p.1, g p.2)
    split <;> rfl
  | none =>
    have h2 : lookA (l.map fun p => (p.1, g p.2)) a = none := by rw [lookA_mapV, h]; rfl
    rw [putA_new b h, putA_new _ h2, List.map_append]
    rfl
/-! ### how many -/
theorem sub_len : ∀ (xs l : List α), xs.Nodup → (∀ x ∈ xs, x ∈ l) → xs.length ≤ l.length
  | [], _, _, _ => Nat.zero_le _
  | x :: xs, l, nd, h => by
    rw [List.nodup_cons] at nd
    have hx : x ∈ l := h x (List.mem_cons_self ..)
    have ih := sub_len xs (l.erase x) nd.2 fun y hy => (List.mem_erase_of_ne (fun (z : y = x) => nd.1 (z ▸ hy))).mpr (h y (List.mem_cons_of_mem _ hy))
    have e := List.length_erase_of_mem hx
    have := List.length_pos_of_mem hx
    rw [List.length_cons]
    omega
/-- more than there is room for: two are the same -/
theorem two_same (f : Nat → α) (l : List α) (h : ∀ i, i ≤ l.length → f i ∈ l) : ∃ i j, i < j ∧ j ≤ l.length ∧ f i = f j := by
  refine Classical.byContradiction fun n => ?_
  have nd : ((List.range (l.length + 1)).map f).Nodup := by
    unfold List.Nodup
    rw [List.pairwise_map]
    refine List.Pairwise.imp_of_mem (R := fun a b => a < b) (fun {a b} _ hb hab e => ?_) List.pairwise_lt_range
    exact n ⟨a, b, hab, Nat.lt_succ_iff.mp (List.mem_range.mp hb), e⟩
  have := sub_len _ l nd fun x hx => by
    obtain ⟨i, hi, rfl⟩ := List.mem_map.mp hx
    exact h i (Nat.lt_succ_iff.mp (List.mem_range.mp hi))
  rw [List.length_map, List.length_range] at this
  omega
/-! ### rounds that lower a weight or bring a key -/
def Sw (l : List (α × Int)) : Int := (l.map (·.2)).foldr (· + ·) 0
theorem Sw_nil : Sw ([] : List (α × Int)) = 0 := rfl
theorem Sw_cons (p : α × Int) (l : List (α × Int)) : Sw (p :: l) = p.2 + Sw l := rfl
def Lt (l' l : List (α × Int)) : Prop := l.length < l'.length ∨ (l'.length = l.length ∧ Sw l' < Sw l)
theorem Lt.trans {a b c : List (α × Int)} (h : Lt a b) (g : Lt b c) : Lt a c := by
  unfold Lt at *
  omega
theorem Sw_put {l : List (α × Int)} (nd : (l.map (·.1)).Nodup) {k : α} {v : Int} (w : Int) (h : lookA l k = some v) : Sw (putA l k w) = Sw l - v + w := by
  rw [putA_old w h]
  induction l with
  | nil => cases h
  | cons p r ih =>
    rw [List.map_cons, List.nodup_cons] at nd
    rw [List.map_cons, Sw_cons, Sw_cons]
    by_cases e : p.1 = k
    · rw [lookA_pos e] at h
      cases h
      rw [if_pos e]
      have : r.map (fun q => if q.1 = k then (q.1, w) else q) = r := by
        have : ∀ q ∈ r, (fun q : α × Int => if q.1 = k then (q.1, w) else q) q = q := fun q hq => if_neg fun z => nd.1 (by rw [e, ← z]; exact List.mem_map_of_mem (f := (·.1)) hq)
        rw [List.map_congr_left this, List.map_id']
      rw [this]
      dsimp only
      omega
    · rw [lookA_neg e] at h
      rw [if_neg e, ih nd.2 h]
      omega
theorem lt_put {l : List (α × Int)} (nd : (l.map (·.1)).Nodup) {k : α} {w : Int} (h : ∀ v, lookA l k = some v → w < v) : Lt (putA l k w) l := by
  cases e : lookA l k with
  | none =>
    refine .inl ?_
    rw [putA_new w e, List.length_append]
    exact Nat.lt_succ_self _
  | some v =>
    have := h v e
    refine .inr ⟨by rw [putA_old w e, List.length_map], ?_⟩
    rw [Sw_put nd w e]
    omega
def Good (U B : Nat) (l : List (α × Int)) : Prop := l.length ≤ U ∧ 0 ≤ Sw l + B * l.length
theorem lt_ind {U B : Nat} {P : List (α × Int) → Prop} (step : ∀ l, Good U B l → (∀ l', Good U B l' → Lt l' l → P l') → P l) : ∀ l, Good U B l → P l := by
  have main : ∀ n m : Nat, ∀ l, Good U B l → U - l.length = n → (Sw l + B * l.length).toNat = m → P l := by
    intro n
    induction n using Nat.strongRecOn with
    | ind n ihn =>
      intro m
      induction m using Nat.strongRecOn with
      | ind m ihm =>
        intro l g hn hm
        refine step l g fun l' g' lt => ?_
        rcases lt with h | ⟨h, h2⟩
        · exact ihn (U - l'.length) (by have := g'.1; omega) _ l' g' rfl rfl
        · refine ihm (Sw l' + B * l'.length).toNat ?_ l' g' (by rw [h]; exact hn) rfl
          have h3 := g.2
          have h4 := g'.2
          rw [h] at h4 ⊢
          omega
  exact fun l g => main _ _ l g rfl rfl
theorem good_of {U B : Nat} {l : List (α × Int)} (h : l.length ≤ U) (hw : ∀ p ∈ l, -(B : Int) ≤ p.2) : Good U B l := by
  refine ⟨h, ?_⟩
  clear h
  induction l with
  | nil => rw [Sw_nil]; simp
  | cons p r ih =>
    have h1 := hw p (List.mem_cons_self ..)
    have h2 := ih fun q hq => hw q (List.mem_cons_of_mem _ hq)
    rw [Sw_cons, List.length_cons, Int.natCast_add, Int.mul_add]
    have : (B : Int) * ((1 : Nat) : Int) = B := by simp
    omega
end
end Vf.Cl
end
section
set_option autoImplicit false
set_option linter.all false
/-! Ways that grow shorter: rounds over all edges, and the way back to a ring. -/
namespace Vf.Cl
variable {N : Type} [DecidableEq N]
/-! ### the rounds, as the program makes them -/
def gi (r : List (N × Int)) (x : N) : Int := (lookA r x).getD 0
abbrev Bf (N : Type) := List (N × Int) × List (N × Ed N) × Option N
def relax1 (s : Bf N) (a : Ed N) : Bf N := if gi s.1 a.x + a.w < gi s.1 a.y then (putA s.1 a.y (gi s.1 a.x + a.w), putA s.2.1 a.y a, some a.y) else s
def roundB (es : List (Ed N)) (s : Bf N) : Bf N := es.foldl relax1 (s.1, s.2.1, none)
/-- the rounds: none where one changes nothing -/
def bf (es : List (Ed N)) : Nat → Bf N → Option (List (N × Ed N) × N)
  | 0, s => s.2.2.map fun v => (s.2.1, v)
  | n + 1, s => if (roundB es s).2.2 = none then none else bf es n (roundB es s)
/-- every name once, as it comes first -/
def names0 (es : List (Ed N)) : List (N × Int) := es.foldl (fun r a => putA (putA r a.x 0) a.y 0) []
def par (into : List (N × Ed N)) (v : N) : Option (Ed N) := lookA into v
/-- k steps back -/
def backN (into : List (N × Ed N)) : Nat → N → Option N
  | 0, v => some v
  | k + 1, v => match lookA into v with
    | none => none
    | some a => backN into k a.x
/-- the edges from there on back until the start comes again, the last one first -/
def rback (into : List (N × Ed N)) (start : N) : Nat → N → List (Ed N) → Option (List (Ed N))
  | 0, _, _ => none
  | k + 1, v, acc => if v = start then some acc else match lookA into v with
    | none => none
    | some a => rback into start k a.x (acc ++ [a])
def ringB (into : List (N × Ed N)) (last : N) : Option (List (Ed N)) :=
  match backN into into.length last with
  | none => none
  | some s => match lookA into s with
    | none => none
    | some a => (rback into s (into.length + 1) a.x [a]).map List.reverse
/-- the ring that is found; none: something is wrong -/
def ringOf (es : List (Ed N)) : Option (List (Ed N)) :=
  match bf es (names0 es).length (names0 es, [], none) with
  | none => some []
  | some (into, last) => ringB into last
/-! ### what the rounds keep -/
def parF (into : List (N × Ed N)) : N → Option (Ed N) := fun v => lookA into v
/-- k steps back with the weight -/
def back (p : N → Option (Ed N)) : Nat → N → Option (N × Int)
  | 0, v => some (v, 0)
  | k + 1, v => match p v with
    | none => none
    | some a => (back p k a.x).map fun q => (q.1, q.2 + a.w)
structure Inv (es : List (Ed N)) (j rd : Nat) (r : N → Int) (p : N → Option (Ed N)) (st : N → Nat) : Prop where
  up : ∀ v a, p v = some a → a ∈ es ∧ a.y = v ∧ r a.x + a.w ≤ r v ∧ st v ≤ st a.x + 1
  non : ∀ v, p v = none → st v = 0
  le : ∀ v, st v ≤ rd
  viol : ∀ i a, es[i]? = some a → r a.x + a.w < r a.y → (j ≤ i → rd ≤ st a.x + 1) ∧ (i < j → rd ≤ st a.x)
  neg : ∀ k v t, back p (k + 1) v = some (v, t) → t < 0
def upd {γ : Type} (f : N → γ) (y : N) (c : γ) : N → γ := fun v => if v = y then c else f v
theorem upd_at {γ : Type} {f : N → γ} {y : N} {c : γ} : upd f y c y = c := if_pos rfl
theorem upd_no {γ : Type} {f : N → γ} {y v : N} {c : γ} (h : v ≠ y) : upd f y c v = f v := if_neg h
theorem back_pot {p : N → Option (Ed N)} {ρ : N → Int} (h : ∀ v a, p v = some a → ρ a.x + a.w ≤ ρ v) : ∀ (k : Nat) (v u : N) (t : Int), back p k v = some (u, t) → ρ u + t ≤ ρ v
  | 0, v, u, t, e => by
    cases e
    omega
  | k + 1, v, u, t, e => by
    unfold back at e
    split at e
    · cases e
    · rename_i a ha
      obtain ⟨⟨u', t'⟩, h1, h2⟩ := Option.map_eq_some_iff.mp e
      cases h2
      have h3 := back_pot h k a.x u' t' h1
      have h4 := h v a ha
      dsimp only
      omega
/-- an edge more that is strict: a way back by it is strict, the others are as before -/
theorem back_new {p : N → Option (Ed N)} {ρ : N → Int} {b : Ed N} (h : ∀ v a, p v = some a → ρ a.x + a.w ≤ ρ v) (hb : ρ b.x + b.w < ρ b.y) : ∀ (k : Nat) (v u : N) (t : Int), back (upd p b.y (some b)) k v = some (u, t) → (ρ u + t < ρ v) ∨ (ρ u + t ≤ ρ v ∧ back p k v = some (u, t))
  | 0, v, u, t, e => by
    cases e
    exact .inr ⟨by omega, rfl⟩
  | k + 1, v, u, t, e => by
    unfold back at e
    split at e
    · cases e
    · rename_i a ha
      obtain ⟨⟨u', t'⟩, h1, h2⟩ := Option.map_eq_some_iff.mp e
      cases h2
      have ih := back_new h hb k a.x u' t' h1
      by_cases z : v = b.y
      · rw [z, upd_at] at ha
        cases ha
        left
        rw [z]
        dsimp only
        rcases ih with ih | ih <;> omega
      · rw [upd_no z] at ha
        have h4 := h v a ha
        rcases ih with ih | ⟨i1, i2⟩
        · left
          dsimp only
          omega
        · right
          refine ⟨by dsimp only; omega, ?_⟩
          unfold back
          rw [ha]
          dsimp only
          rw [i2]
          rfl
theorem Inv.step {es : List (Ed N)} {j rd : Nat} {r : N → Int} {p : N → Option (Ed N)} {st : N → Nat} (I : Inv es j rd r p st) {a : Ed N} (ha : es[j]? = some a) (h : r a.x + a.w < r a.y) :
    Inv es (j + 1) rd (upd r a.y (r a.x + a.w)) (upd p a.y (some a)) (upd st a.y rd) := by
  have mem : a ∈ es := List.mem_of_getElem? ha
  have hr : ∀ v, upd r a.y (r a.x + a.w) v ≤ r v := fun v => by
    by_cases z : v = a.y
    · rw [z, upd_at]; omega
    · rw [upd_no z]; exact Int.le_refl _
  have hs : ∀ v, st v ≤ upd st a.y rd v := fun v => by
    by_cases z : v = a.y
    · rw [z, upd_at]; exact I.le _
    · rw [upd_no z]; exact Nat.le_refl _
  have hv := (I.viol j a ha h).1 (Nat.le_refl _)
  refine ⟨fun v b hb => ?_, fun v hv => ?_, fun v => ?_, fun i b hi hb => ?_, fun k v t e => ?_⟩
  · by_cases z : v = a.y
    · rw [z, upd_at] at hb
      cases hb
      subst z
      refine ⟨mem, rfl, ?_, ?_⟩
      · rw [upd_at (y := a.y)]
        have := hr a.x
        omega
      · rw [upd_at (y := a.y)]
        have := hs a.x
        omega
    · rw [upd_no z] at hb
      obtain ⟨h1, h2, h3, h4⟩ := I.up v b hb
      refine ⟨h1, h2, ?_, ?_⟩
      · rw [upd_no z]
        have := hr b.x
        omega
      · rw [upd_no z]
        have := hs b.x
        omega
  · by_cases z : v = a.y
    · rw [z, upd_at] at hv
      cases hv
    · rw [upd_no z] at hv ⊢
      exact I.non v hv
  · by_cases z : v = a.y
    · rw [z, upd_at]; exact Nat.le_refl _
    · rw [upd_no z]; exact I.le v
  · by_cases z : b.x = a.y
    · rw [z, upd_at]
      exact ⟨fun _ => Nat.le_succ _, fun _ => Nat.le_refl _⟩
    · rw [upd_no z] at hb ⊢
      have hb2 : r b.x + b.w < r b.y := by
        have := hr b.y
        omega
      have old := I.viol i b hi hb2
      refine ⟨fun hj => old.1 (by omega), fun hj => ?_⟩
      by_cases e : i = j
      · subst e
        rw [ha] at hi
        cases hi
        rw [upd_at] at hb
        omega
      · exact old.2 (by omega)
  · rcases back_new (b := a) (fun v b hb => (I.up v b hb).2.2.1) h _ v v t e with q | ⟨_, q⟩
    · omega
    · exact I.neg k v t q
theorem Inv.skip {es : List (Ed N)} {j rd : Nat} {r : N → Int} {p : N → Option (Ed N)} {st : N → Nat} (I : Inv es j rd r p st) {a : Ed N} (ha : es[j]? = some a) (h : ¬ r a.x + a.w < r a.y) : Inv es (j + 1) rd r p st :=
  ⟨I.up, I.non, I.le, fun i b hi hb => ⟨fun hj => (I.viol i b hi hb).1 (by omega), fun hj => by
    by_cases e : i = j
    · subst e
      rw [ha] at hi
      cases hi
      exact absurd hb h
    · exact (I.viol i b hi hb).2 (by omega)⟩, I.neg⟩
theorem Inv.turn {es : List (Ed N)} {rd : Nat} {r : N → Int} {p : N → Option (Ed N)} {st : N → Nat} (I : Inv es es.length rd r p st) : Inv es 0 (rd + 1) r p st :=
  ⟨I.up, I.non, fun v => Nat.le_succ_of_le (I.le v), fun i b hi hb => ⟨fun _ => Nat.succ_le_succ ((I.viol i b hi hb).2 (List.getElem?_eq_some_iff.mp hi).1), fun hj => absurd hj (Nat.not_lt_zero _)⟩, I.neg⟩
theorem gi_put {r : List (N × Int)} {y : N} {t : Int} : gi (putA r y t) = upd (gi r) y t := by
  funext v
  unfold gi upd
  rw [lookA_put]
  split <;> rfl
theorem par_put {i : List (N × Ed N)} {y : N} {a : Ed N} : parF (putA i y a) = upd (parF i) y (some a) := by
  funext v
  unfold parF upd
  rw [lookA_put]
/-- what stands behind some edges of a round -/
structure Rd (es : List (Ed N)) (j rd : Nat) (s : Bf N) (r0 : List (N × Int)) : Prop where
  inv : ∃ st, Inv es j rd (gi s.1) (parF s.2.1) st ∧ ∀ v, s.2.2 = some v → st v = rd
  key : s.1.map (·.1) = r0.map (·.1)
  quiet : s.2.2 = none → ∀ i a, i < j → es[i]? = some a → gi s.1 a.y ≤ gi s.1 a.x + a.w
theorem rd_step {es : List (Ed N)} {j rd : Nat} {s : Bf N} {r0 : List (N × Int)} (R : Rd es j rd s r0) {a : Ed N} (ha : es[j]? = some a) (hin : ∀ a ∈ es, a.y ∈ r0.map (·.1)) : Rd es (j + 1) rd (relax1 s a) r0 := by
  obtain ⟨⟨st, I, hl⟩, hk, hq⟩ := R
  unfold relax1
  by_cases h : gi s.1 a.x + a.w < gi s.1 a.y
  · rw [if_pos h]
    refine ⟨⟨upd st a.y rd, ?_, fun v hv => ?_⟩, ?_, fun z => nomatch z⟩
    · show Inv es (j + 1) rd (gi (putA s.1 a.y (gi s.1 a.x + a.w))) (parF (putA s.2.1 a.y a)) _
      rw [gi_put, par_put]
      exact I.step ha h
    · cases hv
      exact upd_at
    · show (putA s.1 a.y _).map (·.1) = _
      have : a.y ∈ s.1.map (·.1) := by rw [hk]; exact hin a (List.mem_of_getElem? ha)
      cases e : lookA s.1 a.y with
      | none => exact absurd this (lookA_none.mp e)
      | some c => rw [putA_old _ e, keys_map, hk]
  · rw [if_neg h]
    refine ⟨⟨st, I.skip ha h, hl⟩, hk, fun z i b hi hb => ?_⟩
    by_cases e : i = j
    · subst e
      rw [ha] at hb
      cases hb
      omega
    · exact hq z i b (by omega) hb
theorem rd_round {es : List (Ed N)} {rd : Nat} {s : Bf N} {r0 : List (N × Int)} (hin : ∀ a ∈ es, a.y ∈ r0.map (·.1)) (R : Rd es 0 rd (s.1, s.2.1, none) r0) : Rd es es.length rd (roundB es s) r0 := by
  have main : ∀ (n j : Nat) (t : Bf N), n = es.length - j → j ≤ es.length → Rd es j rd t r0 → Rd es es.length rd ((es.drop j).foldl relax1 t) r0 := by
    intro n
    induction n with
    | zero =>
      intro j t hn hj R
      have : j = es.length := by omega
      subst this
      rw [List.drop_length]
      exact R
    | succ n ih =>
      intro j t hn hj R
      have hlt : j < es.length := by omega
      rw [List.drop_eq_getElem_cons hlt, List.foldl_cons]
      exact ih (j + 1) _ (by omega) hlt (rd_step R (List.getElem?_eq_getElem hlt) hin)
  exact main _ 0 _ rfl (Nat.zero_le _) R
/-- behind all rounds -/
theorem bf_rounds {es : List (Ed N)} {r0 : List (N × Int)} (hin : ∀ a ∈ es, a.y ∈ r0.map (·.1)) : ∀ (n rd : Nat) (s : Bf N), (∃ st, Inv es es.length rd (gi s.1) (parF s.2.1) st ∧ ∀ v, s.2.2 = some v → st v = rd) → s.1.map (·.1) = r0.map (·.1) →
    (bf es n s = none → (n = 0 ∧ s.2.2 = none) ∨ ∃ φ : N → Int, ∀ a ∈ es, φ a.y ≤ φ a.x + a.w) ∧
    (∀ into last, bf es n s = some (into, last) → ∃ r st, Inv es es.length (rd + n) r (parF into) st ∧ st last = rd + n)
  | 0, rd, s, ⟨st, I, hl⟩, _ => by
    refine ⟨fun h => .inl ⟨rfl, ?_⟩, fun into last h => ?_⟩
    · unfold bf at h
      exact Option.map_eq_none_iff.mp h
    · unfold bf at h
      obtain ⟨v, h1, h2⟩ := Option.map_eq_some_iff.mp h
      cases h2
      exact ⟨gi s.1, st, I, hl _ h1⟩
  | n + 1, rd, s, ⟨st, I, hl⟩, hk => by
    have R1 : Rd es 0 (rd + 1) (s.1, s.2.1, none) r0 := ⟨⟨st, I.turn, fun v z => nomatch z⟩, hk, fun _ i a hi => absurd hi (Nat.not_lt_zero _)⟩
    have R2 := rd_round hin R1
    by_cases z : (roundB es s).2.2 = none
    · refine ⟨fun _ => .inr ⟨gi (roundB es s).1, fun a ha => ?_⟩, fun into last h => ?_⟩
      · obtain ⟨i, hi, e⟩ := List.getElem_of_mem ha
        exact R2.quiet z i a hi (by rw [List.getElem?_eq_getElem hi, e])
      · unfold bf at h
        rw [if_pos z] at h
        cases h
    · have ih := bf_rounds hin n (rd + 1) (roundB es s) R2.inv R2.key
      refine ⟨fun h => ?_, fun into last h => ?_⟩
      · unfold bf at h
        rw [if_neg z] at h
        rcases ih.1 h with ⟨_, h2⟩ | h2
        · exact absurd h2 z
        · exact .inr h2
      · unfold bf at h
        rw [if_neg z] at h
        obtain ⟨r, st, I, h2⟩ := ih.2 into last h
        refine ⟨r, st, ?_, by omega⟩
        have e : rd + 1 + n = rd + (n + 1) := by omega
        rw [← e]
        exact I
theorem inv_start (es : List (Ed N)) {r : N → Int} : Inv es es.length 0 r (parF []) fun _ => 0 :=
  ⟨fun v a h => (nomatch (show (none : Option (Ed N)) = some a from h)), fun _ _ => rfl, fun _ => Nat.le_refl _, fun i a _ _ => ⟨fun _ => Nat.zero_le _, fun _ => Nat.le_refl _⟩, fun k v t h => (nomatch (show (none : Option (N × Int)) = some _ from h))⟩
/-! ### names -/
theorem names_in (es : List (Ed N)) : ∀ a ∈ es, a.x ∈ (names0 es).map (·.1) ∧ a.y ∈ (names0 es).map (·.1) := by
  have has : ∀ (r : List (N × Int)) (k : N), k ∈ (putA r k 0).map (·.1) := fun r k => by
    have h := lookA_put r k k (0 : Int)
    rw [if_pos rfl] at h
    exact Classical.byContradiction fun z => by
      rw [lookA_none.mpr z] at h
      cases h
  have stay : ∀ (r : List (N × Int)) (k v : N), v ∈ r.map (·.1) → v ∈ (putA r k 0).map (·.1) := fun r k v hv => by
    cases e : lookA r k with
    | some c => rw [putA_old _ e, keys_map]; exact hv
    | none => rw [putA_new _ e, List.map_append]; exact List.mem_append_left _ hv
  have keep : ∀ (l : List (Ed N)) (r : List (N × Int)) (v : N), v ∈ r.map (·.1) → v ∈ (l.foldl (fun r a => putA (putA r a.x 0) a.y 0) r).map (·.1) := by
    intro l
    induction l with
    | nil => exact fun r v h => h
    | cons a l ih => exact fun r v h => ih _ v (stay _ _ _ (stay _ _ _ h))
  have main : ∀ (l : List (Ed N)) (r : List (N × Int)), ∀ a ∈ l, a.x ∈ (l.foldl (fun r a => putA (putA r a.x 0) a.y 0) r).map (·.1) ∧ a.y ∈ (l.foldl (fun r a => putA (putA r a.x 0) a.y 0) r).map (·.1) := by
    intro l
    induction l with
    | nil => exact fun r a h => nomatch h
    | cons b l ih =>
      intro r a ha
      rcases List.mem_cons.mp ha with rfl | ha
      · exact ⟨keep l _ _ (stay _ _ _ (has _ _)), keep l _ _ (has _ _)⟩
      · exact ih _ a ha
  exact main es []
theorem names_from (es : List (Ed N)) {v : N} (h : v ∈ (names0 es).map (·.1)) : ∃ a ∈ es, v = a.x ∨ v = a.y := by
  have key : ∀ (r : List (N × Int)) (k v : N), v ∈ (putA r k 0).map (·.1) → v = k ∨ v ∈ r.map (·.1) := fun r k v hv => by
    obtain ⟨p, hp, rfl⟩ := List.mem_map.mp hv
    rcases mem_putA hp with rfl | h
    · exact .inl rfl
    · exact .inr (List.mem_map_of_mem h)
  have main : ∀ (l : List (Ed N)) (r : List (N × Int)) (v : N), v ∈ (l.foldl (fun r a => putA (putA r a.x 0) a.y 0) r).map (·.1) → v ∈ r.map (·.1) ∨ ∃ a ∈ l, v = a.x ∨ v = a.y := by
    intro l
    induction l with
    | nil => exact fun r v h => .inl h
    | cons b l ih =>
      intro r v hv
      rcases ih _ v hv with h | ⟨a, ha, e⟩
      · rcases key _ _ _ h with e | h
        · exact .inr ⟨b, List.mem_cons_self .., .inr e⟩
        · rcases key _ _ _ h with e | h
          · exact .inr ⟨b, List.mem_cons_self .., .inl e⟩
          · exact .inl h
      · exact .inr ⟨a, List.mem_cons_of_mem _ ha, e⟩
  rcases main es [] v h with h | h
  · cases h
  · exact h
theorem names_nodup (es : List (Ed N)) : ((names0 es).map (·.1)).Nodup := by
  have main : ∀ (l : List (Ed N)) (r : List (N × Int)), (r.map (·.1)).Nodup → ((l.foldl (fun r a => putA (putA r a.x 0) a.y 0) r).map (·.1)).Nodup := by
    intro l
    induction l with
    | nil => exact fun r h => h
    | cons b l ih => exact fun r h => ih _ (putA_nodup (putA_nodup h _ _) _ _)
  exact main es [] (by simp)
/-! ### the way back -/
/-- where one comes to, k steps back; where there is no step, one stays -/
def nd (p : N → Option (Ed N)) (v : N) : Nat → N
  | 0 => v
  | k + 1 => match p (nd p v k) with
    | none => nd p v k
    | some a => a.x
theorem nd_add (p : N → Option (Ed N)) (v : N) (i : Nat) : ∀ k, nd p v (i + k) = nd p (nd p v i) k
  | 0 => rfl
  | k + 1 => by
    show nd p v (i + k + 1) = _
    unfold nd
    rw [nd_add p v i k]
/-- all steps back can be made -/
theorem all_back {es : List (Ed N)} {r : N → Int} {p : N → Option (Ed N)} {st : N → Nat} {n : Nat} (I : Inv es es.length n r p st) {last : N} (hl : st last = n) (h0 : 0 < n) {ns : List N} (hn : ns.length = n) (hx : ∀ a ∈ es, a.x ∈ ns ∧ a.y ∈ ns) :
    ∀ k, p (nd p last k) ≠ none := by
  have low : ∀ k, k ≤ n → n ≤ st (nd p last k) + k := by
    intro k
    induction k with
    | zero =>
      intro _
      show n ≤ st last + 0
      omega
    | succ k ih =>
      intro hk
      have h1 := ih (by omega)
      cases e : p (nd p last k) with
      | none =>
        have := I.non _ e
        omega
      | some a =>
        have h2 : nd p last (k + 1) = a.x := by
          show (match p (nd p last k) with | none => nd p last k | some a => a.x) = a.x
          rw [e]
        obtain ⟨_, _, _, h3⟩ := I.up _ a e
        rw [h2]
        omega
  have some1 : ∀ k, k < n → p (nd p last k) ≠ none := fun k hk e => by
    have h1 := low k (by omega)
    have h2 := I.non _ e
    omega
  have isname : ∀ k, k ≤ n → nd p last k ∈ ns := by
    intro k
    cases k with
    | zero =>
      intro _
      cases e : p last with
      | none => exact absurd e (some1 0 h0)
      | some a =>
        obtain ⟨h1, h2, _, _⟩ := I.up _ a e
        show last ∈ ns
        rw [← h2]
        exact (hx a h1).2
    | succ k =>
      intro hk
      cases e : p (nd p last k) with
      | none => exact absurd e (some1 k (by omega))
      | some a =>
        have h2 : nd p last (k + 1) = a.x := by
          show (match p (nd p last k) with | none => nd p last k | some a => a.x) = a.x
          rw [e]
        rw [h2]
        exact (hx a (I.up _ a e).1).1
  obtain ⟨i, j, hij, hj, e⟩ := two_same (nd p last) ns fun i hi => isname i (by omega)
  have per : ∀ m, nd p last (j + m) = nd p last (i + m) := fun m => by rw [nd_add, nd_add, e]
  intro k
  induction k using Nat.strongRecOn with
  | ind k ih =>
    by_cases hk : k < j
    · exact some1 k (by omega)
    · have := per (k - j)
      rw [Nat.add_sub_cancel' (Nat.le_of_not_lt hk)] at this
      rw [this]
      exact ih (i + (k - j)) (by omega)
theorem backN_nd {into : List (N × Ed N)} {v : N} (h : ∀ k, parF into (nd (parF into) v k) ≠ none) : ∀ k, backN into k v = some (nd (parF into) v k) := by
  have main : ∀ k i, backN into k (nd (parF into) v i) = some (nd (parF into) v (i + k)) := by
    intro k
    induction k with
    | zero => exact fun i => rfl
    | succ k ih =>
      intro i
      unfold backN
      cases e : lookA into (nd (parF into) v i) with
      | none => exact absurd e (h i)
      | some a =>
        have h2 : nd (parF into) v (i + 1) = a.x := by
          show (match parF into (nd (parF into) v i) with | none => _ | some a => a.x) = a.x
          rw [show parF into (nd (parF into) v i) = some a from e]
        have := ih (i + 1)
        rw [h2] at this
        dsimp only
        rw [this, Nat.add_assoc, Nat.add_comm 1 k]
  intro k
  have := main k 0
  rw [Nat.zero_add] at this
  exact this
/-- a row of edges that each begin where the one ahead ends, from y back to x -/
inductive Chain : N → N → List (Ed N) → Prop
  | nil {x : N} : Chain x x []
  | cons {a : Ed N} {x : N} {l : List (Ed N)} : Chain x a.x l → Chain x a.y (l ++ [a])
end Vf.Cl
end
section
set_option autoImplicit false
set_option linter.all false
/-! The ring that the way back tells. -/
namespace Vf.Cl
variable {N : Type} [DecidableEq N]
/-- the edges, k steps back -/
def ce (p : N → Option (Ed N)) : N → Nat → List (Ed N)
  | _, 0 => []
  | v, k + 1 => match p v with
    | none => []
    | some a => a :: ce p a.x k
def wsum (l : List (Ed N)) : Int := (l.map (·.w)).foldr (· + ·) 0
theorem wsum_cons (a : Ed N) (l : List (Ed N)) : wsum (a :: l) = a.w + wsum l := rfl
theorem wsum_app (l m : List (Ed N)) : wsum (l ++ m) = wsum l + wsum m := by
  induction l with
  | nil => show wsum m = 0 + wsum m; omega
  | cons a l ih => rw [List.cons_append, wsum_cons, wsum_cons, ih]; omega
theorem wsum_rev (l : List (Ed N)) : wsum l.reverse = wsum l := by
  induction l with
  | nil => rfl
  | cons a l ih => rw [List.reverse_cons, wsum_app, ih, wsum_cons, wsum_cons]; show wsum l + (a.w + 0) = a.w + wsum l; omega
/-- a row of edges from x to y -/
inductive Row : N → N → List (Ed N) → Prop
  | nil {x : N} : Row x x []
  | cons {a : Ed N} {y : N} {l : List (Ed N)} : Row a.y y l → Row a.x y (a :: l)
theorem Row.snoc {x z : N} {l : List (Ed N)} (r : Row x z l) : ∀ {a : Ed N}, a.x = z → Row x a.y (l ++ [a]) := by
  induction r with
  | nil => intro a e; subst e; exact .cons .nil
  | cons _ ih => exact fun e => .cons (ih e)
theorem Row.nil_eq {x y : N} (r : Row x y []) : x = y := by
  generalize h : ([] : List (Ed N)) = l at r
  cases r with
  | nil => rfl
  | cons _ => cases h
theorem Way.some {S : Ed N → Prop} {x y : N} {t : Int} (w : Way S x y t) : ∃ a, S a := by
  cases w with
  | one s => exact ⟨_, s⟩
  | more s _ => exact ⟨_, s⟩
theorem Row.way {S : Ed N → Prop} {x y : N} {l : List (Ed N)} (r : Row x y l) : (∀ a ∈ l, S a) → l ≠ [] → Way S x y (wsum l) := by
  induction r with
  | nil => exact fun _ h => absurd rfl h
  | @cons a y l r ih =>
    intro h _
    cases l with
    | nil =>
      have : wsum [a] = a.w := by show a.w + 0 = a.w; omega
      rw [this, ← r.nil_eq]
      exact .one (h a (List.mem_cons_self ..))
    | cons b l => exact .more (h a (List.mem_cons_self ..)) (ih (fun c hc => h c (List.mem_cons_of_mem _ hc)) (by simp))
section
variable {p : N → Option (Ed N)} {v : N}
theorem nd_succ {a : Ed N} (h : p v = some a) : ∀ k, nd p v (k + 1) = nd p a.x k
  | 0 => by
    show (match p v with | none => v | some a => a.x) = a.x
    rw [h]
  | k + 1 => by
    show (match p (nd p v (k + 1)) with | none => nd p v (k + 1) | some a => a.x) = (match p (nd p a.x k) with | none => nd p a.x k | some a => a.x)
    rw [nd_succ h k]
theorem ce_row (hy : ∀ v a, p v = some a → a.y = v) : ∀ (k : Nat) (v : N), (∀ i, i < k → p (nd p v i) ≠ none) → Row (nd p v k) v (ce p v k).reverse
  | 0, v, _ => .nil
  | k + 1, v, h => by
    cases e : p v with
    | none => exact absurd e (h 0 (Nat.succ_pos _))
    | some a =>
      have ih := ce_row hy k a.x fun i hi => by
        have := h (i + 1) (by omega)
        rw [nd_succ e] at this
        exact this
      rw [nd_succ e]
      unfold ce
      rw [e]
      dsimp only
      rw [List.reverse_cons]
      have := ih.snoc (a := a) rfl
      rw [hy v a e] at this
      exact this
theorem ce_sum : ∀ (k : Nat) (v : N), (∀ i, i < k → p (nd p v i) ≠ none) → back p k v = some (nd p v k, wsum (ce p v k))
  | 0, v, _ => rfl
  | k + 1, v, h => by
    cases e : p v with
    | none => exact absurd e (h 0 (Nat.succ_pos _))
    | some a =>
      have ih := ce_sum k a.x fun i hi => by
        have := h (i + 1) (by omega)
        rw [nd_succ e] at this
        exact this
      unfold back ce
      rw [e, nd_succ e]
      dsimp only
      rw [ih, wsum_cons]
      show some (_, _ + _) = some (_, _)
      rw [Int.add_comm]
theorem ce_len : ∀ (k : Nat) (v : N), (∀ i, i < k → p (nd p v i) ≠ none) → (ce p v k).length = k
  | 0, v, _ => rfl
  | k + 1, v, h => by
    cases e : p v with
    | none => exact absurd e (h 0 (Nat.succ_pos _))
    | some a =>
      have ih := ce_len k a.x fun i hi => by
        have := h (i + 1) (by omega)
        rw [nd_succ e] at this
        exact this
      unfold ce
      rw [e]
      dsimp only
      rw [List.length_cons, ih]
theorem ce_mem {es : List (Ed N)} (hy : ∀ v a, p v = some a → a ∈ es) : ∀ (k : Nat) (v : N), ∀ a ∈ ce p v k, a ∈ es
  | 0, v, a, h => nomatch h
  | k + 1, v, a, h => by
    unfold ce at h
    split at h
    · cases h
    · rename_i b hb
      rcases List.mem_cons.mp h with rfl | h
      · exact hy _ _ hb
      · exact ce_mem hy k _ a h
/-- an edge of the row: where it stands -/
theorem ce_at : ∀ (k : Nat) (v : N), ∀ a ∈ ce p v k, ∃ i, i < k ∧ p (nd p v i) = some a
  | 0, v, a, h => nomatch h
  | k + 1, v, a, h => by
    unfold ce at h
    split at h
    · cases h
    · rename_i b hb
      rcases List.mem_cons.mp h with rfl | h
      · exact ⟨0, Nat.succ_pos _, hb⟩
      · obtain ⟨i, hi, e⟩ := ce_at k _ a h
        exact ⟨i + 1, by omega, by rw [nd_succ hb]; exact e⟩
end
theorem ce_succ {p : N → Option (Ed N)} {v : N} {a : Ed N} (e : p v = some a) (k : Nat) : ce p v (k + 1) = a :: ce p a.x k := by
  conv => lhs; unfold ce
  rw [e]
theorem rback_ce {into : List (N × Ed N)} {start : N} : ∀ (k fuel : Nat) (v : N) (acc : List (Ed N)), (∀ i, i < k → nd (parF into) v i ≠ start ∧ parF into (nd (parF into) v i) ≠ none) → nd (parF into) v k = start → k < fuel →
    rback into start fuel v acc = some (acc ++ ce (parF into) v k)
  | 0, 0, v, acc, _, _, h => absurd h (Nat.lt_irrefl _)
  | 0, fuel + 1, v, acc, _, hs, _ => by
    unfold rback
    rw [if_pos (show v = start from hs)]
    show _ = some (acc ++ [])
    rw [List.append_nil]
  | k + 1, 0, v, acc, _, _, h => absurd h (Nat.not_lt_zero _)
  | k + 1, fuel + 1, v, acc, h, hs, hf => by
    have h0 := h 0 (Nat.succ_pos _)
    unfold rback
    rw [if_neg (show ¬ v = start from h0.1)]
    cases e : lookA into v with
    | none => exact absurd e h0.2
    | some a =>
      have e' : parF into v = some a := e
      have ih := rback_ce (into := into) (start := start) k fuel a.x (acc ++ [a]) (fun i hi => by
        have := h (i + 1) (by omega)
        rw [nd_succ e'] at this
        exact this) (by rw [nd_succ e'] at hs; exact hs) (by omega)
      dsimp only
      rw [ih, ce_succ e', List.append_assoc, List.singleton_append]
/-- what the rounds and the way back tell -/
theorem ringOf_ok (es : List (Ed N)) : ∃ l, ringOf es = some l ∧ (l = [] → ¬ Ring (· ∈ es)) ∧ (l ≠ [] → (∀ a ∈ l, a ∈ es) ∧ (∃ x, Row x x l) ∧ wsum l < 0 ∧ (1 < l.length → ∀ a ∈ l, a.x ≠ a.y)) := by
  have hin : ∀ a ∈ es, a.y ∈ (names0 es).map (·.1) := fun a ha => (names_in es a ha).2
  have hb := bf_rounds hin (names0 es).length 0 (names0 es, [], none) ⟨_, inv_start es, fun v h => by cases h⟩ rfl
  cases e : bf es (names0 es).length (names0 es, [], none) with
  | none =>
    refine ⟨[], by unfold ringOf; rw [e], fun _ => ?_, fun h => absurd rfl h⟩
    rcases hb.1 e with ⟨h0, _⟩ | ⟨φ, h⟩
    · rintro ⟨x, t, w, _⟩
      obtain ⟨a, s⟩ := w.some
      have := List.length_pos_of_mem (names_in es _ s).1
      rw [List.length_map] at this
      omega
    · exact no_ring_pot h
  | some q =>
    obtain ⟨into, last⟩ := q
    obtain ⟨r, st, I, hl⟩ := hb.2 into last e
    rw [Nat.zero_add] at I hl
    have h0 : 0 < (names0 es).length := by
      refine Nat.pos_of_ne_zero fun z => ?_
      rw [z] at e
      unfold bf at e
      cases e
    have ab := all_back I hl h0 (ns := (names0 es).map (·.1)) (List.length_map ..) (names_in es)
    -- the start lies on a ring
    have hk : ∀ i, i ≤ (into.map (·.1)).length → nd (parF into) last i ∈ into.map (·.1) := fun i _ => Classical.byContradiction fun z => ab i (lookA_none.mpr z)
    obtain ⟨i, j, hij, hj, ee⟩ := two_same (nd (parF into) last) _ hk
    rw [List.length_map] at hj
    generalize hs : nd (parF into) last into.length = s at *
    have hsb : backN into into.length last = some s := by rw [backN_nd ab, hs]
    have sb : ∀ k, parF into (nd (parF into) s k) ≠ none := fun k => by
      rw [← hs, ← nd_add]
      exact ab _
    have per : nd (parF into) s (j - i) = s := by
      have h1 : nd (parF into) last (into.length + (j - i)) = nd (parF into) last into.length := by
        have a1 : into.length + (j - i) = j + (into.length - i) := by omega
        have a2 : into.length = i + (into.length - i) := by omega
        rw [a1, nd_add, ← ee, ← nd_add, ← a2]
      rw [nd_add, hs] at h1
      exact h1
    -- the first time that it comes again
    have ex : ∃ q, 0 < q ∧ q ≤ into.length ∧ nd (parF into) s q = s ∧ ∀ i, 0 < i → i < q → nd (parF into) s i ≠ s := by
      have : ∀ n, 0 < n → nd (parF into) s n = s → ∃ q, 0 < q ∧ q ≤ n ∧ nd (parF into) s q = s ∧ ∀ i, 0 < i → i < q → nd (parF into) s i ≠ s := by
        intro n
        induction n using Nat.strongRecOn with
        | ind n ih =>
          intro hn hp
          by_cases z : ∃ i, 0 < i ∧ i < n ∧ nd (parF into) s i = s
          · obtain ⟨i, h1, h2, h3⟩ := z
            obtain ⟨q, q1, q2, q3⟩ := ih i h2 h1 h3
            exact ⟨q, q1, by omega, q3⟩
          · exact ⟨n, hn, Nat.le_refl _, hp, fun i h1 h2 h3 => z ⟨i, h1, h2, h3⟩⟩
      obtain ⟨q, q1, q2, q3⟩ := this (j - i) (by omega) per
      exact ⟨q, q1, by omega, q3⟩
    obtain ⟨q, q1, q2, q3, q4⟩ := ex
    obtain ⟨q, rfl⟩ := Nat.exists_eq_succ_of_ne_zero (Nat.pos_iff_ne_zero.mp q1)
    cases ea : parF into s with
    | none => exact absurd ea (sb 0)
    | some a =>
      have rb := rback_ce (into := into) (start := s) q (into.length + 1) a.x [a] (fun i hi => by
        have h1 := q4 (i + 1) (Nat.succ_pos _) (by omega)
        have h2 := sb (i + 1)
        rw [nd_succ ea] at h1 h2
        exact ⟨h1, h2⟩) (by
        have := q3
        rw [Nat.succ_eq_add_one, nd_succ ea] at this
        exact this) (by omega)
      have ce1 : [a] ++ ce (parF into) a.x q = ce (parF into) s (q + 1) := by
        conv => rhs; unfold ce
        rw [ea]
        rfl
      rw [ce1] at rb
      have lk : lookA into s = some a := ea
      have up2 : ∀ v b, parF into v = some b → b.y = v := fun v b h => (I.up v b h).2.1
      refine ⟨(ce (parF into) s (q + 1)).reverse, ?_, fun z => ?_, fun _ => ⟨fun b hb => ce_mem (fun v b h => (I.up v b h).1) _ _ b (List.mem_reverse.mp hb), ⟨s, ?_⟩, ?_, fun hq b hb => ?_⟩⟩
      · unfold ringOf
        rw [e]
        dsimp only
        unfold ringB
        rw [hsb]
        dsimp only
        rw [lk]
        dsimp only
        rw [rb]
        rfl
      · have := congrArg List.length z
        rw [List.length_reverse, ce_len _ _ fun i _ => sb i] at this
        cases this
      · have h := ce_row (p := parF into) up2 (q + 1) s fun i _ => sb i
        have q3' : nd (parF into) s (q + 1) = s := q3
        rw [q3'] at h
        exact h
      · rw [wsum_rev]
        have h := ce_sum (p := parF into) (q + 1) s fun i _ => sb i
        have q3' : nd (parF into) s (q + 1) = s := q3
        rw [q3'] at h
        exact I.neg q s _ h
      · rw [List.length_reverse, ce_len _ _ fun i _ => sb i] at hq
        obtain ⟨i, hi, eb⟩ := ce_at _ _ b (List.mem_reverse.mp hb)
        intro hl
        have hy := up2 _ _ eb
        have n1 : nd (parF into) s (i + 1) = nd (parF into) s i := by
          show (match parF into (nd (parF into) s i) with | none => _ | some a => a.x) = _
          rw [eb]
          dsimp only
          rw [hl, hy]
        have n2 : nd (parF into) s (q + 1) = nd (parF into) s q := by
          have a1 : q + 1 = (i + 1) + (q - i) := by omega
          have a2 : nd (parF into) s q = nd (parF into) s (i + (q - i)) := by rw [show i + (q - i) = q by omega]
          rw [a1, nd_add, n1, a2, nd_add]
        exact q4 q (by omega) (Nat.lt_succ_self _) (n2 ▸ q3)
end Vf.Cl
end
section
set_option autoImplicit false
set_option linter.all false
/-! All that comes from a plan's edges, as the program finds it: it ends, and tells whether a ring comes. -/
namespace Vf.Cl
variable {N : Type} [DecidableEq N]
inductive Ru | given | longest | sum | early | sure
  deriving DecidableEq
structure Ln (N : Type) where
  ed : Ed N
  ru : Ru
  src : List Nat
  deriving DecidableEq
abbrev Knw (N : Type) := List ((N × N × N) × (Ed N × Nat))
def isNews (kn : Knw N) (a : Ed N) : Bool := if a.x = a.y then decide (a.w < 0) else match lookA kn a.k with
  | none => true
  | some p => decide (a.w < p.1.w)
abbrev Sta (N : Type) := Knw N × List (Ln N)
def add1 (s : Sta N) (l : Ln N) : Sta N := if isNews s.1 l.ed = true then (putA s.1 l.ed.k (l.ed, s.2.length), s.2 ++ [l]) else s
def addAll (s : Sta N) (c : List (Ln N)) : Sta N := c.foldl add1 s
def edges (kn : Knw N) : List (Ed N) := kn.map (·.2.1)
def newsLn (kn : Knw N) (o : Option (Ed N)) (ru : Ru) (src : List Nat) : List (Ln N) := match o with
  | none => []
  | some r => if isNews kn r = true then [⟨r, ru, src⟩] else []
def sumLines (o : N) (kn : Knw N) : List (Ln N) := (kn.map (·.2)).flatMap fun f => ((kn.map (·.2)).filter fun s => decide (s.1.x = f.1.y)).flatMap fun s => newsLn kn (sumE o f.1 s.1) .sum [f.2, s.2]
def taskLines (o : N) (T : N → Option (Tk N)) (kn : Knw N) : List (Ln N) := (kn.map (·.2)).flatMap fun a => newsLn kn (earlyE T a.1) .early [a.2] ++ newsLn kn (sureE o T a.1) .sure [a.2]
def nextLn (o : N) (T : N → Option (Tk N)) (kn : Knw N) : List (Ln N) := sumLines o kn ++ taskLines o T kn
/-- the places of the ring that is found, [] if there is none -/
def ringPl (kn : Knw N) : Option (List Nat) := (ringOf (edges kn)).map fun l => l.map fun a => match lookA kn a.k with
  | none => 0
  | some p => p.2
def settle (o : N) (T : N → Option (Tk N)) : Nat → Sta N → List (Ln N) → Option (Sta N × List Nat)
  | 0, _, _ => none
  | n + 1, s, c => if c = [] then some (s, []) else match ringPl (addAll s c).1 with
    | none => none
    | some [] => settle o T n (addAll s c) (nextLn o T (addAll s c).1)
    | some (p :: ps) => some (addAll s c, p :: ps)
/-! ### what is known -/
structure OkK (kn : Knw N) : Prop where
  nd : (kn.map (·.1)).Nodup
  ky : ∀ p ∈ kn, p.1 = p.2.1.k
  lp : ∀ p ∈ kn, p.2.1.x = p.2.1.y → p.2.1.w < 0
def wts (kn : Knw N) : List ((N × N × N) × Int) := kn.map fun p => (p.1, p.2.1.w)
def Mk (kn : Knw N) : Kn N := lookA (wts kn)
theorem Mk_eq (kn : Knw N) (k : N × N × N) : Mk kn k = (lookA kn k).map (·.1.w) := lookA_mapV (fun q : Ed N × Nat => q.1.w) k kn
theorem inM_iff {kn : Knw N} (h : OkK kn) {a : Ed N} : InM (Mk kn) a ↔ a ∈ edges kn := by
  unfold InM
  rw [Mk_eq]
  constructor
  · intro e
    obtain ⟨q, h1, h2⟩ := Option.map_eq_some_iff.mp e
    have hm := lookA_mem h1
    have hk := h.ky _ hm
    obtain ⟨k1, k2, k3⟩ := Ed.k_eq (show a.k = q.1.k from hk)
    have : q.1 = a := by
      obtain ⟨⟨x, y, l, w⟩, n⟩ := q
      obtain ⟨x', y', l', w'⟩ := a
      dsimp only at k1 k2 k3 h2 ⊢
      rw [k1, k2, k3, h2]
    rw [← this]
    exact List.mem_map.mpr ⟨_, hm, rfl⟩
  · intro e
    obtain ⟨p, hp, rfl⟩ := List.mem_map.mp e
    have := lookA_of h.nd hp
    rw [h.ky p hp] at this
    rw [this]
    rfl
theorem OkK.nil : OkK ([] : Knw N) := ⟨by simp, fun p h => (nomatch h), fun p h => (nomatch h)⟩
theorem news_lp {kn : Knw N} {a : Ed N} (h : isNews kn a = true) (e : a.x = a.y) : a.w < 0 := by
  unfold isNews at h
  rw [if_pos e] at h
  exact of_decide_eq_true h
theorem news_of {kn : Knw N} {a : Ed N} (h : isNews kn a = true) (e : a.x ≠ a.y) : ∀ v, Mk kn a.k = some v → a.w < v := by
  intro v hv
  unfold isNews at h
  rw [if_neg e] at h
  rw [Mk_eq] at hv
  obtain ⟨q, h1, h2⟩ := Option.map_eq_some_iff.mp hv
  rw [h1] at h
  subst h2
  exact of_decide_eq_true h
theorem not_news {kn : Knw N} {a : Ed N} (h : ¬ isNews kn a = true) : (a.x = a.y → 0 ≤ a.w) ∧ (a.x ≠ a.y → Dom (Mk kn) a) := by
  unfold isNews at h
  refine ⟨fun e => ?_, fun e => ?_⟩
  · rw [if_pos e, decide_eq_true_eq] at h
    omega
  · rw [if_neg e] at h
    cases q : lookA kn a.k with
    | none => rw [q] at h; exact absurd rfl h
    | some p =>
      rw [q] at h
      dsimp only at h
      rw [decide_eq_true_eq] at h
      exact ⟨p.1.w, by rw [Mk_eq, q]; rfl, by omega⟩
theorem OkK.put {kn : Knw N} (h : OkK kn) {a : Ed N} {n : Nat} (hl : a.x = a.y → a.w < 0) : OkK (putA kn a.k (a, n)) := by
  refine ⟨putA_nodup h.nd _ _, fun p hp => ?_, fun p hp => ?_⟩
  · rcases mem_putA hp with rfl | hp
    · rfl
    · exact h.ky p hp
  · rcases mem_putA hp with rfl | hp
    · exact hl
    · exact h.lp p hp
theorem ok_add1 {s : Sta N} (h : OkK s.1) (l : Ln N) : OkK (add1 s l).1 := by
  unfold add1
  by_cases z : isNews s.1 l.ed = true
  · rw [if_pos z]
    exact h.put (news_lp z)
  · rw [if_neg z]
    exact h
theorem ok_add {c : List (Ln N)} : ∀ {s : Sta N}, OkK s.1 → OkK (addAll s c).1 := by
  induction c with
  | nil => exact fun h => h
  | cons l c ih => exact fun h => ih (ok_add1 h l)
theorem wts_put {kn : Knw N} {a : Ed N} {n : Nat} : wts (putA kn a.k (a, n)) = putA (wts kn) a.k a.w := putA_mapV (fun q : Ed N × Nat => q.1.w) a.k (a, n) kn
/-- from S come the edges that are known -/
theorem mem_add1 {s : Sta N} {l : Ln N} {a : Ed N} (h : a ∈ edges (add1 s l).1) : a ∈ edges s.1 ∨ a = l.ed := by
  unfold add1 at h
  by_cases z : isNews s.1 l.ed = true
  · rw [if_pos z] at h
    obtain ⟨p, hp, rfl⟩ := List.mem_map.mp h
    rcases mem_putA hp with rfl | hp
    · exact .inr rfl
    · exact .inl (List.mem_map.mpr ⟨p, hp, rfl⟩)
  · rw [if_neg z] at h
    exact .inl h
theorem mem_add {c : List (Ln N)} : ∀ {s : Sta N} {a : Ed N}, a ∈ edges (addAll s c).1 → a ∈ edges s.1 ∨ ∃ l ∈ c, a = l.ed := by
  induction c with
  | nil => exact fun h => .inl h
  | cons l c ih =>
    intro s a h
    rcases ih (s := add1 s l) h with h | ⟨m, hm, e⟩
    · rcases mem_add1 h with h | h
      · exact .inl h
      · exact .inr ⟨l, List.mem_cons_self .., h⟩
    · exact .inr ⟨m, List.mem_cons_of_mem _ hm, e⟩
/-- what was known is known by no greater weight, as long as no loop comes -/
def NoLp (kn : Knw N) : Prop := ∀ p ∈ kn, p.1.1 ≠ p.1.2.1
theorem key_stays {kn : Knw N} {k k' : N × N × N} {q : Ed N × Nat} (h : ∃ p ∈ kn, p.1 = k) : ∃ p ∈ putA kn k' q, p.1 = k := by
  obtain ⟨p, hp, rfl⟩ := h
  have : p.1 ∈ (putA kn k' q).map (·.1) := by
    cases e : lookA kn k' with
    | some c => rw [putA_old _ e, keys_map]; exact List.mem_map_of_mem hp
    | none => rw [putA_new _ e, List.map_append]; exact List.mem_append_left _ (List.mem_map_of_mem hp)
  obtain ⟨r, hr, e⟩ := List.mem_map.mp this
  exact ⟨r, hr, e⟩
theorem key_put {kn : Knw N} {k : N × N × N} {q : Ed N × Nat} : ∃ p ∈ putA kn k q, p.1 = k := by
  have h := lookA_put kn k k q
  rw [if_pos rfl] at h
  exact ⟨_, lookA_mem h, rfl⟩
theorem keys_add {c : List (Ln N)} : ∀ {s : Sta N} {k : N × N × N}, (∃ p ∈ s.1, p.1 = k) → ∃ p ∈ (addAll s c).1, p.1 = k := by
  induction c with
  | nil => exact fun h => h
  | cons l c ih =>
    intro s k h
    refine ih (s := add1 s l) ?_
    unfold add1
    by_cases z : isNews s.1 l.ed = true
    · rw [if_pos z]; exact key_stays h
    · rw [if_neg z]; exact h
theorem dom_add1 {s : Sta N} {l : Ln N} {a : Ed N} (nl : NoLp (add1 s l).1) (h : Dom (Mk s.1) a) : Dom (Mk (add1 s l).1) a := by
  unfold add1 at nl ⊢
  by_cases z : isNews s.1 l.ed = true
  · rw [if_pos z] at nl ⊢
    obtain ⟨v, hv, le⟩ := h
    have hx : l.ed.x ≠ l.ed.y := by
      obtain ⟨p, hp, e⟩ := key_put (kn := s.1) (k := l.ed.k) (q := (l.ed, s.2.length))
      have := nl p hp
      rw [e] at this
      exact this
    show ∃ v, Mk (putA s.1 l.ed.k (l.ed, s.2.length)) a.k = some v ∧ v ≤ a.w
    unfold Mk
    rw [wts_put, lookA_put]
    by_cases e : a.k = l.ed.k
    · rw [if_pos e]
      have := news_of z hx v (e ▸ hv)
      exact ⟨_, rfl, by omega⟩
    · rw [if_neg e]
      exact ⟨v, hv, le⟩
  · rw [if_neg z]
    exact h
theorem nolp_back {c : List (Ln N)} {s : Sta N} (nl : NoLp (addAll s c).1) : NoLp s.1 := fun p hp e => by
  obtain ⟨q, hq, eq⟩ := keys_add (c := c) (s := s) ⟨p, hp, rfl⟩
  have := nl q hq
  rw [eq] at this
  exact this e
theorem dom_add {c : List (Ln N)} : ∀ {s : Sta N} {a : Ed N}, NoLp (addAll s c).1 → Dom (Mk s.1) a → Dom (Mk (addAll s c).1) a := by
  induction c with
  | nil => exact fun _ h => h
  | cons l c ih => exact fun {s a} nl h => ih nl (dom_add1 (nolp_back (c := c) nl) h)
/-- what comes is known behind it -/
theorem dom_here {s : Sta N} {l : Ln N} (hl : l.ed.x ≠ l.ed.y) : Dom (Mk (add1 s l).1) l.ed := by
  unfold add1
  by_cases z : isNews s.1 l.ed = true
  · rw [if_pos z]
    refine ⟨l.ed.w, ?_, Int.le_refl _⟩
    show lookA (wts (putA s.1 l.ed.k (l.ed, s.2.length))) l.ed.k = _
    rw [wts_put, lookA_put, if_pos rfl]
  · rw [if_neg z]
    exact (not_news z).2 hl
theorem dom_come {c : List (Ln N)} : ∀ {s : Sta N}, NoLp (addAll s c).1 → ∀ l ∈ c, l.ed.x ≠ l.ed.y → Dom (Mk (addAll s c).1) l.ed := by
  induction c with
  | nil => exact fun _ l h => (nomatch h)
  | cons m c ih =>
    intro s nl l h hl
    rcases List.mem_cons.mp h with rfl | h
    · exact dom_add (c := c) (s := add1 s l) nl (dom_here hl)
    · exact ih (s := add1 s m) nl l h hl
/-- a round lowers -/
theorem lt_add1 {s : Sta N} {l : Ln N} (ok : OkK s.1) (nl : NoLp (add1 s l).1) : (add1 s l).1 = s.1 ∨ Lt (wts (add1 s l).1) (wts s.1) := by
  unfold add1 at nl ⊢
  by_cases z : isNews s.1 l.ed = true
  · rw [if_pos z] at nl ⊢
    right
    rw [wts_put]
    have hx : l.ed.x ≠ l.ed.y := by
      obtain ⟨p, hp, e⟩ := key_put (kn := s.1) (k := l.ed.k) (q := (l.ed, s.2.length))
      have := nl p hp
      rw [e] at this
      exact this
    refine lt_put ?_ fun v hv => news_of z hx v hv
    show ((s.1.map fun p => (p.1, p.2.1.w)).map (·.1)).Nodup
    rw [List.map_map]
    exact ok.nd
  · rw [if_neg z]
    exact .inl rfl
theorem lt_add {c : List (Ln N)} : ∀ {s : Sta N}, OkK s.1 → NoLp (addAll s c).1 → (addAll s c).1 = s.1 ∨ Lt (wts (addAll s c).1) (wts s.1) := by
  induction c with
  | nil => exact fun _ _ => .inl rfl
  | cons l c ih =>
    intro s ok nl
    have h1 := lt_add1 ok (nolp_back (c := c) (s := add1 s l) nl)
    have h2 := ih (s := add1 s l) (ok_add1 ok l) nl
    have e : addAll s (l :: c) = addAll (add1 s l) c := rfl
    rw [e]
    rcases h1 with h1 | h1
    · rcases h2 with h2 | h2
      · exact .inl (h2.trans h1)
      · rw [h1] at h2; exact .inr h2
    · rcases h2 with h2 | h2
      · rw [← h2] at h1; exact .inr h1
      · exact .inr (h2.trans h1)
theorem lt_news {l : Ln N} {c : List (Ln N)} {s : Sta N} (ok : OkK s.1) (nl : NoLp (addAll s (l :: c)).1) (hn : isNews s.1 l.ed = true) : Lt (wts (addAll s (l :: c)).1) (wts s.1) := by
  have nl1 := nolp_back (c := c) (s := add1 s l) nl
  have h1 : Lt (wts (add1 s l).1) (wts s.1) := by
    unfold add1 at nl1 ⊢
    rw [if_pos hn] at nl1 ⊢
    rw [wts_put]
    have hx : l.ed.x ≠ l.ed.y := by
      obtain ⟨p, hp, e⟩ := key_put (kn := s.1) (k := l.ed.k) (q := (l.ed, s.2.length))
      have := nl1 p hp
      rw [e] at this
      exact this
    refine lt_put ?_ fun v hv => news_of hn hx v hv
    show ((s.1.map fun p => (p.1, p.2.1.w)).map (·.1)).Nodup
    rw [List.map_map]
    exact ok.nd
  rcases lt_add (c := c) (s := add1 s l) (ok_add1 ok l) nl with h2 | h2
  · show Lt (wts (addAll (add1 s l) c).1) _
    rw [h2]
    exact h1
  · exact h2.trans h1
/-! ### what comes next -/
theorem mem_news {kn : Knw N} {o : Option (Ed N)} {ru : Ru} {src : List Nat} {l : Ln N} : l ∈ newsLn kn o ru src ↔ ∃ r, o = some r ∧ isNews kn r = true ∧ l = ⟨r, ru, src⟩ := by
  unfold newsLn
  cases o with
  | none => simp
  | some r =>
    by_cases z : isNews kn r = true
    · simp [z]
    · simp [z]
theorem next_news {o : N} {T : N → Option (Tk N)} {kn : Knw N} {l : Ln N} (h : l ∈ nextLn o T kn) : isNews kn l.ed = true ∧ ((∃ f ∈ edges kn, ∃ s ∈ edges kn, sumE o f s = some l.ed) ∨ (∃ a ∈ edges kn, earlyE T a = some l.ed) ∨ ∃ a ∈ edges kn, sureE o T a = some l.ed) := by
  have ein : ∀ q : Ed N × Nat, q ∈ kn.map (·.2) → q.1 ∈ edges kn := fun q hq => by
    obtain ⟨p, hp, rfl⟩ := List.mem_map.mp hq
    exact List.mem_map.mpr ⟨p, hp, rfl⟩
  rcases List.mem_append.mp h with h | h
  · obtain ⟨f, hf, h⟩ := List.mem_flatMap.mp h
    obtain ⟨s, hs, h⟩ := List.mem_flatMap.mp h
    obtain ⟨r, e, hn, rfl⟩ := mem_news.mp h
    exact ⟨hn, .inl ⟨f.1, ein f hf, s.1, ein s (List.mem_filter.mp hs).1, e⟩⟩
  · obtain ⟨a, ha, h⟩ := List.mem_flatMap.mp h
    rcases List.mem_append.mp h with h | h
    · obtain ⟨r, e, hn, rfl⟩ := mem_news.mp h
      exact ⟨hn, .inr (.inl ⟨a.1, ein a ha, e⟩)⟩
    · obtain ⟨r, e, hn, rfl⟩ := mem_news.mp h
      exact ⟨hn, .inr (.inr ⟨a.1, ein a ha, e⟩)⟩
theorem next_nil {o : N} {T : N → Option (Tk N)} {kn : Knw N} (h : nextLn o T kn = []) : (∀ f ∈ edges kn, ∀ s ∈ edges kn, ∀ r, sumE o f s = some r → ¬ isNews kn r = true) ∧ (∀ a ∈ edges kn, ∀ r, earlyE T a = some r → ¬ isNews kn r = true) ∧ ∀ a ∈ edges kn, ∀ r, sureE o T a = some r → ¬ isNews kn r = true := by
  have no : ∀ l, ¬ l ∈ nextLn o T kn := fun l hl => by rw [h] at hl; cases hl
  have out : ∀ {a}, a ∈ edges kn → ∃ n, (a, n) ∈ kn.map (·.2) := fun {a} ha => by
    obtain ⟨p, hp, rfl⟩ := List.mem_map.mp ha
    exact ⟨p.2.2, List.mem_map.mpr ⟨p, hp, rfl⟩⟩
  refine ⟨fun f hf s hs r e hn => ?_, fun a ha r e hn => ?_, fun a ha r e hn => ?_⟩
  · obtain ⟨n, hf⟩ := out hf
    obtain ⟨m, hs⟩ := out hs
    refine no ⟨r, .sum, [n, m]⟩ (List.mem_append_left _ (List.mem_flatMap.mpr ⟨_, hf, List.mem_flatMap.mpr ⟨_, List.mem_filter.mpr ⟨hs, ?_⟩, mem_news.mpr ⟨r, e, hn, rfl⟩⟩⟩))
    exact decide_eq_true (sumE_some e).2.1.symm
  · obtain ⟨n, ha⟩ := out ha
    exact no ⟨r, .early, [n]⟩ (List.mem_append_right _ (List.mem_flatMap.mpr ⟨_, ha, List.mem_append_left _ (mem_news.mpr ⟨r, e, hn, rfl⟩)⟩))
  · obtain ⟨n, ha⟩ := out ha
    exact no ⟨r, .sure, [n]⟩ (List.mem_append_right _ (List.mem_flatMap.mpr ⟨_, ha, List.mem_append_right _ (mem_news.mpr ⟨r, e, hn, rfl⟩)⟩))
/-! ### the plan's own edges -/
structure Base (o : N) (T : N → Option (Tk N)) (bs : List (Ed N)) (ns es : List N) (b : Nat) : Prop where
  nl : ∀ a ∈ bs, a.x ≠ a.y
  nm : ∀ a ∈ bs, a.x ∈ ns ∧ a.y ∈ ns ∧ a.e ∈ es
  tb : ∀ v t, T v = some t → t.b ∈ ns
  oe : o ∈ es
  back : ∀ x ∈ ns, ∀ y ∈ ns, x ≠ y → ∃ t, Way (· ∈ bs) y x t ∧ t ≤ (b : Int)
variable {o : N} {T : N → Option (Tk N)} {bs : List (Ed N)} {ns es : List N} {b : Nat}
theorem der_nm (B : Base o T bs ns es b) {a : Ed N} (d : Der o T (· ∈ bs) a) : a.x ∈ ns ∧ a.y ∈ ns ∧ a.e ∈ es := by
  induction d with
  | base h => exact B.nm _ h
  | sum _ _ e h1 h2 =>
    obtain ⟨_, _, _, _, _, rfl⟩ := sumE_some e
    exact ⟨h1.1, h2.2⟩
  | early _ e h =>
    obtain ⟨t, ht, _, _, _, rfl⟩ := earlyE_some e
    exact ⟨B.tb _ _ ht, h.2⟩
  | sure _ e h =>
    obtain ⟨t, ht, _, _, rfl⟩ := sureE_some e
    exact ⟨h.1, h.2.1, B.oe⟩
def univ (ns es : List N) : List (N × N × N) := ns.flatMap fun x => ns.flatMap fun y => es.map fun e => (x, y, e)
theorem mem_univ {x y e : N} (h1 : x ∈ ns) (h2 : y ∈ ns) (h3 : e ∈ es) : (x, y, e) ∈ univ ns es :=
  List.mem_flatMap.mpr ⟨x, h1, List.mem_flatMap.mpr ⟨y, h2, List.mem_map.mpr ⟨e, h3, rfl⟩⟩⟩
/-- weights where no ring is, all the plan's own edges being known -/
theorem w_low (B : Base o T bs ns es b) {M : Kn N} (nr : ¬ Ring (InM M)) (hb : ∀ a ∈ bs, Dom M a) {a : Ed N} (ha : InM M a) (hx : a.x ∈ ns) (hy : a.y ∈ ns) (hl : a.x ≠ a.y) : -(b : Int) ≤ a.w := by
  obtain ⟨t, w, le⟩ := B.back a.x hx a.y hy hl
  have : ∀ {x y : N} {t : Int}, Way (· ∈ bs) x y t → ∃ t', t' ≤ t ∧ Way (InM M) x y t' := by
    intro x y t w
    induction w with
    | one s =>
      obtain ⟨v, iv, lv⟩ := (hb _ s).get
      exact ⟨v, lv, .one iv⟩
    | more s _ ih =>
      obtain ⟨v, iv, lv⟩ := (hb _ s).get
      obtain ⟨t', l', w'⟩ := ih
      exact ⟨v + t', by omega, .more (a := { (_ : Ed N) with w := v }) iv w'⟩
  obtain ⟨t', l', w'⟩ := this w
  refine Classical.byContradiction fun z => nr ⟨a.x, _, Way.more ha w', ?_⟩
  omega
theorem ring_iff {kn : Knw N} (ok : OkK kn) : Ring (InM (Mk kn)) ↔ Ring (· ∈ edges kn) := ⟨Ring.up fun a h => (inM_iff ok).mp h, Ring.up fun a h => (inM_iff ok).mpr h⟩
theorem nolp_of {kn : Knw N} (ok : OkK kn) (nr : ¬ Ring (· ∈ edges kn)) : NoLp kn := fun p hp e => by
  have hk := ok.ky p hp
  rw [hk] at e
  have : p.2.1 ∈ edges kn := List.mem_map.mpr ⟨p, hp, rfl⟩
  refine nr ⟨p.2.1.x, p.2.1.w, ?_, ok.lp p hp e⟩
  have w : Way (· ∈ edges kn) p.2.1.x p.2.1.y p.2.1.w := .one this
  have e' : p.2.1.x = p.2.1.y := e
  rw [← e'] at w
  exact w
theorem good_kn (B : Base o T bs ns es b) {kn : Knw N} (ok : OkK kn) (nr : ¬ Ring (· ∈ edges kn)) (hd : ∀ a ∈ edges kn, Der o T (· ∈ bs) a) (hb : ∀ a ∈ bs, Dom (Mk kn) a) : Good (univ ns es).length b (wts kn) := by
  have nl := nolp_of ok nr
  refine good_of ?_ fun p hp => ?_
  · show (kn.map _).length ≤ _
    rw [List.length_map, ← List.length_map (f := (·.1)) (as := kn)]
    refine sub_len _ _ ok.nd fun k hk => ?_
    obtain ⟨p, hp, rfl⟩ := List.mem_map.mp hk
    rw [ok.ky p hp]
    have h := der_nm B (hd p.2.1 (List.mem_map.mpr ⟨p, hp, rfl⟩))
    exact mem_univ h.1 h.2.1 h.2.2
  · obtain ⟨q, hq, rfl⟩ := List.mem_map.mp hp
    have hm : q.2.1 ∈ edges kn := List.mem_map.mpr ⟨q, hq, rfl⟩
    have h := der_nm B (hd _ hm)
    refine w_low B (fun z => nr ((ring_iff ok).mp z)) hb ((inM_iff ok).mpr hm) h.1 h.2.1 ?_
    have := nl q hq
    rw [ok.ky q hq] at this
    exact this
structure End (o : N) (T : N → Option (Tk N)) (bs : List (Ed N)) (q : Sta N × List Nat) : Prop where
  ok : OkK q.1.1
  der : ∀ a ∈ edges q.1.1, Der o T (· ∈ bs) a
  non : q.2 = [] → Closed o T (· ∈ bs) (Mk q.1.1) ∧ ¬ Ring (Der o T (· ∈ bs))
  some : q.2 ≠ [] → Ring (Der o T (· ∈ bs))
theorem settle_ends (B : Base o T bs ns es b) (first : List (Ln N)) (hf : first.map (·.ed) = bs) : ∃ n q, settle o T n ([], []) first = some q ∧ End o T bs q := by
  have closed : ∀ kn : Knw N, OkK kn → ¬ Ring (· ∈ edges kn) → nextLn o T kn = [] → (∀ a ∈ bs, Dom (Mk kn) a) → Closed o T (· ∈ bs) (Mk kn) := fun kn ok nr hn hb => by
    obtain ⟨h1, h2, h3⟩ := next_nil hn
    have nl := nolp_of ok nr
    have nl2 : ∀ a, InM (Mk kn) a → a.x ≠ a.y := fun a ha => by
      obtain ⟨p, hp, rfl⟩ := List.mem_map.mp ((inM_iff ok).mp ha)
      have := nl p hp
      rw [ok.ky p hp] at this
      exact this
    refine ⟨nl2, fun a ha => ⟨B.nl a ha, hb a ha⟩, fun f s r hf hs e => ?_, fun a r ha e => ?_, fun a r ha e => ?_⟩
    · refine (not_news (h1 f ((inM_iff ok).mp hf) s ((inM_iff ok).mp hs) r e)).2 ?_
      obtain ⟨_, _, z, _, _, rfl⟩ := sumE_some e
      exact z
    · exact not_news (h2 a ((inM_iff ok).mp ha) r e)
    · refine (not_news (h3 a ((inM_iff ok).mp ha) r e)).2 ?_
      obtain ⟨_, _, _, z, rfl⟩ := sureE_some e
      exact z
  -- one round
  have round : ∀ (s : Sta N) (c : List (Ln N)), OkK s.1 → (∀ a ∈ edges s.1, Der o T (· ∈ bs) a) → (∀ l ∈ c, Der o T (· ∈ bs) l.ed) → c ≠ [] → (∀ a ∈ bs, (∃ l ∈ c, l.ed = a) ∨ Dom (Mk s.1) a) →
      (∀ q : Sta N, OkK q.1 → (∀ a ∈ edges q.1, Der o T (· ∈ bs) a) → ¬ Ring (· ∈ edges q.1) → (∀ a ∈ bs, Dom (Mk q.1) a) → q = addAll s c → ∃ n z, settle o T n q (nextLn o T q.1) = some z ∧ End o T bs z) → ∃ n z, settle o T n s c = some z ∧ End o T bs z := by
    intro s c ok hd hc hne hb k
    have ok2 : OkK (addAll s c).1 := ok_add ok
    have hd2 : ∀ a ∈ edges (addAll s c).1, Der o T (· ∈ bs) a := fun a ha => by
      rcases mem_add ha with h | ⟨l, hl, rfl⟩
      · exact hd a h
      · exact hc l hl
    obtain ⟨l, e, h1, h2⟩ := ringOf_ok (edges (addAll s c).1)
    have er : ringPl (addAll s c).1 = some (l.map fun a => match lookA (addAll s c).1 a.k with | none => 0 | some p => p.2) := by
      unfold ringPl
      rw [e]
      rfl
    cases l with
    | nil =>
      have nr := h1 rfl
      have nl := nolp_of ok2 nr
      have hb2 : ∀ a ∈ bs, Dom (Mk (addAll s c).1) a := fun a ha => by
        rcases hb a ha with ⟨m, hm, rfl⟩ | h
        · exact dom_come nl m hm (B.nl _ ha)
        · exact dom_add nl h
      obtain ⟨n, z, hz, E⟩ := k _ ok2 hd2 nr hb2 rfl
      refine ⟨n + 1, z, ?_, E⟩
      unfold settle
      rw [if_neg hne, er]
      exact hz
    | cons a as =>
      obtain ⟨g1, ⟨x, g2⟩, g3, _⟩ := h2 (by simp)
      refine ⟨1, (addAll s c, (a :: as).map fun a => match lookA (addAll s c).1 a.k with | none => 0 | some p => p.2), by
        unfold settle
        rw [if_neg hne, er]
        rfl, ok2, hd2, fun z => (nomatch z), fun _ => ?_⟩
      have : Ring (· ∈ edges (addAll s c).1) := ⟨x, _, g2.way g1 (by simp), g3⟩
      exact this.up hd2
  -- all rounds behind the first one
  have rest : ∀ A, Good (univ ns es).length b A → ∀ s : Sta N, wts s.1 = A → OkK s.1 → (∀ a ∈ edges s.1, Der o T (· ∈ bs) a) → ¬ Ring (· ∈ edges s.1) → (∀ a ∈ bs, Dom (Mk s.1) a) → ∃ n z, settle o T n s (nextLn o T s.1) = some z ∧ End o T bs z := by
    refine lt_ind fun A g ih s hA ok hd nr hb => ?_
    by_cases hn : nextLn o T s.1 = []
    · have C := closed s.1 ok nr hn hb
      refine ⟨1, (s, []), ?_, ok, hd, fun _ => ⟨C, no_ring C fun z => nr ((ring_iff ok).mp z)⟩, fun z => absurd rfl z⟩
      unfold settle
      rw [if_pos hn]
    · refine round s _ ok hd (fun l hl => ?_) hn (fun a ha => .inr (hb a ha)) fun q ok2 hd2 nr2 hb2 e => ?_
      · rcases (next_news hl).2 with ⟨f, hf, s', hs, e⟩ | ⟨a, ha, e⟩ | ⟨a, ha, e⟩
        · exact .sum (hd f hf) (hd s' hs) e
        · exact .early (hd a ha) e
        · exact .sure (hd a ha) e
      · refine ih (wts q.1) (good_kn B ok2 nr2 hd2 hb2) ?_ q rfl ok2 hd2 nr2 hb2
        subst e
        rw [← hA]
        have nl := nolp_of ok2 nr2
        cases hc : nextLn o T s.1 with
        | nil => exact absurd hc hn
        | cons l c =>
          rw [hc] at nl
          refine lt_news ok nl ?_
          exact (next_news (l := l) (by rw [hc]; exact List.mem_cons_self ..)).1
  by_cases he : first = []
  · subst he
    have hbs : bs = [] := by rw [← hf]; rfl
    refine ⟨1, (([], []), []), rfl, OkK.nil, fun a h => (nomatch h), fun _ => ?_, fun z => absurd rfl z⟩
    have C : Closed o T (· ∈ bs) (Mk ([] : Knw N)) := ⟨fun a h => (nomatch h), fun a h => by rw [hbs] at h; (cases h), fun f s r h => (nomatch h), fun a r h => (nomatch h), fun a r h => (nomatch h)⟩
    refine ⟨C, no_ring C ?_⟩
    rintro ⟨x, t, w, _⟩
    obtain ⟨a, ha⟩ := w.some
    cases ha
  · refine round ([], []) first OkK.nil (fun a h => (nomatch h)) (fun l hl => ?_) he (fun a ha => .inl ?_) fun q ok2 hd2 nr2 hb2 e => rest _ (good_kn B ok2 nr2 hd2 hb2) q rfl ok2 hd2 nr2 hb2
    · exact .base (hf ▸ List.mem_map_of_mem (f := (·.ed)) hl)
    · rw [← hf] at ha
      obtain ⟨l, hl, e⟩ := List.mem_map.mp ha
      exact ⟨l, hl, e⟩
end Vf.Cl
end
section
set_option autoImplicit false
set_option linter.all false
/-! All that comes, as the law finds it: by ways through ever more names. -/
namespace Vf.Cl
variable {N : Type} [DecidableEq N]
theorem fold_inv {α σ : Type} {f : σ → α → σ} (P : List α → σ → Prop) : ∀ (l d : List α) (s : σ), P d s → (∀ d x s, x ∈ l → P d s → P (d ++ [x]) (f s x)) → P (d ++ l) (l.foldl f s)
  | [], d, s, h, _ => by rw [List.append_nil]; exact h
  | x :: l, d, s, h, k => by
    have := fold_inv P l (d ++ [x]) (f s x) (k d x s (List.mem_cons_self ..) h) fun d y s hy => k d y s (List.mem_cons_of_mem _ hy)
    rw [List.append_assoc, List.singleton_append] at this
    exact this
abbrev Far (N : Type) := List ((N × N) × Int)
def putMin {κ : Type} [DecidableEq κ] (f : List (κ × Int)) (k : κ) (w : Int) : List (κ × Int) := putA f k (min w ((lookA f k).getD w))
def farInit (kn : List ((N × N × N) × Int)) : Far N := kn.foldl (fun f p => putMin f (p.1.1, p.1.2.1) p.2) []
def fwStep (m l : N) (f : Far N) (r : N) : Far N := match lookA f (l, m), lookA f (m, r) with
  | some a, some b => putMin f (l, r) (a + b)
  | _, _ => f
def fwRow (sp : List N) (m : N) (f : Far N) (l : N) : Far N := sp.foldl (fwStep m l) f
def fwMid (sp : List N) (f : Far N) (m : N) : Far N := sp.foldl (fwRow sp m) f
def fw (sp : List N) (f : Far N) : Far N := sp.foldl (fwMid sp) f
def ringL (sp : List N) (kn : List ((N × N × N) × Int)) : Bool := sp.any fun s => decide ((lookA (fw sp (farInit kn)) (s, s)).getD 0 < 0)
section
variable {κ : Type} [DecidableEq κ]
theorem putMin_at {f : List (κ × Int)} {k : κ} {w : Int} : ∃ v, lookA (putMin f k w) k = some v ∧ v ≤ w ∧ (∀ u, lookA f k = some u → v ≤ u) ∧ (v = w ∨ lookA f k = some v) := by
  unfold putMin
  rw [lookA_put, if_pos rfl]
  cases h : lookA f k with
  | none => exact ⟨_, rfl, Int.min_le_left .., fun u e => (nomatch e), .inl (by show min w w = w; omega)⟩
  | some u =>
    refine ⟨_, rfl, Int.min_le_left .., fun v e => ?_, ?_⟩
    · cases e; exact Int.min_le_right ..
    · show min w u = w ∨ some u = some (min w u)
      by_cases z : w ≤ u
      · left; omega
      · right; congr 1; omega
theorem putMin_no {f : List (κ × Int)} {k j : κ} {w : Int} (h : j ≠ k) : lookA (putMin f k w) j = lookA f j := by
  unfold putMin
  rw [lookA_put, if_neg h]
/-- nothing grows -/
def Low (g f : List (κ × Int)) : Prop := ∀ k v, lookA f k = some v → ∃ u, lookA g k = some u ∧ u ≤ v
theorem Low.refl (f : List (κ × Int)) : Low f f := fun k v h => ⟨v, h, Int.le_refl _⟩
theorem Low.trans {a b c : List (κ × Int)} (h : Low a b) (g : Low b c) : Low a c := fun k v e => by
  obtain ⟨u, hu, l1⟩ := g k v e
  obtain ⟨t, ht, l2⟩ := h k u hu
  exact ⟨t, ht, by omega⟩
theorem low_putMin {f : List (κ × Int)} {k : κ} {w : Int} : Low (putMin f k w) f := fun j v e => by
  by_cases z : j = k
  · subst z
    obtain ⟨u, hu, _, hl, _⟩ := putMin_at (f := f) (k := j) (w := w)
    exact ⟨u, hu, hl v e⟩
  · exact ⟨v, by rw [putMin_no z]; exact e, Int.le_refl _⟩
end
theorem low_step {m l : N} {f : Far N} {r : N} : Low (fwStep m l f r) f := by
  unfold fwStep
  split
  · exact low_putMin
  · exact Low.refl _
theorem low_row {sp : List N} {m : N} {f : Far N} {l : N} : Low (fwRow sp m f l) f := fold_inv (fun _ g => Low g f) sp [] f (Low.refl _) fun d x s _ h => low_step.trans h
theorem low_mid {sp : List N} {f : Far N} {m : N} : Low (fwMid sp f m) f := fold_inv (fun _ g => Low g f) sp [] f (Low.refl _) fun d x s _ h => low_row.trans h
theorem low_fw {sp l : List N} {f : Far N} : Low (l.foldl (fwMid sp) f) f := fold_inv (fun _ g => Low g f) l [] f (Low.refl _) fun d x s _ h => low_mid.trans h
/-- all that is told is the weight of a way -/
def Sound (S : Ed N → Prop) (f : Far N) : Prop := ∀ x y v, lookA f (x, y) = some v → Way S x y v
theorem sound_putMin {S : Ed N → Prop} {f : Far N} {x y : N} {w : Int} (h : Sound S f) (hw : Way S x y w) : Sound S (putMin f (x, y) w) := fun x' y' v e => by
  by_cases z : (x', y') = (x, y)
  · cases z
    obtain ⟨u, hu, _, _, q⟩ := putMin_at (f := f) (k := (x, y)) (w := w)
    rw [hu] at e
    cases e
    rcases q with rfl | q
    · exact hw
    · exact h _ _ _ q
  · rw [putMin_no z] at e
    exact h _ _ _ e
theorem sound_step {S : Ed N → Prop} {f : Far N} {m l r : N} (h : Sound S f) : Sound S (fwStep m l f r) := by
  unfold fwStep
  split
  · rename_i a b ha hb
    exact sound_putMin h ((h _ _ _ ha).trans (h _ _ _ hb))
  · exact h
theorem sound_fw {S : Ed N → Prop} {f : Far N} {sp : List N} (h : Sound S f) : Sound S (fw sp f) :=
  fold_inv (fun _ g => Sound S g) sp [] f h fun d x s _ h => fold_inv (fun _ g => Sound S g) sp [] s h fun d y s _ h => fold_inv (fun _ g => Sound S g) sp [] s h fun d z s _ h => sound_step h
/-! ### behind the middles L the ways through them are there -/
def Tri (sp : List N) (f : Far N) (m : N) : Prop := ∀ x ∈ sp, ∀ y ∈ sp, ∀ a b, lookA f (x, m) = some a → lookA f (m, y) = some b → ∃ v, lookA f (x, y) = some v ∧ v ≤ a + b
structure Ph (f : Far N) (m : N) (done : N → N → Prop) (g : Far N) : Prop where
  left : ∀ x, lookA g (x, m) = lookA f (x, m)
  right : ∀ y, lookA g (m, y) = lookA f (m, y)
  low : Low g f
  from' : ∀ x y v, lookA g (x, y) = some v → lookA f (x, y) = some v ∨ ∃ a b, lookA f (x, m) = some a ∧ lookA f (m, y) = some b ∧ v = a + b
  did : ∀ x y, done x y → ∀ a b, lookA f (x, m) = some a → lookA f (m, y) = some b → ∃ v, lookA g (x, y) = some v ∧ v ≤ a + b
theorem ph_step {f : Far N} {m : N} {done : N → N → Prop} {g : Far N} (hm : ∀ v, lookA f (m, m) = some v → 0 ≤ v) (P : Ph f m done g) (l r : N) : Ph f m (fun x y => done x y ∨ (x = l ∧ y = r)) (fwStep m l g r) := by
  unfold fwStep
  split
  · rename_i a b ha hb
    have fa := P.left l ▸ ha
    have fb := P.right r ▸ hb
    obtain ⟨v, hv, l1, l2, l3⟩ := putMin_at (f := g) (k := (l, r)) (w := a + b)
    refine ⟨fun x => ?_, fun y => ?_, low_putMin.trans P.low, fun x y u e => ?_, fun x y d a' b' h1 h2 => ?_⟩
    · by_cases z : (x, m) = (l, r)
      · cases z
        rw [hv, ← P.left]
        have := hm b (P.right m ▸ hb)
        rcases l3 with rfl | l3
        · have := l2 a ha
          rw [ha]
          congr 1
          omega
        · exact l3.symm
      · rw [putMin_no z]
        exact P.left x
    · by_cases z : (m, y) = (l, r)
      · cases z
        rw [hv, ← P.right]
        have := hm a (P.left m ▸ ha)
        rcases l3 with rfl | l3
        · have := l2 b hb
          rw [hb]
          congr 1
          omega
        · exact l3.symm
      · rw [putMin_no z]
        exact P.right y
    · by_cases z : (x, y) = (l, r)
      · cases z
        rw [hv] at e
        cases e
        rcases l3 with rfl | l3
        · exact .inr ⟨a, b, fa, fb, rfl⟩
        · exact P.from' _ _ _ l3
      · rw [putMin_no z] at e
        exact P.from' _ _ _ e
    · rcases d with d | ⟨rfl, rfl⟩
      · obtain ⟨u, hu, le⟩ := P.did x y d a' b' h1 h2
        obtain ⟨w, hw, le2⟩ := low_putMin (f := g) (k := (l, r)) (w := a + b) _ _ hu
        exact ⟨w, hw, by omega⟩
      · rw [fa] at h1
        rw [fb] at h2
        cases h1
        cases h2
        exact ⟨v, hv, l1⟩
  · rename_i no
    refine ⟨P.left, P.right, P.low, P.from', fun x y d a' b' h1 h2 => ?_⟩
    rcases d with d | ⟨rfl, rfl⟩
    · exact P.did x y d a' b' h1 h2
    · exact absurd (by rw [P.right]; exact h2) (no a' b' (by rw [P.left]; exact h1))
theorem Ph.same {f : Far N} {m : N} {d d' : N → N → Prop} {g : Far N} (P : Ph f m d g) (h : ∀ x y, d' x y → d x y) : Ph f m d' g := ⟨P.left, P.right, P.low, P.from', fun x y e => P.did x y (h x y e)⟩
theorem ph_mid {f : Far N} {m : N} {sp : List N} (hm : ∀ v, lookA f (m, m) = some v → 0 ≤ v) : Ph f m (fun x y => x ∈ sp ∧ y ∈ sp) (fwMid sp f m) := by
  have row : ∀ (d : List N) (l : N) (g : Far N), Ph f m (fun x y => x ∈ d ∧ y ∈ sp) g → Ph f m (fun x y => x ∈ d ++ [l] ∧ y ∈ sp) (fwRow sp m g l) := fun d l g P => by
    have := fold_inv (f := fwStep m l) (fun e h => Ph f m (fun x y => (x ∈ d ∧ y ∈ sp) ∨ (x = l ∧ y ∈ e)) h) sp [] g (P.same fun x y z => by
      rcases z with z | ⟨_, z⟩
      · exact z
      · cases z) fun e r h _ Q => (ph_step hm Q l r).same fun x y z => by
        rcases z with z | ⟨z1, z2⟩
        · exact .inl (.inl z)
        · rcases List.mem_append.mp z2 with z2 | z2
          · exact .inl (.inr ⟨z1, z2⟩)
          · exact .inr ⟨z1, List.mem_singleton.mp z2⟩
    refine Ph.same this fun x y z => ?_
    rcases List.mem_append.mp z.1 with h | h
    · exact .inl ⟨h, z.2⟩
    · exact .inr ⟨List.mem_singleton.mp h, z.2⟩
  have := fold_inv (f := fwRow sp m) (fun d h => Ph f m (fun x y => x ∈ d ∧ y ∈ sp) h) sp [] f ⟨fun _ => rfl, fun _ => rfl, Low.refl _, fun x y v e => .inl e, fun x y z => by
    have := z.1
    cases this⟩ fun d l g _ P => row d l g P
  exact this
theorem tri_mid {f : Far N} {m : N} {sp : List N} (hms : m ∈ sp) (hm : ∀ v, lookA f (m, m) = some v → 0 ≤ v) : Tri sp (fwMid sp f m) m ∧ ∀ k ∈ sp, Tri sp f k → Tri sp (fwMid sp f m) k := by
  have P := ph_mid (sp := sp) hm
  generalize fwMid sp f m = g at P ⊢
  refine ⟨fun x hx y hy a b h1 h2 => ?_, fun k hk t x hx y hy a b h1 h2 => ?_⟩
  · rw [P.left] at h1
    rw [P.right] at h2
    exact P.did x y ⟨hx, hy⟩ a b h1 h2
  · have via : ∀ p s c : Int, lookA f (x, m) = some p → lookA f (m, y) = some s → p + s ≤ c → ∃ v, lookA g (x, y) = some v ∧ v ≤ c := fun p s c e1 e2 le => by
      obtain ⟨v, hv, l⟩ := P.did x y ⟨hx, hy⟩ p s e1 e2
      exact ⟨v, hv, by omega⟩
    rcases P.from' x k a h1 with e1 | ⟨p, q, e1, e2, rfl⟩ <;> rcases P.from' k y b h2 with e3 | ⟨r, s, e3, e4, rfl⟩
    · obtain ⟨v, hv, l⟩ := t x hx y hy a b e1 e3
      obtain ⟨u, hu, l2⟩ := P.low _ _ hv
      exact ⟨u, hu, by omega⟩
    · obtain ⟨v, hv, l⟩ := t x hx m hms a r e1 e3
      exact via v s _ hv e4 (by omega)
    · obtain ⟨v, hv, l⟩ := t m hms y hy q b e2 e3
      exact via p v _ e1 hv (by omega)
    · obtain ⟨v, hv, l⟩ := t m hms m hms q r e2 e3
      have := hm v hv
      exact via p s _ e1 e4 (by omega)
theorem fw_tri {sp : List N} {f : Far N} (hd : ∀ s ∈ sp, ∀ v, lookA (fw sp f) (s, s) = some v → 0 ≤ v) : ∀ m ∈ sp, Tri sp (fw sp f) m := by
  have main : ∀ (l d : List N) (g : Far N), (∀ s ∈ l, s ∈ sp) → (∀ s ∈ d, s ∈ sp) → (∀ s ∈ sp, ∀ v, lookA (l.foldl (fwMid sp) g) (s, s) = some v → 0 ≤ v) → (∀ m ∈ d, Tri sp g m) → ∀ m ∈ d ++ l, Tri sp (l.foldl (fwMid sp) g) m := by
    intro l
    induction l with
    | nil => intro d g _ _ _ t; rw [List.append_nil]; exact t
    | cons m l ih =>
      intro d g hl hdd hd t
      have hm : ∀ v, lookA g (m, m) = some v → 0 ≤ v := fun v e => by
        obtain ⟨u, hu, le⟩ := (low_fw (sp := sp) (l := m :: l) (f := g)) _ _ e
        have := hd m (hl m (List.mem_cons_self ..)) u hu
        omega
      have tm := tri_mid (hl m (List.mem_cons_self ..)) hm
      have := ih (d ++ [m]) (fwMid sp g m) (fun s hs => hl s (List.mem_cons_of_mem _ hs)) (fun s hs => by
        rcases List.mem_append.mp hs with h | h
        · exact hdd s h
        · rw [List.mem_singleton.mp h]; exact hl m (List.mem_cons_self ..)) hd (fun k hk => by
        rcases List.mem_append.mp hk with h | h
        · exact tm.2 k (hdd k h) (t k h)
        · rw [List.mem_singleton.mp h]; exact tm.1)
      rw [List.append_assoc, List.singleton_append] at this
      exact this
  have := main sp [] f (fun s h => h) (fun s h => (nomatch h)) hd (fun m h => (nomatch h))
  rw [List.nil_append] at this
  exact this
/-! ### the law's look at a ring -/
abbrev Kw (N : Type) := List ((N × N × N) × Int)
def edL (kn : Kw N) : List (Ed N) := kn.map fun p => ⟨p.1.1, p.1.2.1, p.1.2.2, p.2⟩
theorem mem_edL {kn : Kw N} {a : Ed N} : a ∈ edL kn ↔ (a.k, a.w) ∈ kn := by
  unfold edL
  rw [List.mem_map]
  constructor
  · rintro ⟨⟨⟨x, y, e⟩, w⟩, h, rfl⟩
    exact h
  · exact fun h => ⟨_, h, rfl⟩
theorem inM_L {kn : Kw N} (nd : (kn.map (·.1)).Nodup) {a : Ed N} : InM (lookA kn) a ↔ a ∈ edL kn := by
  rw [mem_edL]
  exact ⟨fun h => lookA_mem h, fun h => lookA_of nd h⟩
theorem farInit_ok (kn : Kw N) : Sound (· ∈ edL kn) (farInit kn) ∧ ∀ a ∈ edL kn, ∃ v, lookA (farInit kn) (a.x, a.y) = some v ∧ v ≤ a.w := by
  have := fold_inv (f := fun (f : Far N) (p : (N × N × N) × Int) => putMin f (p.1.1, p.1.2.1) p.2) (fun d f => Sound (· ∈ edL kn) f ∧ ∀ a : Ed N, (a.k, a.w) ∈ d → ∃ v, lookA f (a.x, a.y) = some v ∧ v ≤ a.w) kn [] [] ⟨fun x y v e => (nomatch e), fun a h => (nomatch h)⟩ fun d p f hp h => by
    refine ⟨sound_putMin h.1 ?_, fun a ha => ?_⟩
    · exact Way.one (a := ⟨p.1.1, p.1.2.1, p.1.2.2, p.2⟩) (S := (· ∈ edL kn)) (List.mem_map.mpr ⟨p, hp, rfl⟩)
    · rcases List.mem_append.mp ha with ha | ha
      · obtain ⟨v, hv, l⟩ := h.2 a ha
        obtain ⟨u, hu, l2⟩ := low_putMin (f := f) (k := (p.1.1, p.1.2.1)) (w := p.2) _ _ hv
        exact ⟨u, hu, by omega⟩
      · have e := List.mem_singleton.mp ha
        subst e
        obtain ⟨v, hv, l, _⟩ := putMin_at (f := f) (k := (a.x, a.y)) (w := a.w)
        exact ⟨v, hv, l⟩
  rw [List.nil_append] at this
  exact ⟨this.1, fun a ha => this.2 a (mem_edL.mp ha)⟩
theorem ringL_iff {sp : List N} {kn : Kw N} (hsp : ∀ a ∈ edL kn, a.x ∈ sp ∧ a.y ∈ sp) : ringL sp kn = true ↔ Ring (· ∈ edL kn) := by
  have h0 := farInit_ok kn
  have snd := sound_fw (sp := sp) h0.1
  unfold ringL
  rw [List.any_eq_true]
  constructor
  · rintro ⟨s, _, h⟩
    have h := of_decide_eq_true h
    cases e : lookA (fw sp (farInit kn)) (s, s) with
    | none =>
      rw [e] at h
      have h : (0 : Int) < 0 := h
      omega
    | some v =>
      rw [e] at h
      exact ⟨s, v, snd _ _ _ e, h⟩
  · rintro ⟨x, t, w, l⟩
    refine Classical.byContradiction fun no => ?_
    have hd : ∀ s ∈ sp, ∀ v, lookA (fw sp (farInit kn)) (s, s) = some v → 0 ≤ v := fun s hs v e => by
      refine Classical.byContradiction fun z => no ⟨s, hs, decide_eq_true ?_⟩
      rw [e]
      show v < 0
      omega
    have tri := fw_tri hd
    have main : ∀ {x y : N} {t : Int}, Way (· ∈ edL kn) x y t → x ∈ sp ∧ y ∈ sp ∧ ∃ v, lookA (fw sp (farInit kn)) (x, y) = some v ∧ v ≤ t := by
      intro x y t w
      have one : ∀ a ∈ edL kn, ∃ v, lookA (fw sp (farInit kn)) (a.x, a.y) = some v ∧ v ≤ a.w := fun a ha => by
        obtain ⟨v, hv, l⟩ := h0.2 a ha
        obtain ⟨u, hu, l2⟩ := (low_fw (sp := sp) (l := sp) (f := farInit kn)) _ _ hv
        exact ⟨u, hu, by omega⟩
      induction w with
      | @one a s => exact ⟨(hsp a s).1, (hsp a s).2, one a s⟩
      | @more a z t s _ ih =>
        obtain ⟨h1, h2, v, hv, l⟩ := ih
        obtain ⟨u, hu, l2⟩ := one a s
        obtain ⟨c, hc, l3⟩ := tri a.y (hsp a s).2 a.x (hsp a s).1 z h2 u v hu hv
        exact ⟨(hsp a s).1, h2, c, hc, by omega⟩
    obtain ⟨hx, _, v, hv, l2⟩ := main w
    have := hd x hx v hv
    omega
/-! ### the law's rounds -/
def earlyL (T : N → Option (Tk N)) (a : Ed N) : List (Ed N) := match T a.x with
  | none => []
  | some t => if a.w < 0 ∧ a.e ≠ a.x then [⟨t.b, a.y, a.e, t.lo + a.w⟩] else []
def sureL (o : N) (T : N → Option (Tk N)) (a : Ed N) : List (Ed N) := if a.e = o then [] else match T a.e with
  | none => []
  | some t => [⟨a.x, a.y, o, max a.w (0 - t.lo)⟩]
def sumL (o : N) (kn : Kw N) (a : Ed N) : List (Ed N) := if a.e = o then ((edL kn).filter fun s => decide (s.x = a.y)).flatMap fun s => if a.x = s.y then [] else [⟨a.x, s.y, s.e, a.w + s.w⟩] else []
def derivedL (o : N) (T : N → Option (Tk N)) (kn : Kw N) : List (Ed N) := (edL kn).flatMap fun a => earlyL T a ++ sureL o T a ++ sumL o kn a
/-- none: a loop below 0 came -/
def canAdd (s : Option (Kw N × Bool)) (a : Ed N) : Option (Kw N × Bool) := match s with
  | none => none
  | some (kn, new) => if a.x = a.y ∧ a.w < 0 then none else if a.x ≠ a.y ∧ a.w < (lookA kn a.k).getD (a.w + 1) then some (putA kn a.k a.w, true) else some (kn, new)
def canN (o : N) (T : N → Option (Tk N)) (sp : List N) : Nat → Kw N → Option Bool
  | 0, _ => none
  | n + 1, kn => if ringL sp kn = true then some false else match (derivedL o T kn).foldl canAdd (some (kn, false)) with
    | none => some false
    | some (kn', true) => canN o T sp n kn'
    | some (_, false) => some true
def linesL (bs : List (Ed N)) : Kw N := bs.foldl (fun f a => putMin f a.k a.w) []
structure OkL (o : N) (T : N → Option (Tk N)) (bs : List (Ed N)) (kn : Kw N) : Prop where
  nd : (kn.map (·.1)).Nodup
  der : ∀ a ∈ edL kn, Der o T (· ∈ bs) a ∧ a.x ≠ a.y
variable {o : N} {T : N → Option (Tk N)} {bs : List (Ed N)} {ns es : List N} {b : Nat}
theorem okL_put {kn : Kw N} (ok : OkL o T bs kn) {a : Ed N} {w : Int} (h : Der o T (· ∈ bs) { a with w := w }) (hl : a.x ≠ a.y) : OkL o T bs (putA kn a.k w) := by
  refine ⟨putA_nodup ok.nd _ _, fun c hc => ?_⟩
  rcases mem_putA (mem_edL.mp hc) with e | e
  · have : c = { a with w := w } := by
      obtain ⟨x, y, e1, w1⟩ := c
      cases e
      rfl
    rw [this]
    exact ⟨h, hl⟩
  · exact ok.der c (mem_edL.mpr e)
theorem lines_ok (hl : ∀ a ∈ bs, a.x ≠ a.y) : OkL o T bs (linesL bs) ∧ ∀ a ∈ bs, Dom (lookA (linesL bs)) a := by
  have := fold_inv (f := fun (f : Kw N) (a : Ed N) => putMin f a.k a.w) (fun d f => OkL o T bs f ∧ ∀ a ∈ d, Dom (lookA f) a) bs [] [] ⟨⟨by simp, fun a h => (nomatch h)⟩, fun a h => (nomatch h)⟩ fun d a f ha h => by
    refine ⟨?_, fun c hc => ?_⟩
    · obtain ⟨v, hv, _, _, q⟩ := putMin_at (f := f) (k := a.k) (w := a.w)
      have e : putMin f a.k a.w = putA f a.k v := by
        unfold putMin at hv ⊢
        rw [lookA_put, if_pos rfl] at hv
        rw [Option.some.inj hv]
      rw [e]
      refine okL_put h.1 ?_ (hl a ha)
      rcases q with rfl | q
      · exact .base ha
      · exact (h.1.der { a with w := v } (mem_edL.mpr (lookA_mem q))).1
    · rcases List.mem_append.mp hc with hc | hc
      · obtain ⟨v, hv, l⟩ := h.2 c hc
        obtain ⟨u, hu, l2⟩ := low_putMin (f := f) (k := a.k) (w := a.w) _ _ hv
        exact ⟨u, hu, by omega⟩
      · rw [List.mem_singleton.mp hc]
        obtain ⟨v, hv, l, _⟩ := putMin_at (f := f) (k := a.k) (w := a.w)
        exact ⟨v, hv, l⟩
  rw [List.nil_append] at this
  exact this
theorem mem_derivedL {kn : Kw N} {r : Ed N} (nl : ∀ a ∈ edL kn, a.x ≠ a.y) : r ∈ derivedL o T kn ↔ (∃ f ∈ edL kn, ∃ s ∈ edL kn, sumE o f s = some r) ∨ (∃ a ∈ edL kn, earlyE T a = some r) ∨ ∃ a ∈ edL kn, sureE o T a = some r := by
  unfold derivedL
  rw [List.mem_flatMap]
  constructor
  · rintro ⟨a, ha, h⟩
    rcases List.mem_append.mp h with h | h
    · rcases List.mem_append.mp h with h | h
      · unfold earlyL at h
        split at h
        · cases h
        · rename_i t ht
          split at h
          · rename_i z
            rw [List.mem_singleton.mp h]
            exact .inr (.inl ⟨a, ha, earlyE_of ht z.1 (fun e => z.2 e.symm) (nl a ha)⟩)
          · cases h
      · unfold sureL at h
        split at h
        · cases h
        · rename_i z
          split at h
          · cases h
          · rename_i t ht
            rw [List.mem_singleton.mp h]
            have := sureE_of (o := o) ht z (nl a ha)
            rw [show (-t.lo) = 0 - t.lo by omega] at this
            exact .inr (.inr ⟨a, ha, this⟩)
    · unfold sumL at h
      split at h
      · rename_i z
        obtain ⟨s, hs, h⟩ := List.mem_flatMap.mp h
        obtain ⟨hs, e⟩ := List.mem_filter.mp hs
        split at h
        · cases h
        · rename_i y
          rw [List.mem_singleton.mp h]
          exact .inl ⟨a, ha, s, hs, sumE_of z (of_decide_eq_true e).symm y (nl a ha) (nl s hs)⟩
      · cases h
  · rintro (⟨f, hf, s, hs, e⟩ | ⟨a, ha, e⟩ | ⟨a, ha, e⟩)
    · obtain ⟨h1, h2, h3, h4, h5, rfl⟩ := sumE_some e
      refine ⟨f, hf, List.mem_append_right _ ?_⟩
      unfold sumL
      rw [if_pos h1]
      refine List.mem_flatMap.mpr ⟨s, List.mem_filter.mpr ⟨hs, decide_eq_true h2.symm⟩, ?_⟩
      rw [if_neg h3]
      exact List.mem_singleton.mpr rfl
    · obtain ⟨t, ht, h1, h2, h3, rfl⟩ := earlyE_some e
      refine ⟨a, ha, List.mem_append_left _ (List.mem_append_left _ ?_)⟩
      unfold earlyL
      rw [ht]
      dsimp only
      rw [if_pos ⟨h1, fun z => h2 z.symm⟩]
      exact List.mem_singleton.mpr rfl
    · obtain ⟨t, ht, h1, h2, rfl⟩ := sureE_some e
      refine ⟨a, ha, List.mem_append_left _ (List.mem_append_right _ ?_)⟩
      unfold sureL
      rw [if_neg h1, ht]
      dsimp only
      rw [show (-t.lo) = 0 - t.lo by omega]
      exact List.mem_singleton.mpr rfl
/-- one round of the law -/
structure Rl (kn0 : Kw N) (d : List (Ed N)) (s : Kw N × Bool) : Prop where
  low : Low s.1 kn0
  lt : s.2 = true → Lt s.1 kn0
  same : s.2 = false → s.1 = kn0
  no : s.2 = false → ∀ a ∈ d, (a.x = a.y → 0 ≤ a.w) ∧ (a.x ≠ a.y → Dom (lookA kn0) a)
theorem round_ok {kn0 : Kw N} (ok : OkL o T bs kn0) (c : List (Ed N)) (hc : ∀ a ∈ c, Der o T (· ∈ bs) a) : (c.foldl canAdd (some (kn0, false)) = none → Ring (Der o T (· ∈ bs))) ∧
    ∀ s, c.foldl canAdd (some (kn0, false)) = some s → OkL o T bs s.1 ∧ Rl kn0 c s := by
  have := fold_inv (f := canAdd (N := N)) (fun d q => (q = none → Ring (Der o T (· ∈ bs))) ∧ ∀ s, q = some s → OkL o T bs s.1 ∧ Rl kn0 d s) c [] (some (kn0, false)) ⟨fun z => (nomatch z), fun s e => by
    cases e
    exact ⟨ok, Low.refl _, fun z => (nomatch z), fun _ => rfl, fun _ a h => (nomatch h)⟩⟩ fun d a q ha h => by
    cases q with
    | none => exact ⟨fun _ => h.1 rfl, fun s e => (nomatch e)⟩
    | some s =>
      obtain ⟨kn, new⟩ := s
      obtain ⟨ok1, R⟩ := h.2 _ rfl
      show (canAdd (some (kn, new)) a = none → _) ∧ ∀ s, canAdd (some (kn, new)) a = some s → _
      unfold canAdd
      by_cases z : a.x = a.y ∧ a.w < 0
      · dsimp only
        rw [if_pos z]
        refine ⟨fun _ => ⟨a.x, a.w, ?_, z.2⟩, fun s e => (nomatch e)⟩
        have w : Way (Der o T (· ∈ bs)) a.x a.y a.w := .one (hc a ha)
        rw [← z.1] at w
        exact w
      · dsimp only
        rw [if_neg z]
        by_cases y : a.x ≠ a.y ∧ a.w < (lookA kn a.k).getD (a.w + 1)
        · rw [if_pos y]
          refine ⟨fun z => (nomatch z), fun s e => ?_⟩
          cases e
          have small : ∀ v, lookA kn a.k = some v → a.w < v := fun v hv => by
            have := y.2
            rw [hv] at this
            exact this
          refine ⟨okL_put ok1 (hc a ha) y.1, ?_, fun _ => ?_, fun z => (nomatch z), fun z => (nomatch z)⟩
          · refine Low.trans (b := kn) (fun k v hv => ?_) R.low
            dsimp only
            rw [lookA_put]
            by_cases e : k = a.k
            · rw [if_pos e]
              subst e
              have := small v hv
              exact ⟨_, rfl, by omega⟩
            · rw [if_neg e]
              exact ⟨v, hv, Int.le_refl _⟩
          · have l1 := lt_put ok1.nd (k := a.k) (w := a.w) small
            cases new with
            | true => exact l1.trans (R.lt rfl)
            | false =>
              have := R.same rfl
              dsimp only at this
              rw [this] at l1 ⊢
              exact l1
        · rw [if_neg y]
          refine ⟨fun z => (nomatch z), fun s e => ?_⟩
          cases e
          refine ⟨ok1, R.low, R.lt, R.same, fun f c hc' => ?_⟩
          rcases List.mem_append.mp hc' with hc' | hc'
          · exact R.no f c hc'
          · rw [List.mem_singleton.mp hc']
            have e2 := R.same f
            dsimp only at e2
            subst e2
            refine ⟨fun e => ?_, fun e => ?_⟩
            · have : ¬ a.w < 0 := fun h => z ⟨e, h⟩
              omega
            · have : ¬ a.w < (lookA kn a.k).getD (a.w + 1) := fun h => y ⟨e, h⟩
              cases q : lookA kn a.k with
              | none =>
                rw [q] at this
                have : ¬ a.w < a.w + 1 := this
                omega
              | some v =>
                rw [q] at this
                have : ¬ a.w < v := this
                exact ⟨v, q, by omega⟩
  rw [List.nil_append] at this
  exact this
theorem can_ends (B : Base o T bs ns es b) {sp : List N} (hsp : ∀ x ∈ ns, x ∈ sp) : ∃ n q, canN o T sp n (linesL bs) = some q ∧ (q = true ↔ ¬ Ring (Der o T (· ∈ bs))) := by
  have insp : ∀ kn : Kw N, OkL o T bs kn → ∀ a ∈ edL kn, a.x ∈ sp ∧ a.y ∈ sp := fun kn ok a ha => by
    have := der_nm B (ok.der a ha).1
    exact ⟨hsp _ this.1, hsp _ this.2.1⟩
  have good : ∀ kn : Kw N, OkL o T bs kn → ¬ Ring (· ∈ edL kn) → (∀ a ∈ bs, Dom (lookA kn) a) → Good (univ ns es).length b kn := fun kn ok nr hb => by
    refine good_of ?_ fun p hp => ?_
    · rw [← List.length_map (f := (·.1)) (as := kn)]
      refine sub_len _ _ ok.nd fun k hk => ?_
      obtain ⟨p, hp, rfl⟩ := List.mem_map.mp hk
      have h := der_nm B (ok.der ⟨p.1.1, p.1.2.1, p.1.2.2, p.2⟩ (mem_edL.mpr hp)).1
      exact mem_univ h.1 h.2.1 h.2.2
    · have hm : (⟨p.1.1, p.1.2.1, p.1.2.2, p.2⟩ : Ed N) ∈ edL kn := mem_edL.mpr hp
      have h := ok.der _ hm
      have h2 := der_nm B h.1
      exact w_low B (fun z => nr (z.up fun a ha => (inM_L ok.nd).mp ha)) hb ((inM_L ok.nd).mpr hm) h2.1 h2.2.1 h.2
  have ringTrue : ∀ kn : Kw N, OkL o T bs kn → Ring (· ∈ edL kn) → ∃ n q, canN o T sp n kn = some q ∧ (q = true ↔ ¬ Ring (Der o T (· ∈ bs))) := fun kn ok r => by
    refine ⟨1, false, ?_, fun z => (nomatch z), fun z => absurd (r.up fun a ha => (ok.der a ha).1) z⟩
    unfold canN
    rw [if_pos ((ringL_iff (insp kn ok)).mpr r)]
  have main : ∀ A, Good (univ ns es).length b A → OkL o T bs A → ¬ Ring (· ∈ edL A) → (∀ a ∈ bs, Dom (lookA A) a) → ∃ n q, canN o T sp n A = some q ∧ (q = true ↔ ¬ Ring (Der o T (· ∈ bs))) := by
    refine lt_ind fun kn g ih ok nr hb => ?_
    have nl : ∀ a ∈ edL kn, a.x ≠ a.y := fun a ha => (ok.der a ha).2
    have hr : ¬ ringL sp kn = true := fun z => nr ((ringL_iff (insp kn ok)).mp z)
    have hder : ∀ a ∈ derivedL o T kn, Der o T (· ∈ bs) a := fun r hr => by
      rcases (mem_derivedL nl).mp hr with ⟨f, hf, s, hs, e⟩ | ⟨a, ha, e⟩ | ⟨a, ha, e⟩
      · exact .sum (ok.der f hf).1 (ok.der s hs).1 e
      · exact .early (ok.der a ha).1 e
      · exact .sure (ok.der a ha).1 e
    have R := round_ok ok (derivedL o T kn) hder
    cases hq : (derivedL o T kn).foldl canAdd (some (kn, false)) with
    | none =>
      refine ⟨1, false, ?_, fun z => (nomatch z), fun z => absurd (R.1 hq) z⟩
      unfold canN
      rw [if_neg hr, hq]
    | some s =>
      obtain ⟨kn', new⟩ := s
      obtain ⟨ok2, Q⟩ := R.2 _ hq
      cases new with
      | true =>
        have hb2 : ∀ a ∈ bs, Dom (lookA kn') a := fun a ha => by
          obtain ⟨v, hv, l⟩ := hb a ha
          obtain ⟨u, hu, l2⟩ := Q.low _ _ hv
          exact ⟨u, hu, by omega⟩
        have next : ∃ n q, canN o T sp n kn' = some q ∧ (q = true ↔ ¬ Ring (Der o T (· ∈ bs))) := by
          by_cases r : Ring (· ∈ edL kn')
          · exact ringTrue kn' ok2 r
          · exact ih kn' (good kn' ok2 r hb2) (Q.lt rfl) ok2 r hb2
        obtain ⟨n, q, h1, h2⟩ := next
        refine ⟨n + 1, q, ?_, h2⟩
        unfold canN
        rw [if_neg hr, hq]
        exact h1
      | false =>
        have C : Closed o T (· ∈ bs) (lookA kn) := by
          have mm : ∀ a, InM (lookA kn) a → a ∈ edL kn := fun a h => (inM_L ok.nd).mp h
          refine ⟨fun a ha => nl a (mm a ha), fun a ha => ⟨B.nl a ha, hb a ha⟩, fun f s r hf hs e => ?_, fun a r ha e => ?_, fun a r ha e => ?_⟩
          · have h := Q.no rfl r ((mem_derivedL nl).mpr (.inl ⟨f, mm f hf, s, mm s hs, e⟩))
            refine h.2 ?_
            obtain ⟨_, _, z, _, _, rfl⟩ := sumE_some e
            exact z
          · exact Q.no rfl r ((mem_derivedL nl).mpr (.inr (.inl ⟨a, mm a ha, e⟩)))
          · have h := Q.no rfl r ((mem_derivedL nl).mpr (.inr (.inr ⟨a, mm a ha, e⟩)))
            refine h.2 ?_
            obtain ⟨_, _, _, z, rfl⟩ := sureE_some e
            exact z
        have nr2 := no_ring C fun z => nr (z.up fun a ha => (inM_L ok.nd).mp ha)
        refine ⟨1, true, ?_, fun _ => nr2, fun _ => rfl⟩
        unfold canN
        rw [if_neg hr, hq]
  have L := lines_ok (o := o) (T := T) B.nl
  by_cases r : Ring (· ∈ edL (linesL bs))
  · exact ringTrue _ L.1 r
  · exact main _ (good _ L.1 r L.2) L.1 r L.2
/-- the edges may stand in any order -/
theorem der_same {bs' : List (Ed N)} (h : ∀ a, a ∈ bs ↔ a ∈ bs') : Ring (Der o T (· ∈ bs)) ↔ Ring (Der o T (· ∈ bs')) :=
  ⟨Ring.up fun _ d => d.up fun a ha => (h a).mp ha, Ring.up fun _ d => d.up fun a ha => (h a).mpr ha⟩
end Vf.Cl
end
section
set_option Elab.async false
set_option linter.all false
set_option maxRecDepth 100000
set_option maxHeartbeats 4000000
namespace Vf
open PySem PySem.Spec PyProof.Rows L2 Evl
/-! ### either of two sources, statements -/
section
variable {X : Cx}
def tIe (a b : TI) : TI := fun σ H R => a σ H R ∨ b σ H R
theorem pi_ei {tg e : Expr} {a b : TI} (h1 : PI X tg e a) (h2 : PI X tg e b) : PI X tg e (tIe a b) := ⟨fun pins s σ H R I h => h.elim (h1.run pins s σ H R I) (h2.run pins s σ H R I)⟩
end
section
variable {K : PySem.W.Frag} {σ : L2.St} {H H' B : Hp} {ta tb te tl : TE} {v : V} {D : Ends} {g : TG} {tu tz : TS}
/-- over a list or a tuple of data -/
theorem s_forD {b : Bool} {ds : List PyData} (h : Ev tl σ H v) (hd : Dp K B v (seqD b ds)) (eB : Ex B H) (Pv : Nat → L2.St → Hp → Prop) (h0 : ∀ H1, Ex H H1 → Pv 0 σ H1) (hl : ∀ i σ' H', Pv i σ' H' → Ex B H')
    (hs : ∀ i x d σ' H', ds[i]? = some d → Dp K B x d → Pv i σ' H' → g x σ' H' fun σ2 H2 => tu { D with nx := Pv (i + 1), ct := Pv (i + 1), bk := D.nx } σ2 H2) (he : ∀ σ' H', Pv ds.length σ' H' → D.nx σ' H') : tFor (tIe (iTup K tl) (iList K tl)) g tu D σ H := by
  cases b with
  | true =>
    cases hd with
    | lst hx ha =>
      have el := dpa_len ha
      refine .inr (s_forL h (ex_l eB hx) Pv h0 (fun i σ' H' _ p => ex_l (hl i σ' H' p) hx) (fun i x σ' H' hi p => ?_) (fun σ' H' p => he σ' H' (el ▸ p)))
      obtain ⟨d, h1, h2⟩ := dpa_get ha hi
      exact hs i x d σ' H' h1 h2 p
  | false =>
    cases hd with
    | tup hx ha =>
      have el := dpa_len ha
      refine .inl (s_forT h (ex_t eB hx) Pv h0 (fun i σ' H' _ p => ex_t (hl i σ' H' p) hx) (fun i x σ' H' hi p => ?_) (fun σ' H' p => he σ' H' (el ▸ p)))
      obtain ⟨d, h1, h2⟩ := dpa_get ha hi
      exact hs i x d σ' H' h1 h2 p
theorem q_forD {b : Bool} {ds : List PyData} (h : Ev tl σ H v) (hd : Dp K B v (seqD b ds)) (eB : Ex B H) (Pv : Nat → L2.St → Hp → Prop) (h0 : ∀ H1, Ex H H1 → Pv 0 σ H1) (hl : ∀ i σ' H', Pv i σ' H' → Ex B H')
    (hs : ∀ i x d σ' H', ds[i]? = some d → Dp K B x d → Pv i σ' H' → g x σ' H' fun σ2 H2 => tu { D with nx := Pv (i + 1), ct := Pv (i + 1), bk := tz D } σ2 H2) (he : ∀ σ' H', Pv ds.length σ' H' → tz D σ' H') : tSeq (tFor (tIe (iTup K tl) (iList K tl)) g tu) tz D σ H :=
  s_forD (D := { D with nx := tz D }) h hd eB Pv h0 hl hs he
/-- a list comprehension over a list or a tuple of data -/
theorem en_lcD {t : TT} {vs : List Nat} {b : Bool} {ds : List PyData} (f : Nat → Bool) (w : Nat → PyData) (h : EvD K tl σ H (seqD b ds)) (hz : ds.length ≤ 40000) (hn : ∀ i, f i = true → noL (w i) = true)
    (hg : ∀ (i : Nat) (x : V) (d : PyData) H1, Ex H H1 → ds[i]? = some d → Dp K H1 x d → ∃ σ2, wipe σ2 vs = wipe σ vs ∧ GoesTo g x (wipe σ vs) σ2 H1 ∧ EvT t σ2 H1 (f i) ∧ (f i = true → EvD K te σ2 H1 (w i))) :
    EvN K (tEi (tLc (iTup K tl) g t te vs) (tLc (iList K tl) g t te vs)) σ H (givenD ds.length f w) := by
  cases b with
  | true => exact fun H1 e Q q => .inr (en_lcL f w h hz hn hg H1 e Q q)
  | false => exact fun H1 e Q q => .inl (en_lcT f w h hz hn hg H1 e Q q)
/-! ### calls that give data -/
theorem ed_call {sp : Sp} {tr : TA} {E : XK} {vs : List V} {d : PyData} (h : EvA tr σ H vs) (hs : ∀ H1, Ex H H1 → ∀ Q : VK, (∀ v H2, Ex H1 H2 → Dp K H2 v d → Q v H2) → ∀ E : XK, sp (vs ++ []) H1 Q E) : EvD K (tCall sp [] E tr) σ H d := fun H1 e Q q =>
  h H1 e _ fun H2 e2 => hs H2 (e.trans e2) Q (fun v H3 e3 hd => q v H3 (e2.trans e3) hd) E
theorem en_call {sp : Sp} {tr : TA} {E : XK} {vs : List V} {ds : List PyData} (h : EvA tr σ H vs) (hs : ∀ H1, Ex H H1 → ∀ Q : VK, (∀ p xs H2, H1 p = none → Ex H1 H2 → H2 p = some (.lst xs) → DpAll K H2 xs ds → Q (.ref p) H2) → ∀ E : XK, sp (vs ++ []) H1 Q E) : EvN K (tCall sp [] E tr) σ H ds := fun H1 e Q q =>
  h H1 e _ fun H2 e2 => hs H2 (e.trans e2) Q (fun p xs H3 hp e3 h3 ha => q p xs H3 (fresh_back e2 hp) (e2.trans e3) h3 ha) E
/-- a datum comes back -/
abbrev RetD (K : PySem.W.Frag) (d : PyData) (H : Hp) (Q : VK) : Prop := ∀ v H2, Ex H H2 → Dp K H2 v d → Q v H2
theorem s_retD {H0 : Hp} {d : PyData} {nx : L2.St → Hp → Prop} {Q : VK} (e : Ex H0 H) (h : EvD K te σ H d) (q : RetD K d H0 Q) : tRet te { nx := nx, rt := Q } σ H :=
  h H (Ex.refl H) _ fun v H2 e2 hd => q v H2 (e.trans e2) hd
theorem ed_is {d d' : PyData} (h : EvD K te σ H d) (e : d = d') : EvD K te σ H d' := e ▸ h
theorem en_is {d d' : List PyData} (h : EvN K te σ H d) (e : d = d') : EvN K te σ H d' := e ▸ h
theorem ed_int {i : Int} (h : Ev te σ H (.int i)) : EvD K te σ H (.int i) := ed_of h (.int i)
theorem ed_str {i : Str} (h : Ev te σ H (.str i)) : EvD K te σ H (.str i) := ed_of h (.str i)
/-- xs + ys of new lists -/
theorem en_cat {ds es : List PyData} (ha : EvN K ta σ H ds) (hb : EvN K tb σ H es) (hl : ds.length + es.length ≤ 16000000) (r : R2) (hr : ∀ (p q : Addr) (xs ys : List V) H1 (Q : VK), H1 p = some (.lst xs) → H1 q = some (.lst ys) → xs.length + ys.length ≤ sizeLine → (∀ a, H1 a = none → Q (.ref a) (upd H1 a (.lst (xs ++ ys)))) → r (.ref p) (.ref q) H1 Q) :
    EvN K (tOp r ta tb) σ H (ds ++ es) := fun H1 e Q q =>
  ha H1 e _ fun p xs H2 hp e2 h2 d2 => hb H2 (e.trans e2) _ fun p' ys H3 hp' e3 h3 d3 => hr p p' xs ys H3 Q (e3 p _ h2) h3 (by
    have l1 := dpa_len d2
    have l2 := dpa_len d3
    rw [sizeLine_eq]
    omega) fun a ha => by
    have app : ∀ {H : Hp} {xs ys : List V} {ds es : List PyData}, DpAll K H xs ds → DpAll K H ys es → DpAll K H (xs ++ ys) (ds ++ es) := by
      intro H xs ys ds es h
      induction ds generalizing xs with
      | nil => cases h; exact fun g => g
      | cons d ds ih =>
        cases h with
        | cons h1 h2 => exact fun g => .cons h1 (ih h2 g)
    exact q a _ _ (fresh_back (e2.trans e3) ha) ((e2.trans e3).trans (Ex.new ha)) upd_same (app (dpa_ex (e3.trans (Ex.new ha)) d2) (dpa_ex (Ex.new ha) d3))
end
/-! ### dicts of data -/
section
variable {κ : Type} {K : PySem.W.Frag} {H H' : Hp}
inductive AsD (K : PySem.W.Frag) (H : Hp) {κ : Type} : List (κ × V) → List (κ × PyData) → Prop
  | nil : AsD K H [] []
  | cons {k : κ} {v : V} {d : PyData} {kvs : List (κ × V)} {l : List (κ × PyData)} : Dp K H v d → AsD K H kvs l → AsD K H ((k, v) :: kvs) ((k, d) :: l)
theorem AsD.len {kvs : List (κ × V)} {l : List (κ × PyData)} (h : AsD K H kvs l) : kvs.length = l.length := by
  induction h with
  | nil => rfl
  | cons _ _ ih => rw [List.length_cons, List.length_cons, ih]
theorem AsD.ex {kvs : List (κ × V)} {l : List (κ × PyData)} (h : AsD K H kvs l) (e : Ex H H') : AsD K H' kvs l := by
  induction h with
  | nil => exact .nil
  | cons d _ ih => exact .cons (dp_ex e d) ih
theorem AsD.get {kvs : List (κ × V)} {l : List (κ × PyData)} (h : AsD K H kvs l) : ∀ {i : Nat} {k : κ} {v : V}, kvs[i]? = some (k, v) → ∃ d, l[i]? = some (k, d) ∧ Dp K H v d := by
  induction h with
  | nil => intro i k v e; simp at e
  | @cons k' v' d' kvs l d _ ih =>
    intro i k v e
    cases i with
    | zero => simp at e; obtain ⟨rfl, rfl⟩ := e; exact ⟨d', rfl, d⟩
    | succ i =>
      obtain ⟨d2, h1, h2⟩ := ih (i := i) (by simpa using e)
      exact ⟨d2, by simpa using h1, h2⟩
theorem AsD.look [DecidableEq κ] {kvs : List (κ × V)} {l : List (κ × PyData)} (h : AsD K H kvs l) (k : κ) : (Cl.lookA l k = none ∧ valV kvs k = none) ∨ ∃ v d, Cl.lookA l k = some d ∧ valV kvs k = some v ∧ Dp K H v d := by
  induction h with
  | nil => exact .inl ⟨rfl, rfl⟩
  | @cons k' v' d' kvs l d _ ih =>
    by_cases e : k' = k
    · exact .inr ⟨v', d', Cl.lookA_pos (p := (k', d')) e, valV_pos (p := (k', v')) e, d⟩
    · rw [Cl.lookA_neg (p := (k', d')) e, valV_neg (p := (k', v')) e]
      exact ih
theorem AsD.isSome [DecidableEq κ] {kvs : List (κ × V)} {l : List (κ × PyData)} (h : AsD K H kvs l) (k : κ) : (valV kvs k).isSome = (Cl.lookA l k).isSome := by
  rcases h.look k with ⟨a, b⟩ | ⟨v, d, a, b, _⟩ <;> rw [a, b] <;> rfl
theorem AsD.put [DecidableEq κ] {kvs : List (κ × V)} {l : List (κ × PyData)} (h : AsD K H kvs l) {k : κ} {v : V} {d : PyData} (hd : Dp K H v d) : AsD K H (putK kvs k v) (Cl.putA l k d) := by
  have hm : ∀ {kvs : List (κ × V)} {l : List (κ × PyData)}, AsD K H kvs l → AsD K H (kvs.map fun kv => if kv.1 = k then (kv.1, v) else kv) (l.map fun p => if p.1 = k then (p.1, d) else p) := by
    intro kvs l h
    induction h with
    | nil => exact .nil
    | @cons k' v' d' kvs l h1 _ ih =>
      rw [List.map_cons, List.map_cons]
      by_cases e : k' = k
      · rw [if_pos (show (k', v').1 = k from e), if_pos (show (k', d').1 = k from e)]
        exact .cons hd ih
      · rw [if_neg (show ¬ (k', v').1 = k from e), if_neg (show ¬ (k', d').1 = k from e)]
        exact .cons h1 ih
  have hs : ∀ {kvs : List (κ × V)} {l : List (κ × PyData)}, AsD K H kvs l → AsD K H (kvs ++ [(k, v)]) (l ++ [(k, d)]) := by
    intro kvs l h
    induction h with
    | nil => exact .cons hd .nil
    | cons h1 _ ih => exact .cons h1 ih
  unfold putK Cl.putA
  rw [valV_any, Cl.lookA_any, h.isSome]
  split
  · exact hm h
  · exact hs h
end
/-! ### edges, lines, tasks as data -/
abbrev EdS := Cl.Ed Str
abbrev TkS := Cl.Tk Str
abbrev LnS := Cl.Ln Str
abbrev KnS := Cl.Knw Str
def edD (a : EdS) : PyData := .tuple [.str a.x, .str a.y, .str a.e, .int a.w]
def tkD (t : TkS) : PyData := .tuple [.str t.b, .str t.e, .int t.lo, .int t.hi]
def ruS : Cl.Ru → Str | .given => "given" | .longest => "longest" | .sum => "sum" | .early => "early" | .sure => "sure"
def natsD (l : List Nat) : PyData := .tuple (l.map fun n : Nat => PyData.int (n : Int))
def lnD (l : LnS) : PyData := .tuple [edD l.ed, .str (ruS l.ru), natsD l.src]
def entD (q : EdS × Nat) : PyData := .tuple [edD q.1, .int (q.2 : Int)]
def optD : Option EdS → PyData | none => .none | some a => edD a
def keyL (k : Str × Str × Str) : List Key := [.inr k.1, .inr k.2.1, .inr k.2.2]
theorem keyL_inj (a b : Str × Str × Str) (h : keyL a = keyL b) : a = b := by
  obtain ⟨a1, a2, a3⟩ := a
  obtain ⟨b1, b2, b3⟩ := b
  unfold keyL at h
  simp only [List.cons.injEq, Sum.inr.injEq, and_true] at h
  obtain ⟨rfl, rfl, rfl⟩ := h
  rfl
theorem keyL_kV (k : Str × Str × Str) : (keyL k).map kV = [.str k.1, .str k.2.1, .str k.2.2] := rfl
theorem noL_ed (a : EdS) : noL (edD a) = true := rfl
theorem noL_ent (q : EdS × Nat) : noL (entD q) = true := rfl
theorem noL_nats (l : List Nat) : noL (natsD l) = true := by
  unfold natsD
  have : ∀ l : List Nat, noLs (l.map fun n : Nat => PyData.int (n : Int)) = true := by
    intro l
    induction l with
    | nil => rfl
    | cons a l ih => exact ih
  exact this l
theorem noL_ln (l : LnS) : noL (lnD l) = true := by
  show (noL (edD l.ed) && (noL (.str (ruS l.ru)) && (noL (natsD l.src) && true))) = true
  rw [noL_nats, noL_ed]
  rfl
def knD (kn : KnS) : List (List Key × PyData) := kn.map fun p => (keyL p.1, entD p.2)
theorem look_knD (kn : KnS) (k : Str × Str × Str) : Cl.lookA (knD kn) (keyL k) = (Cl.lookA kn k).map entD := by
  unfold knD
  have h := Cl.lookA_mapK (β := PyData) keyL_inj k (kn.map fun p => (p.1, entD p.2))
  rw [List.map_map] at h
  rw [← Cl.lookA_mapV]
  exact h
/-- what is known, read -/
def KnR (K : PySem.W.Frag) (H : Hp) (D : Addr) (kn : KnS) : Prop := ∃ kvs, Rd H D (.dT kvs) ∧ AsD K H kvs (knD kn)
theorem KnR.ex {K : PySem.W.Frag} {H H' : Hp} {D : Addr} {kn : KnS} (h : KnR K H D kn) (e : Ex H H') : KnR K H' D kn := let ⟨kvs, h1, h2⟩ := h; ⟨kvs, ex_rd e h1, h2.ex e⟩
/-- the tasks by their ends -/
def tMap (ts : List TkS) : List (Str × TkS) := ts.foldl (fun l t => Cl.putA l t.e t) []
def tFun (ts : List TkS) : Str → Option TkS := Cl.lookA (tMap ts)
def tmD (l : List (Str × TkS)) : List (Key × PyData) := l.map fun p => (.inr p.1, tkD p.2)
def TkR (K : PySem.W.Frag) (H : Hp) (D : Addr) (ts : List TkS) : Prop := ∃ kvs, Rd H D (.dK kvs) ∧ AsD K H kvs (tmD (tMap ts))
theorem TkR.ex {K : PySem.W.Frag} {H H' : Hp} {D : Addr} {ts : List TkS} (h : TkR K H D ts) (e : Ex H H') : TkR K H' D ts := let ⟨kvs, h1, h2⟩ := h; ⟨kvs, ex_rd e h1, h2.ex e⟩
theorem inr_inj (a b : Str) (h : (Sum.inr a : Key) = .inr b) : a = b := Sum.inr.inj h
theorem look_tmD (l : List (Str × TkS)) (x : Str) : Cl.lookA (tmD l) (.inr x) = (Cl.lookA l x).map tkD := by
  unfold tmD
  have h := Cl.lookA_mapK (β := PyData) (f := fun x : Str => (Sum.inr x : Key)) inr_inj x (l.map fun p => (p.1, tkD p.2))
  rw [List.map_map] at h
  rw [← Cl.lookA_mapV]
  exact h
theorem put_tmD (l : List (Str × TkS)) (x : Str) (t : TkS) : Cl.putA (tmD l) (.inr x) (tkD t) = tmD (Cl.putA l x t) := by
  unfold tmD
  cases h : Cl.lookA l x with
  | some c =>
    have h2 : Cl.lookA (l.map fun p => ((.inr p.1 : Key), tkD p.2)) (.inr x) = some (tkD c) := by
      have := look_tmD l x
      unfold tmD at this
      rw [this, h]
      rfl
    rw [Cl.putA_old _ h, Cl.putA_old _ h2, List.map_map, List.map_map]
    refine List.map_congr_left fun p _ => ?_
    show (if (Sum.inr p.1 : Key) = .inr x then ((.inr p.1 : Key), tkD t) else (.inr p.1, tkD p.2)) = ((.inr (if p.1 = x then (p.1, t) else p).1 : Key), tkD (if p.1 = x then (p.1, t) else p).2)
    by_cases e : p.1 = x
    · rw [if_pos (congrArg Sum.inr e), if_pos e]
    · rw [if_neg (fun z => e (Sum.inr.inj z)), if_neg e]
  | none =>
    have h2 : Cl.lookA (l.map fun p => ((.inr p.1 : Key), tkD p.2)) (.inr x) = none := by
      have := look_tmD l x
      unfold tmD at this
      rw [this, h]
      rfl
    rw [Cl.putA_new _ h, Cl.putA_new _ h2, List.map_append]
    rfl
/-! ### plans, or what looks like one -/
structure PlanL where
  lat : Int
  evs : List Str
  bs : List (Str × Str × Int)
  ts : List TkS
def bdD (b : Str × Str × Int) : PyData := .tuple [.str b.1, .str b.2.1, .int b.2.2]
/-- its parts are lists or tuples -/
def plD (b1 b2 b3 : Bool) (p : PlanL) : PyData := .tuple [.int p.lat, seqD b1 (p.evs.map .str), seqD b2 (p.bs.map bdD), seqD b3 (p.ts.map tkD)]
def PlAt (K : PySem.W.Frag) (H : Hp) (v : V) (p : PlanL) : Prop := ∃ b1 b2 b3, Dp K H v (plD b1 b2 b3 p)
theorem PlAt.ex {K : PySem.W.Frag} {H H' : Hp} {v : V} {p : PlanL} (h : PlAt K H v p) (e : Ex H H') : PlAt K H' v p := let ⟨b1, b2, b3, h⟩ := h; ⟨b1, b2, b3, dp_ex e h⟩
def givenE (p : PlanL) : List EdS := p.bs.map (fun b => ⟨b.1, b.2.1, "", b.2.2⟩) ++ p.evs.flatMap (fun e => [⟨"go", e, "", p.lat⟩, ⟨e, "go", "", 0⟩]) ++ p.ts.flatMap (fun t => [⟨t.b, t.e, "", t.hi⟩, ⟨t.e, t.b, "", -t.lo⟩])
def longE (p : PlanL) : List EdS := p.ts.map fun t => ⟨t.e, t.b, t.e, -t.hi⟩
def firstL (p : PlanL) : List LnS := (givenE p).map (fun a => ⟨a, .given, []⟩) ++ (longE p).map fun a => ⟨a, .longest, []⟩
end Vf
end
section
set_option Elab.async false
set_option linter.all false
set_option maxRecDepth 100000
set_option maxHeartbeats 4000000
namespace Vf
open PySem PySem.Spec PyProof.Rows L2 Evl
/-! ### the heap without one place that no tuple stands at -/
def Free (o : HO) : Prop := (∀ zs, o ≠ .tup zs) ∧ ∀ ob zs, o ≠ .frz ob (.tup zs)
theorem free_lst {xs : List V} : Free (.lst xs) := ⟨fun _ => nofun, fun _ _ => nofun⟩
theorem free_dK {xs : List (Key × V)} : Free (.dK xs) := ⟨fun _ => nofun, fun _ _ => nofun⟩
theorem free_dT {xs : List (List Key × V)} : Free (.dT xs) := ⟨fun _ => nofun, fun _ _ => nofun⟩
theorem free_fT {o : Obj} {xs : List (List Key × V)} : Free (.frz o (.dT xs)) := ⟨fun _ => nofun, fun _ _ => nofun⟩
section
variable {K : PySem.W.Frag} {H H' : Hp}
/-- the heap without some places -/
def buts (H : Hp) (S : Addr → Prop) [DecidablePred S] : Hp := fun b => if S b then none else H b
variable {S : Addr → Prop} [DecidablePred S]
theorem buts_ex : Ex (buts H S) H := fun b o h => by
  unfold buts at h
  split at h
  · cases h
  · exact h
theorem buts_no {b : Addr} (h : ¬ S b) : buts H S b = H b := if_neg h
theorem sqt_buts {a : Addr} {xs : List V} (hS : ∀ b, S b → ∀ o, H b = some o → Free o) (h : SqT K H a xs) : SqT K (buts H S) a xs := by
  rcases h with (h | ⟨o, h⟩) | h
  · refine .inl (.inl ?_)
    rw [buts_no fun z => (hS a z _ h).1 _ rfl]
    exact h
  · refine .inl (.inr ⟨o, ?_⟩)
    rw [buts_no fun z => (hS a z _ h).2 _ _ rfl]
    exact h
  · exact .inr h
mutual
theorem dp_buts (hS : ∀ b, S b → ∀ o, H b = some o → Free o) : ∀ {v : V} {d : PyData}, noL d = true → Dp K H v d → Dp K (buts H S) v d
  | _, _, _, .non => .non
  | _, _, _, .bl b => .bl b
  | _, _, _, .int i => .int i
  | _, _, _, .str x => .str x
  | _, _, n, .lst hs ha => nomatch n
  | _, _, n, .tup hs ha => .tup (sqt_buts hS hs) (dpa_buts hS n ha)
theorem dpa_buts (hS : ∀ b, S b → ∀ o, H b = some o → Free o) : ∀ {vs : List V} {ds : List PyData}, noLs ds = true → DpAll K H vs ds → DpAll K (buts H S) vs ds
  | _, _, _, .nil => .nil
  | _, _, n, .cons h t => .cons (dp_buts hS (Bool.and_eq_true_iff.mp n).1 h) (dpa_buts hS (Bool.and_eq_true_iff.mp n).2 t)
end
theorem buts_mono (e : Ex H H') : Ex (buts H S) (buts H' S) := fun b o h => by
  unfold buts at h ⊢
  split at h
  · cases h
  · rename_i n
    rw [if_neg n]
    exact e b o h
/-- one place -/
theorem but_buts {p : Addr} : but H p = buts H (· = p) := rfl
theorem dp_butF {p : Addr} {o : HO} {v : V} {d : PyData} (hp : H p = some o) (hf : Free o) (n : noL d = true) (h : Dp K H v d) : Dp K (but H p) v d := dp_buts (S := (· = p)) (fun b e o' h' => by
  subst e
  rw [hp] at h'
  cases h'
  exact hf) n h
theorem dpa_butF {p : Addr} {o : HO} {v : List V} {d : List PyData} (hp : H p = some o) (hf : Free o) (n : noLs d = true) (h : DpAll K H v d) : DpAll K (but H p) v d := dpa_buts (S := (· = p)) (fun b e o' h' => by
  subst e
  rw [hp] at h'
  cases h'
  exact hf) n h
end
/-! ### dict comprehensions over data, the values data -/
def putD {κ : Type} [DecidableEq κ] (n : Nat) (k : Nat → κ) (w : Nat → PyData) : List (κ × PyData) := (List.range n).foldl (fun acc i => Cl.putA acc (k i) (w i)) []
theorem putD_succ {κ : Type} [DecidableEq κ] {n : Nat} {k : Nat → κ} {w : Nat → PyData} : putD (n + 1) k w = Cl.putA (putD n k w) (k n) (w n) := by
  unfold putD
  rw [List.range_succ, List.foldl_append]
  rfl
theorem putD_len {κ : Type} [DecidableEq κ] (k : Nat → κ) (w : Nat → PyData) : ∀ n, (putD n k w).length ≤ n
  | 0 => Nat.le_refl _
  | n + 1 => by
    rw [putD_succ, Cl.putA_len]
    have := putD_len k w n
    split <;> omega
section
variable {K : PySem.W.Frag} {σ : L2.St} {H : Hp} {tl tk tv : TE} {g : TG} {t : TT} {vs : List Nat}
/-- a new dict of data -/
def EvKD (K : PySem.W.Frag) (te : TE) (σ : L2.St) (H : Hp) (l : List (Key × PyData)) : Prop := ∀ H1, Ex H H1 → ∀ Q : VK, (∀ p kvs H2, H1 p = none → Ex H1 H2 → H2 p = some (.dK kvs) → AsD K (but H2 p) kvs l → Q (.ref p) H2) → te σ H1 Q
theorem asd_mono {H H' : Hp} {p : Addr} {kvs : List (Key × V)} {l : List (Key × PyData)} (h : AsD K (but H p) kvs l) (e : Ex H H') : AsD K (but H' p) kvs l := h.ex (but_mono e)
/-- a turn -/
theorem kd_turn {k : Nat → Key} {w : Nat → PyData} {Dl : Addr} {i : Nat} {σ2 : L2.St} {H1 H2 : Hp} (hD : H1 Dl = none) (p1 : Ex H1 H2) {kvs : List (Key × V)} (p2 : H2 Dl = some (.dK kvs)) (p3 : AsD K (but H2 Dl) kvs (putD i k w)) (hi : i < 50000) (hn : noL (w i) = true)
    (w3 : EvT t σ2 H1 true) (w4 : Ev tk σ2 H1 (kV (k i))) (w5 : EvD K tv σ2 H1 (w i)) : t σ2 H2 fun b H3 => if b = true then tk σ2 H3 fun y H4 => tv σ2 H4 fun z H5 => ∃ kvs k', y = kV k' ∧ H5 Dl = some (.dK kvs) ∧ kvs.length < sizeLine ∧
      (fun H' => Ex H1 H' ∧ ∃ kvs, H' Dl = some (.dK kvs) ∧ AsD K (but H' Dl) kvs (putD (i + 1) k w)) (upd H5 Dl (.dK (putK kvs k' z))) else (fun H' => Ex H1 H' ∧ ∃ kvs, H' Dl = some (.dK kvs) ∧ AsD K (but H' Dl) kvs (putD (i + 1) k w)) H3 :=
  w3 H2 p1 _ fun H3 e3 => by
    show tk σ2 H3 _
    refine w4 H3 (p1.trans e3) _ fun H4 e4 => w5 H4 ((p1.trans e3).trans e4) _ fun z H5 e5 hz => ⟨kvs, k i, rfl, e5 _ _ (e4 _ _ (e3 _ _ p2)), sz_lt ?_, Ex.mut (((p1.trans e3).trans e4).trans e5) hD, _, upd_same, ?_⟩
    · have h1 := putD_len k w i
      have h2 := p3.len
      omega
    · rw [putD_succ, but_put]
      exact (p3.ex (but_mono ((e3.trans e4).trans e5))).put (dp_butF (e5 _ _ (e4 _ _ (e3 _ _ p2))) free_dK hn hz)
theorem ekd_dc {b : Bool} {ds : List PyData} (k : Nat → Key) (w : Nat → PyData) (h : EvD K tl σ H (seqD b ds)) (hz : ds.length ≤ 40000) (hn : ∀ i, noL (w i) = true)
    (hg : ∀ (i : Nat) (x : V) (d : PyData) H1, Ex H H1 → ds[i]? = some d → Dp K H1 x d → ∃ σ2, wipe σ2 vs = wipe σ vs ∧ GoesTo g x (wipe σ vs) σ2 H1 ∧ EvT t σ2 H1 true ∧ Ev tk σ2 H1 (kV (k i)) ∧ EvD K tv σ2 H1 (w i)) :
    EvKD K (tEi (tDc (iTup K tl) g t tk tv vs) (tDc (iList K tl) g t tk tv vs)) σ H (putD ds.length k w) := by
  cases b with
  | false =>
    refine fun H0 e Q q => .inl (h H0 e _ fun a0 H1 e1 hd => ?_)
    cases hd with
    | @tup a xs _ hs hall =>
      have hlen := dpa_len hall
      refine ⟨a, rfl, ⟨xs, hs⟩, fun Dl hD => ?_⟩
      refine ⟨fun i m H => m = xs.length - i ∧ i ≤ xs.length ∧ (Ex H1 H ∧ ∃ kvs, H Dl = some (.dK kvs) ∧ AsD K (but H Dl) kvs (putD i k w)), ⟨xs.length, by simp, Nat.zero_le _, Ex.new hD, [], upd_same, .nil⟩, ?_⟩
      rintro i m H2 ⟨rfl, hi, p1, kvs, p2, p3⟩
      by_cases hlt : i < xs.length
      · refine .inr ⟨⟨xs, xs[i], ex_t p1 hs, by simp [hlt]⟩, fun H' => Ex H1 H' ∧ ∃ kvs, H' Dl = some (.dK kvs) ∧ AsD K (but H' Dl) kvs (putD (i + 1) k w), fun H' p' => ⟨xs.length - (i + 1), by omega, rfl, hlt, p'⟩, fun x H' y => ?_⟩
        obtain ⟨e2, y⟩ := y
        subst e2
        obtain ⟨d, hi2, hxd⟩ := dpa_get hall (y xs (ex_t p1 hs))
        obtain ⟨σ2, w1, w2, w3, w4, w5⟩ := hg i x d H1 (e.trans e1) hi2 hxd
        exact w2 _ _ p1 ⟨w1, kd_turn hD p1 p2 p3 (by omega) (hn i) w3 w4 w5⟩
      · have e3 : i = xs.length := by omega
        subst e3
        rw [hlen] at p3
        exact .inl ⟨⟨xs, ex_t p1 hs, Nat.le_refl _⟩, q Dl kvs H2 (fresh_back e1 hD) (e1.trans p1) p2 p3⟩
  | true =>
    refine fun H0 e Q q => .inr (h H0 e _ fun a0 H1 e1 hd => ?_)
    cases hd with
    | @lst a xs _ hs hall =>
      have hlen := dpa_len hall
      refine ⟨a, rfl, ⟨xs, hs⟩, fun Dl hD => ?_⟩
      refine ⟨fun i m H => m = xs.length - i ∧ i ≤ xs.length ∧ (Ex H1 H ∧ ∃ kvs, H Dl = some (.dK kvs) ∧ AsD K (but H Dl) kvs (putD i k w)), ⟨xs.length, by simp, Nat.zero_le _, Ex.new hD, [], upd_same, .nil⟩, ?_⟩
      rintro i m H2 ⟨rfl, hi, p1, kvs, p2, p3⟩
      by_cases hlt : i < xs.length
      · refine .inr ⟨⟨xs, xs[i], ex_l p1 hs, by simp [hlt]⟩, fun H' => Ex H1 H' ∧ ∃ kvs, H' Dl = some (.dK kvs) ∧ AsD K (but H' Dl) kvs (putD (i + 1) k w), fun H' p' => ⟨xs.length - (i + 1), by omega, rfl, hlt, p'⟩, fun x H' y => ?_⟩
        obtain ⟨e2, y⟩ := y
        subst e2
        obtain ⟨d, hi2, hxd⟩ := dpa_get hall (y xs (ex_l p1 hs))
        obtain ⟨σ2, w1, w2, w3, w4, w5⟩ := hg i x d H1 (e.trans e1) hi2 hxd
        exact w2 _ _ p1 ⟨w1, kd_turn hD p1 p2 p3 (by omega) (hn i) w3 w4 w5⟩
      · have e3 : i = xs.length := by omega
        subst e3
        rw [hlen] at p3
        exact .inl ⟨⟨xs, ex_l p1 hs, Nat.le_refl _⟩, q Dl kvs H2 (fresh_back e1 hD) (e1.trans p1) p2 p3⟩
end
/-! ### either of two statements; the rules with the written part named -/
section
variable {X : Cx} {K : PySem.W.Frag}
def tSi (a b : TS) : TS := fun D σ H => a D σ H ∨ b D σ H
theorem ps_ei {st : Stmt} {a b : TS} (h1 : PS X st a) (h2 : PS X st b) : PS X st (tSi a b) := ⟨fun pins s σ H D I h => h.elim (h1.run pins s σ H D I) (h2.run pins s σ H D I)⟩
theorem pe_revLK (h : X.K = K) {e : Expr} {te : TE} {k : Nat} {p1 p2 p3 pos : Pos} (he : PE X e te) : PE X (.Subscript e (.Slice none none (some (.UnaryOp .USub (.Constant (.int 1) k p1) p2)) p3) pos) (tRevL K te) := h ▸ pe_revL he
end
end Vf
end
section
set_option Elab.async false
set_option linter.all false
set_option maxRecDepth 100000
set_option maxHeartbeats 4000000
namespace Vf
open PySem PySem.Spec PyProof.Rows L2 Evl
/-! ### the text by places -/
def topS (i : Nat) : Stmt := PySem.Challenge.pw_startnow_k39_designs_put_together.main.body.getD i (.Pass ⟨0, 0, 0, 0⟩)
/-- what the module's names hold that no def is -/
structure Txt (mg : Str → Option Value) (tg : Tok) : Prop where
  GO : mg "GO" = some (.str "go" tg)
  len : mg "len" = none
  isinstance : mg "isinstance" = none
  all : mg "all" = none
  range : mg "range" = none
  zip : mg "zip" = none
  int : mg "int" = none
  bool : mg "bool" = none
  str : mg "str" = none
  tuple : mg "tuple" = none
  list : mg "list" = none
  abs : mg "abs" = none
  max : mg "max" = none
  min : mg "min" = none
  sorted : mg "sorted" = none
  dict : mg "dict" = none
  reversed : mg "reversed" = none
  enumerate : mg "enumerate" = none
  sum : mg "sum" = none
/-! ### the mathematics: what the program says of data -/
def isInt : PyData → Bool | .int _ => true | _ => false
def isMom : PyData → Bool | .int i => decide (0 ≤ i) | _ => false
def isPlace (es : List Str) : PyData → Bool | .str x => decide (x = "go") || decide (x ∈ es) | _ => false
def ascD : List PyData → Bool
  | a :: b :: r => PySem.W.dataLt a b && ascD (b :: r)
  | _ => true
def letters (x : Str) : Bool := x.cps.toList.all fun c => decide (97 ≤ c) && decide (c ≤ 122)
def isName : PyData → Bool
  | .str x => !decide (x = "go") && ((decide (1 ≤ (x.length : Int)) && decide ((x.length : Int) ≤ 8)) && letters x)
  | _ => false
def isEvents : PyData → Bool | .tuple ds => ds.all isName && ascD ds | _ => false
theorem asc_eq : ∀ ds : List PyData, (((List.range (ds.length - 1)).map fun i => PySem.W.dataLt (ds.getD i .none) (ds.getD (i + 1) .none)).all id) = ascD ds
  | [] => rfl
  | [_] => rfl
  | a :: b :: r => by
    have ih := asc_eq (b :: r)
    show (((List.range (r.length + 1)).map fun i => PySem.W.dataLt ((a :: b :: r).getD i .none) ((a :: b :: r).getD (i + 1) .none)).all id) = (PySem.W.dataLt a b && ascD (b :: r))
    rw [List.range_succ_eq_map, List.map_cons, List.all_cons, List.map_map, ← ih]
    rfl
theorem givenD_bools (n : Nat) (b : Nat → Bool) : givenD n (fun _ => true) (fun i => .bool (b i)) = ((List.range n).map b).map PyData.bool := by
  unfold givenD
  rw [List.filter_eq_self.mpr (fun _ _ => rfl), List.map_map]
  rfl
theorem givenD_all (ds : List PyData) (f : PyData → Bool) : givenD ds.length (fun _ => true) (fun i => .bool (f (ds.getD i .none))) = (ds.map f).map PyData.bool := by
  rw [givenD_bools]
  congr 1
  refine List.ext_getElem (by simp) fun i h1 h2 => ?_
  have h3 : i < ds.length := by simpa using h2
  simp [List.getD, h3]
theorem all_id (ds : List PyData) (f : PyData → Bool) : (ds.map f).all id = ds.all f := by
  rw [List.all_map]
  rfl
/-- what `ascends` asks of its rows -/
def AscOk (ds : List PyData) : Prop := ds.length ≤ 30000 ∧ ∀ x ∈ ds, ∀ y ∈ ds, PySem.W.alike x y = true ∧ x ≠ .none ∧ x.depth ≤ 64
/-- the texts of names -/
def Knows (K : PySem.W.Frag) (H : Hp) (v : V) (es : List Str) : Prop := ∃ a, v = .ref a ∧ ((∃ kvs, H a = some (.dK kvs) ∧ ∀ x : Str, (valV kvs (.inr x)).isSome = decide (x ∈ es)) ∨ SqT K H a (es.map V.str))
theorem knows_ex {K : PySem.W.Frag} {H H' : Hp} {v : V} {es : List Str} (e : Ex H H') (h : Knows K H v es) : Knows K H' v es := by
  obtain ⟨a, rfl, h⟩ := h
  refine ⟨a, rfl, ?_⟩
  rcases h with ⟨kvs, h1, h2⟩ | h
  · exact .inl ⟨kvs, e _ _ h1, h2⟩
  · exact .inr (ex_t e h)
theorem inV_strs (x : Str) : ∀ es : List Str, inV (.str x) (es.map V.str) = decide (x ∈ es)
  | [] => rfl
  | y :: r => by
    have ih := inV_strs x r
    unfold inV at ih ⊢
    rw [List.map_cons, List.any_cons, ih]
    have e1 : eqV (.str y) (.str x) = decide (y = x) := by
      show (y == x) = decide (y = x)
      by_cases h : y = x
      · subst h; simp
      · rw [decide_eq_false h]; exact beq_eq_false_iff_ne.mpr h
    rw [e1]
    by_cases h : y = x
    · subst h; simp
    · have h' : ¬ x = y := fun z => h z.symm
      by_cases h2 : x ∈ r <;> simp [h, h', h2]
theorem flat_strs : ∀ es : List Str, (es.map V.str).all flatV = true
  | [] => rfl
  | _ :: r => by rw [List.map_cons, List.all_cons, flat_strs r]; rfl
/-! ### promises -/
abbrev D1 (K : PySem.W.Frag) (ok : PyData → Prop) (f : PyData → Bool) : Sp := fun vs H Q _ => ∃ v d, vs = [v] ∧ Dp K H v d ∧ ok d ∧ RetV (.bl (f d)) H Q
abbrev D2 (K : PySem.W.Frag) (ok : List Str → PyData → Prop) (f : List Str → PyData → Bool) : Sp := fun vs H Q _ => ∃ u v es d, vs = [u, v] ∧ Knows K H u es ∧ Dp K H v d ∧ ok es d ∧ RetV (.bl (f es d)) H Q
abbrev spAsc (K : PySem.W.Frag) : Sp := fun vs H Q _ => ∃ v b ds, vs = [v] ∧ Dp K H v (seqD b ds) ∧ AscOk ds ∧ RetV (.bl (ascD ds)) H Q
theorem spv1 {K : PySem.W.Frag} {ok : PyData → Prop} {f : PyData → Bool} {v : V} {d : PyData} {H : Hp} (h : Dp K H v d) (hk : ok d) : SpV (D1 K ok f) [v] H (.bl (f d)) := fun H1 e Q q E => ⟨v, d, rfl, dp_ex e h, hk, q⟩
theorem spv2 {K : PySem.W.Frag} {ok : List Str → PyData → Prop} {f : List Str → PyData → Bool} {u v : V} {es : List Str} {d : PyData} {H : Hp} (hu : Knows K H u es) (h : Dp K H v d) (hk : ok es d) : SpV (D2 K ok f) [u, v] H (.bl (f es d)) := fun H1 e Q q E => ⟨u, v, es, d, rfl, knows_ex e hu, dp_ex e h, hk, q⟩
theorem spvA {K : PySem.W.Frag} {v : V} {b : Bool} {ds : List PyData} {H : Hp} (h : Dp K H v (seqD b ds)) (hk : AscOk ds) : SpV (spAsc K) [v] H (.bl (ascD ds)) := fun H1 e Q q E => ⟨v, b, ds, rfl, dp_ex e h, hk, q⟩
abbrev any : PyData → Prop := fun _ => True
abbrev any2 : List Str → PyData → Prop := fun _ _ => True
section
variable {P : Program} {w : World} {K : PySem.W.Frag} {mg : Str → Option Value} {base : Heap} {tg : Tok} {f : Addr} {fd : FuncData}
/-! ### is_integer, is_moment, is_place -/
abbrev s_is_integer : Stmt := topS 14
theorem sc_is_integer : FnScope ["value"] ["value"] (defScope s_is_integer) := ⟨rfl, rfl, rfl, by decide +kernel, rfl, by decide +kernel, by decide +kernel⟩
theorem ok_is_integer (F : Fun K "is_integer" "is_integer" s_is_integer f fd) (T : Txt mg tg) : FnOk P w K mg base CX0 1 f fd ["value"] (D1 K any isInt) := by
  refine F.ok sc_is_integer (fun vs H Q E h => ?_) (fun cdv A outer s H vs Q E hr h => ?_)
  · obtain ⟨v, d, rfl, _⟩ := h
    rfl
  · obtain ⟨v, d, rfl, hd, _, q⟩ := h
    refine ⟨_, (pss_one (ps_ret (pe_and (pe_callB (call_isiK' (K := K) rfl) (by rfl) T.isinstance (by decide +kernel) (pa_cons (pv 0) (pa_cons (pe_bltn (v := .ty "int") (u := .type "int") (by rfl) T.int (by decide +kernel) rfl) pa_nil))) (pe_one (pe_not (pe_callB (call_isiK' (K := K) rfl) (by rfl) T.isinstance (by decide +kernel) (pa_cons (pv 0) (pa_cons (pe_bltn (v := .ty "bool") (u := .type "bool") (by rfl) T.bool (by decide +kernel) rfl) pa_nil)))))))), ?_⟩
    refine s_ret (ev_is (ev_andV (ev_isi okT_int (ev_var rfl) hd) fun _ => ev_notV (ev_isi okT_bool (ev_var rfl) hd)) ?_) q
    rw [isT_int, isT_bool]
    cases d <;> rfl
abbrev s_is_moment : Stmt := topS 15
theorem sc_is_moment : FnScope ["value"] ["value"] (defScope s_is_moment) := ⟨rfl, rfl, rfl, by decide +kernel, rfl, by decide +kernel, by decide +kernel⟩
theorem ok_is_moment (F : Fun K "is_moment" "is_moment" s_is_moment f fd) (T : Txt mg tg) (C_is_integer : Cal P w K mg base 1 "is_integer" ["value"] (D1 K any isInt)) : FnOk P w K mg base CX0 2 f fd ["value"] (D1 K any isMom) := by
  refine F.ok sc_is_moment (fun vs H Q E h => ?_) (fun cdv A outer s H vs Q E hr h => ?_)
  · obtain ⟨v, d, rfl, _⟩ := h
    rfl
  · obtain ⟨v, d, rfl, hd, _, q⟩ := h
    refine ⟨_, (pss_one (ps_ret (pe_and (pe_cal C_is_integer (by first | exact hr | exact hr.mono (by decide)) (by rfl) (pa_cons (pv 0) pa_nil)) (pe_one (pe_cmpR op_ge (pv 0) pe_int (nomark _)))))), ?_⟩
    refine s_ret (ev_is (ev_andV (b := isMom d) (ev_call (ea_cons (ev_var rfl) ea_nil) (spv1 hd trivial)) fun e => ?_) ?_) q
    · cases d <;> cases e
      cases hd
      exact ev_op (ev_var rfl) ev_c rv_I0
    · cases d <;> rfl
abbrev s_is_place : Stmt := topS 16
theorem sc_is_place : FnScope ["events", "value"] ["events", "value"] (defScope s_is_place) := ⟨rfl, rfl, rfl, by decide +kernel, rfl, by decide +kernel, by decide +kernel⟩
theorem ev_knows {tb te : TE} {σ : L2.St} {H : Hp} {u : V} {x : Str} {es : List Str} (ha : Ev te σ H u) (hx : Ev tb σ H (.str x)) (h : Knows K H u es) : Ev (tEi (tDIn tb te) (tOp (rIn K false) tb te)) σ H (.bl (decide (x ∈ es))) := by
  obtain ⟨a, rfl, h⟩ := h
  rcases h with ⟨kvs, h1, h2⟩ | h
  · exact ev_ei1 (ev_din (k := .inr x) hx ha h1 (h2 x))
  · refine ev_ei2 (ev_is (ev_op hx ha (rv_isT h rfl (flat_strs es))) ?_)
    rw [inV_strs]
theorem ok_is_place (F : Fun K "is_place" "is_place" s_is_place f fd) (T : Txt mg tg) : FnOk P w K mg base CX0 1 f fd ["events", "value"] (D2 K any2 isPlace) := by
  refine F.ok sc_is_place (fun vs H Q E h => ?_) (fun cdv A outer s H vs Q E hr h => ?_)
  · obtain ⟨u, v, es, d, rfl, _⟩ := h
    rfl
  · obtain ⟨u, v, es, d, rfl, hu, hd, _, q⟩ := h
    refine ⟨_, (pss_one (ps_ret (pe_and (pe_callB (call_isiK' (K := K) rfl) (by rfl) T.isinstance (by decide +kernel) (pa_cons (pv 1) (pa_cons (pe_bltn (v := .ty "str") (u := .type "str") (by rfl) T.str (by decide +kernel) rfl) pa_nil))) (pe_one (pe_or (pe_cmpR op_eq (pv 1) (pe_glob (v := .str "go") (by rfl) T.GO ⟨_, rfl⟩) (nomark _)) (pe_one (pe_ei (pe_cmp (pc_din (hu_of hr) (pv 1) (pv 0)) rfl) (pe_cmpR (op_in_seqK (K := K) rfl) (pv 1) (pv 0) (by rfl))))))))), ?_⟩
    refine s_ret (ev_is (ev_andV (b := isPlace es d) (ev_isi okT_str (ev_var rfl) hd) fun e => ?_) ?_) q
    · rw [isT_str] at e
      cases d <;> cases e
      cases hd
      refine ev_orV (ev_opD (K := K) (ed_of (ev_var rfl) (.str _)) (ed_of ev_c (.str _)) rd_eqS) fun _ => ?_
      exact ev_knows (ev_var rfl) (ev_var rfl) hu
    · rw [isT_str]
      cases d <;> rfl
/-! ### ascends, is_name, are_events -/
abbrev s_ascends : Stmt := topS 17
theorem sc_ascends : FnScope ["rows", "k"] ["rows"] (defScope s_ascends) := ⟨rfl, rfl, rfl, by decide +kernel, rfl, by decide +kernel, by decide +kernel⟩
theorem ok_ascends (F : Fun K "ascends" "ascends" s_ascends f fd) (T : Txt mg tg) : FnOk P w K mg base CX0 1 f fd ["rows"] (spAsc K) := by
  refine F.ok sc_ascends (fun vs H Q E h => ?_) (fun cdv A outer s H vs Q E hr h => ?_)
  · obtain ⟨v, b, ds, rfl, _⟩ := h
    rfl
  · obtain ⟨v, b, ds, rfl, hd, ⟨hz, ho⟩, q⟩ := h
    refine ⟨_, (pss_one (ps_ret (pe_callB (cr_allK (K := K) rfl rfl) (by rfl) T.all (by decide +kernel) (pa_cons (pe_lc (own := [("k", 1)]) rfl sc_ascends.nd (pi_range1 rfl T.range (pa_cons (pe_op op_sub (pe_callB (call_len_seqK (K := K) rfl) (by rfl) T.len (by decide +kernel) (pa_cons (pv 0) pa_nil)) pe_int) pa_nil)) (blkOk_by (own := [("k", 1)]) (N := ["rows", "k"]) (sc := defScope s_ascends) (by decide +kernel)) (fun _ _ _ _ _ => (pg_name (i := 1) sc_ascends.nd rfl (Or.inl rfl))) (fun _ _ _ _ _ => pts_nil) (fun _ _ _ _ _ => (pe_cmpR (op_ltDK (K := K) rfl (hu64 hr)) (pe_ix (ix_seqK (K := K) rfl) (pv 0) (pv 1) (fun _ _ => rfl)) (pe_ix (ix_seqK (K := K) rfl) (pv 0) (pe_op op_add (pv 1) pe_int) (fun _ _ => rfl)) (nomark _)))) pa_nil)))), ?_⟩
    have hn : ((ds.length : Int) - 1).toNat = ds.length - 1 := by omega
    refine s_ret (ev_is (ev_all (bs := ((List.range (ds.length - 1)).map fun i => PySem.W.dataLt (ds.getD i .none) (ds.getD (i + 1) .none))) ?_) (by rw [asc_eq])) q
    rw [← givenD_bools]
    refine ed_n (en_lcR (ds.length - 1) (fun _ => true) (fun i => .bool (PySem.W.dataLt (ds.getD i .none) (ds.getD (i + 1) .none))) (ea_cons (ev_op (ev_lenSeq (ed_of (ev_var rfl) hd)) ev_c rv_I0) ea_nil) hn (by omega) (fun _ _ => rfl) fun i H1 e1 hi => ?_)
    refine ⟨_, ?_, goes_name, fun H1 e Q q => q H1 (Ex.refl H1), fun _ => ?_⟩
    · rfl
    have g1 : ds[i]? = some (ds.getD i .none) := by simp [List.getD, show i < ds.length by omega]
    have g2 : ds[i + 1]? = some (ds.getD (i + 1) .none) := by simp [List.getD, show i + 1 < ds.length by omega]
    have m1 := List.mem_of_getElem? g1
    have m2 := List.mem_of_getElem? g2
    obtain ⟨o1, o2, o3⟩ := ho _ m1 _ m2
    refine ed_of (ev_opD (ed_ixS i (ed_of (ev_var rfl) (dp_ex e1 hd)) (ev_var rfl) rfl g1) (ed_ixS (i + 1) (ed_of (ev_var rfl) (dp_ex e1 hd)) (ev_op (ev_var rfl) ev_c rv_I0) (by simp) g2) (rd_ltD o1 o2 o3)) (.bl _)
end
end Vf
end
section
set_option Elab.async false
set_option linter.all false
set_option maxRecDepth 100000
set_option maxHeartbeats 4000000
namespace Vf
open PySem PySem.Spec PyProof.Rows L2 Evl
/-! ### is_name -/
def nmOk : PyData → Prop := fun d => ∀ x, d = .str x → x.cps.size ≤ 30000
theorem lt_one (a b : Nat) : decide (([a] : List Nat) < [b]) = decide (a < b) := by
  by_cases h : a < b
  · rw [decide_eq_true h]; exact decide_eq_true (List.Lex.rel h)
  · rw [decide_eq_false h]
    refine decide_eq_false fun z => ?_
    cases z with
    | rel h2 => exact h h2
    | cons h2 => cases h2
theorem cps_a : ("a" : Str).cps.toList = [97] := by decide +kernel
theorem cps_z : ("z" : Str).cps.toList = [122] := by decide +kernel
theorem letters_eq (x : Str) : (((List.range x.cps.size).map fun i => decide (97 ≤ x.cps.getD i 0) && decide (x.cps.getD i 0 ≤ 122)).all id) = letters x := by
  unfold letters
  rw [Bool.eq_iff_iff]
  simp only [List.all_map, List.all_eq_true, List.mem_range, Function.comp_apply, id_eq]
  constructor
  · intro h c hc
    obtain ⟨i, hi, e⟩ := List.getElem_of_mem hc
    have h2 := h i (by simpa using hi)
    have e2 : x.cps.getD i 0 = c := by
      rw [← e]
      simp [Array.getD, show i < x.cps.size by simpa using hi]
    rw [e2] at h2
    exact h2
  · intro h i hi
    refine h _ ?_
    have e2 : x.cps.getD i 0 = x.cps[i] := by simp [Array.getD, hi]
    rw [e2]
    exact Array.mem_toList_iff.mpr (Array.getElem_mem hi)
section
variable {P : Program} {w : World} {K : PySem.W.Frag} {mg : Str → Option Value} {base : Heap} {tg : Tok} {f : Addr} {fd : FuncData}
abbrev s_is_name : Stmt := topS 18
theorem sc_is_name : FnScope ["value", "letter"] ["value"] (defScope s_is_name) := ⟨rfl, rfl, rfl, by decide +kernel, rfl, by decide +kernel, by decide +kernel⟩
theorem ok_is_name (F : Fun K "is_name" "is_name" s_is_name f fd) (T : Txt mg tg) : FnOk P w K mg base CX0 1 f fd ["value"] (D1 K nmOk isName) := by
  refine F.ok sc_is_name (fun vs H Q E h => ?_) (fun cdv A outer s H vs Q E hr h => ?_)
  · obtain ⟨v, d, rfl, _⟩ := h
    rfl
  · obtain ⟨v, d, rfl, hd, hk, q⟩ := h
    refine ⟨_, (pss_cons (ps_if (PW.pt (pw_or (pt_not (pt_val (pe_callB (call_isiK' (K := K) rfl) (by rfl) T.isinstance (by decide +kernel) (pa_cons (pv 0) (pa_cons (pe_bltn (v := .ty "str") (u := .type "str") (by rfl) T.str (by decide +kernel) rfl) pa_nil))))) (pw_or1 (pt_cmpR op_eq (pv 0) (pe_glob (v := .str "go") (by rfl) T.GO ⟨_, rfl⟩) (nomark _))))) (pss_one (ps_ret pe_bl)) pss_nil) (pss_one (ps_ret (pe_and (pe_chain op_le op_le pe_int (pe_callB call_len_str (by rfl) T.len (by decide +kernel) (pa_cons (pv 0) pa_nil)) pe_int) (pe_one (pe_callB (cr_allK (K := K) rfl rfl) (by rfl) T.all (by decide +kernel) (pa_cons (pe_lc (own := [("letter", 1)]) rfl sc_is_name.nd (pi_str (pv 0)) (blkOk_by (own := [("letter", 1)]) (N := ["value", "letter"]) (sc := defScope s_is_name) (by decide +kernel)) (fun _ _ _ _ _ => (pg_name (i := 1) sc_is_name.nd rfl (Or.inl rfl))) (fun _ _ _ _ _ => pts_nil) (fun _ _ _ _ _ => (pe_chain op_leStr op_leStr pe_str (pv 1) pe_str))) pa_nil))))))), ?_⟩
    cases hs : isT "str" d with
    | false =>
      refine q_when (b := true) (et_is (et_or (b := true) (et_not (et_B (ev_isi okT_str (ev_var rfl) hd))) fun h => ?_) (by rw [hs]; rfl)) (fun _ H1 e1 => s_ret ev_c fun H2 e2 => ?_) (fun h => nomatch h)
      · rw [hs] at h
        cases h
      · have e : isName d = false := by
          rw [isT_str] at hs
          cases d <;> first | rfl | cases hs
        rw [e] at q
        exact q H2 (e1.trans e2)
    | true =>
      rw [isT_str] at hs
      cases d <;> cases hs
      rename_i x
      cases hd
      refine q_when (et_is (b := decide (x = "go")) (et_or (et_not (et_B (ev_isi okT_str (ev_var rfl) (.str x)))) fun _ => et_test (ev_opD (K := K) (ed_of (ev_var rfl) (.str x)) (ed_of ev_c (.str _)) rd_eqS)) ?_) (fun hb H1 e1 => s_ret ev_c fun H2 e2 => ?_) (fun hb H1 e1 => ?_)
      · rw [isT_str]; rfl
      · have e : isName (.str x) = false := by
          show (!decide (x = "go") && _) = false
          rw [hb]
          rfl
        rw [e] at q
        exact q H2 (e1.trans e2)
      · have hz := hk x rfl
        have e : isName (.str x) = ((decide (1 ≤ (x.length : Int)) && decide ((x.length : Int) ≤ 8)) && letters x) := by
          show (!decide (x = "go") && _) = _
          rw [hb]
          rfl
        rw [e] at q
        refine s_ret (ev_andV (ev_chain (K := K) (ed_of ev_c (.int 1)) (ed_of (ev_lenStr (ev_var rfl) (show x.cps.size ≤ 100000 by omega)) (.int _)) rd_I0 (fun _ => ed_of ev_c (.int 8)) fun _ => rd_I0) fun _ => ?_) fun H2 e2 => q H2 (e1.trans e2)
        refine ev_is (ev_all (bs := ((List.range x.cps.size).map fun i => decide (97 ≤ x.cps.getD i 0) && decide (x.cps.getD i 0 ≤ 122))) ?_) (by rw [letters_eq])
        rw [← givenD_bools]
        refine ed_n (en_lcS (fun _ => true) _ (ev_var rfl) (by omega) (fun _ _ => rfl) fun i c H2 e2 hc => ?_)
        refine ⟨_, ?_, goes_name, fun H1 e Q q => q H1 (Ex.refl H1), fun _ => ?_⟩
        · rfl
        have ec : x.cps.getD i 0 = c := by
          have hi : i < x.cps.size := (Array.getElem?_eq_some_iff.mp hc).1
          rw [Array.getD_eq_getD_getElem?, hc]
          rfl
        refine ed_of (ev_is (ev_chain (K := K) (b := decide (97 ≤ c)) (c := decide (c ≤ 122)) (ed_of ev_c (.str _)) (ed_of (ev_var rfl) (.str _)) ?_ (fun _ => ed_of ev_c (.str _)) fun _ => ?_) (by rw [ec])) (.bl _)
        · have g := rd_leS (K := K) (H := H2) (a := "a") (b := (⟨#[c]⟩ : Str))
          rw [cps_a, show (⟨#[c]⟩ : Str).cps.toList = [c] from rfl, lt_one] at g
          have e3 : (!decide (c < 97)) = decide (97 ≤ c) := by
            by_cases h : c < 97
            · rw [decide_eq_true h, decide_eq_false (by omega)]; rfl
            · rw [decide_eq_false h, decide_eq_true (by omega)]; rfl
          rw [e3] at g
          exact g
        · have g := rd_leS (K := K) (H := H2) (a := (⟨#[c]⟩ : Str)) (b := "z")
          rw [cps_z, show (⟨#[c]⟩ : Str).cps.toList = [c] from rfl, lt_one] at g
          have e3 : (!decide (122 < c)) = decide (c ≤ 122) := by
            by_cases h : 122 < c
            · rw [decide_eq_true h, decide_eq_false (by omega)]; rfl
            · rw [decide_eq_false h, decide_eq_true (by omega)]; rfl
          rw [e3] at g
          exact g
/-! ### are_events -/
def evOk : PyData → Prop := fun d => ∀ ds, d = .tuple ds → ds.length ≤ 30000 ∧ ∀ x ∈ ds, nmOk x
theorem isName_str {d : PyData} (h : isName d = true) : ∃ x, d = .str x := by
  cases d <;> first | exact ⟨_, rfl⟩ | cases h
theorem ascOk_names {ds : List PyData} (hz : ds.length ≤ 30000) (h : ds.all isName = true) : AscOk ds := by
  rw [List.all_eq_true] at h
  refine ⟨hz, fun x hx y hy => ?_⟩
  obtain ⟨a, rfl⟩ := isName_str (h x hx)
  obtain ⟨b, rfl⟩ := isName_str (h y hy)
  refine ⟨by simp [PySem.W.alike], (by intro z; cases z), ?_⟩
  simp [PyData.depth]
abbrev s_are_events : Stmt := topS 19
theorem sc_are_events : FnScope ["value", "name"] ["value"] (defScope s_are_events) := ⟨rfl, rfl, rfl, by decide +kernel, rfl, by decide +kernel, by decide +kernel⟩
theorem ok_are_events (F : Fun K "are_events" "are_events" s_are_events f fd) (T : Txt mg tg) (C_is_name : Cal P w K mg base 1 "is_name" ["value"] (D1 K nmOk isName)) (C_ascends : Cal P w K mg base 1 "ascends" ["rows"] (spAsc K)) :
    FnOk P w K mg base CX0 2 f fd ["value"] (D1 K evOk isEvents) := by
  refine F.ok sc_are_events (fun vs H Q E h => ?_) (fun cdv A outer s H vs Q E hr h => ?_)
  · obtain ⟨v, d, rfl, _⟩ := h
    rfl
  · obtain ⟨v, d, rfl, hd, hk, q⟩ := h
    refine ⟨_, (pss_one (ps_ret (pe_and (pe_callB (call_isiK' (K := K) rfl) (by rfl) T.isinstance (by decide +kernel) (pa_cons (pv 0) (pa_cons (pe_bltn (v := .ty "tuple") (u := .type "tuple") (by rfl) T.tuple (by decide +kernel) rfl) pa_nil))) (pe_and (pe_callB (cr_allK (K := K) rfl rfl) (by rfl) T.all (by decide +kernel) (pa_cons (pe_lc (own := [("name", 1)]) rfl sc_are_events.nd (pi_tupK (K := K) rfl (pv 0)) (blkOk_by (own := [("name", 1)]) (N := ["value", "name"]) (sc := defScope s_are_events) (by decide +kernel)) (fun _ _ _ _ _ => (pg_name (i := 1) sc_are_events.nd rfl (Or.inl rfl))) (fun _ _ _ _ _ => pts_nil) (fun _ _ _ _ _ => (pe_cal C_is_name (by first | exact hr | exact hr.mono (by decide)) (by rfl) (pa_cons (pv 1) pa_nil)))) pa_nil)) (pe_one (pe_cal C_ascends (by first | exact hr | exact hr.mono (by decide)) (by rfl) (pa_cons (pv 0) pa_nil))))))), ?_⟩
    refine s_ret (ev_is (ev_andV (b := isEvents d) (ev_isi okT_tuple (ev_var rfl) hd) fun ht => ?_) ?_) q
    · rw [isT_tuple] at ht
      cases d <;> cases ht
      rename_i ds
      obtain ⟨hz, hn⟩ := hk ds rfl
      refine ev_andV (a := ds.all isName) ?_ fun ha => ev_call (ea_cons (ev_var rfl) ea_nil) (spvA (b := false) hd (ascOk_names hz ha))
      refine ev_is (ev_all (bs := ds.map isName) ?_) (by rw [all_id])
      rw [← givenD_all]
      refine ed_n (en_lcT (fun _ => true) _ (ed_of (ev_var rfl) hd) (by omega) (fun _ _ => rfl) fun i x d H1 e1 hi hx => ?_)
      refine ⟨_, ?_, goes_name, fun H1 e Q q => q H1 (Ex.refl H1), fun _ => ?_⟩
      · rfl
      rw [getD_of hi]
      exact ed_of (ev_call (ea_cons (ev_var rfl) ea_nil) (spv1 hx (hn d (List.mem_of_getElem? hi)))) (.bl _)
    · rw [isT_tuple]
      cases d <;> rfl
end
end Vf
end
section
set_option Elab.async false
set_option linter.all false
set_option maxRecDepth 100000
set_option maxHeartbeats 4000000
namespace Vf
open PySem PySem.Spec PyProof.Rows L2 Evl
/-! ### what the program says of bounds and tasks -/
def neS : PyData → PyData → Bool | .str a, .str b => !decide (a = b) | _, _ => true
def isBound (es : List Str) : PyData → Bool | .tuple [x, y, m] => isPlace es x && (isPlace es y && (neS x y && isInt m)) | _ => false
def isPair (es : List Str) : PyData → Bool | .tuple [x, y] => isPlace es x && (isPlace es y && neS x y) | _ => false
def cut2 : PyData → PyData | .tuple (x :: y :: _) => .tuple [x, y] | d => d
def areBounds (es : List Str) : PyData → Bool | .tuple ds => ds.all (isBound es) && ascD (ds.map cut2) | _ => false
def isTask (es : List Str) : PyData → Bool
  | .tuple [.str b, .str e, .int l, .int g] => decide (b ∈ es) && (decide (e ∈ es) && (decide (1 ≤ l) && decide (l ≤ g)))
  | _ => false
def seqOk : List Str → PyData → Prop := fun _ d => ∀ ds, d = .tuple ds → ds.length ≤ 30000
theorem isPlace_str {es : List Str} {d : PyData} (h : isPlace es d = true) : ∃ x, d = .str x := by
  cases d <;> first | exact ⟨_, rfl⟩ | cases h
theorem isBound_form {es : List Str} {d : PyData} (h : isBound es d = true) : ∃ x y m, d = .tuple [.str x, .str y, .int m] := by
  cases d <;> first | (cases h; done) | skip
  rename_i ds
  match ds, h with
  | [x, y, m], h =>
    have h' : (isPlace es x && (isPlace es y && (neS x y && isInt m))) = true := h
    simp only [Bool.and_eq_true] at h'
    obtain ⟨hx, hy, _, hm⟩ := h'
    obtain ⟨a, rfl⟩ := isPlace_str hx
    obtain ⟨b, rfl⟩ := isPlace_str hy
    cases m <;> first | exact ⟨a, b, _, rfl⟩ | cases hm
theorem isTask_form {es : List Str} {d : PyData} (h : isTask es d = true) : ∃ b e l g, d = .tuple [.str b, .str e, .int l, .int g] := by
  unfold isTask at h
  split at h
  · exact ⟨_, _, _, _, rfl⟩
  · cases h
theorem ascOk_bounds {es : List Str} {ds : List PyData} (hz : ds.length ≤ 30000) (h : ds.all (isBound es) = true) : AscOk (ds.map cut2) := by
  rw [List.all_eq_true] at h
  refine ⟨by simpa using hz, fun x hx y hy => ?_⟩
  obtain ⟨a, ha, rfl⟩ := List.mem_map.mp hx
  obtain ⟨b, hb, rfl⟩ := List.mem_map.mp hy
  obtain ⟨_, _, _, rfl⟩ := isBound_form (h a ha)
  obtain ⟨_, _, _, rfl⟩ := isBound_form (h b hb)
  refine ⟨by simp [cut2, PySem.W.alike, PySem.W.alikeAll], (by intro z; cases z), ?_⟩
  simp [cut2, PyData.depth, PyData.depthAll]
theorem ascOk_tasks {es : List Str} {ds : List PyData} (hz : ds.length ≤ 30000) (h : ds.all (isTask es) = true) : AscOk ds := by
  rw [List.all_eq_true] at h
  refine ⟨hz, fun x hx y hy => ?_⟩
  obtain ⟨_, _, _, _, rfl⟩ := isTask_form (h x hx)
  obtain ⟨_, _, _, _, rfl⟩ := isTask_form (h y hy)
  refine ⟨by simp [PySem.W.alike, PySem.W.alikeAll], (by intro z; cases z), ?_⟩
  simp [PyData.depth, PyData.depthAll]
theorem givenD_map (ds : List PyData) (f : PyData → PyData) : givenD ds.length (fun _ => true) (fun i => f (ds.getD i .none)) = ds.map f := by
  unfold givenD
  rw [List.filter_eq_self.mpr (fun _ _ => rfl)]
  refine List.ext_getElem (by simp) fun i h1 h2 => ?_
  have h3 : i < ds.length := by simpa using h2
  simp [List.getD, h3]
theorem isTupN_2 {d : PyData} (h : isTupN 2 d = true) : ∃ x y, d = .tuple [x, y] := by
  cases d <;> first | (cases h; done) | skip
  rename_i ds
  match ds, h with
  | [x, y], _ => exact ⟨x, y, rfl⟩
  | [], h => cases h
  | [_], h => cases h
  | _ :: _ :: _ :: _, h => simp [isTupN] at h
section
variable {K : PySem.W.Frag} {σ : L2.St} {H : Hp} {ta te : TE} {tz : TS} {D : Ends} {z : V}
theorem q_unp2 {i j : Nat} {d1 d2 : PyData} (h : EvD K te σ H (.tuple [d1, d2])) (k : ∀ v1 v2 H1, Ex H H1 → Dp K H1 v1 d1 → Dp K H1 v2 d2 → tz D ((σ.set i (some v1)).set j (some v2)) H1) :
    tSeq (tAsg te (gTup K 2 (gCons (gName i) (gCons (gName j) gNil)))) tz D σ H := h H (Ex.refl H) _ fun v H1 e hd => by
  cases hd with
  | tup hs ha =>
    cases ha with
    | cons h1 ha => cases ha with
      | cons h2 ha => cases ha; exact goes_tup2 hs _ H1 (Ex.refl H1) (k _ _ H1 e h1 h2)
/-- a call of a value and a datum -/
theorem ev_callVD {sp : Sp} {E : XK} {u : V} {d : PyData} (hu : Ev ta σ H u) (hd : EvD K te σ H d) (hs : ∀ H1 v, Ex H H1 → Dp K H1 v d → SpV sp [u, v] H1 z) : Ev (tCall sp [] E (tCons ta (tCons te tNil))) σ H z := fun H1 e Q q =>
  hu H1 e _ fun H2 e2 => hd H2 (e.trans e2) _ fun v H3 e3 hv => hs H3 v ((e.trans e2).trans e3) hv H3 (Ex.refl H3) Q (fun H4 e4 => q H4 ((e2.trans e3).trans e4)) E
end
section
variable {P : Program} {w : World} {K : PySem.W.Frag} {mg : Str → Option Value} {base : Heap} {tg : Tok} {f : Addr} {fd : FuncData}
abbrev s_is_pair : Stmt := topS 20
theorem sc_is_pair : FnScope ["events", "value", "x", "y"] ["events", "value"] (defScope s_is_pair) := ⟨rfl, rfl, rfl, by decide +kernel, rfl, by decide +kernel, by decide +kernel⟩
theorem ok_is_pair (F : Fun K "is_pair" "is_pair" s_is_pair f fd) (T : Txt mg tg) (C_is_place : Cal P w K mg base 1 "is_place" ["events", "value"] (D2 K any2 isPlace)) :
    FnOk P w K mg base CX0 2 f fd ["events", "value"] (D2 K any2 isPair) := by
  refine F.ok sc_is_pair (fun vs H Q E h => ?_) (fun cdv A outer s H vs Q E hr h => ?_)
  · obtain ⟨u, v, es, d, rfl, _⟩ := h
    rfl
  · obtain ⟨u, v, es, d, rfl, hu, hd, htr, q⟩ := h
    refine ⟨_, (pss_cons (ps_if (PW.pt (pw_or (pt_not (pt_val (pe_callB (call_isiK' (K := K) rfl) (by rfl) T.isinstance (by decide +kernel) (pa_cons (pv 1) (pa_cons (pe_bltn (v := .ty "tuple") (u := .type "tuple") (by rfl) T.tuple (by decide +kernel) rfl) pa_nil))))) (pw_or1 (pt_cmpR op_ne (pe_callB (call_len_seqK (K := K) rfl) (by rfl) T.len (by decide +kernel) (pa_cons (pv 1) pa_nil)) pe_int (nomark _))))) (pss_one (ps_ret pe_bl)) pss_nil) (pss_cons (ps_asg (pv 1) (pg_tupK (K := K) (n := 2) rfl rfl (pgs_cons (pg_name (i := 2) sc_is_pair.nd rfl (Or.inl rfl)) (pgs_cons (pg_name (i := 3) sc_is_pair.nd rfl (Or.inl rfl)) pgs_nil)))) (pss_one (ps_ret (pe_and (pe_cal C_is_place (by first | exact hr | exact hr.mono (by decide)) (by rfl) (pa_cons (pv 0) (pa_cons (pv 2) pa_nil))) (pe_and (pe_cal C_is_place (by first | exact hr | exact hr.mono (by decide)) (by rfl) (pa_cons (pv 0) (pa_cons (pv 3) pa_nil))) (pe_one (pe_cmpR op_ne (pv 2) (pv 3) (nomark _))))))))), ?_⟩
    refine q_when (et_tupN (n := 2) rfl (ev_var rfl) hd) (fun hb H1 e1 => s_ret ev_c fun H2 e2 => ?_) (fun hb H1 e1 => ?_)
    · have e : isPair es d = false := by
        have h1 : isTupN 2 d = false := by simpa using hb
        cases d <;> first | rfl | skip
        rename_i ds
        match ds, h1 with
        | [], _ => rfl
        | [_], _ => rfl
        | [_, _], h1 => cases h1
        | _ :: _ :: _ :: _, _ => rfl
      rw [e] at q
      exact q H2 (e1.trans e2)
    · obtain ⟨x, y, rfl⟩ := isTupN_2 (show isTupN 2 d = true by simpa using hb)
      refine q_unp2 (ed_of (ev_var rfl) (dp_ex e1 hd)) fun v1 v2 H2 e2 h1 h2 => ?_
      have hu2 := knows_ex (e1.trans e2) hu
      refine s_ret (ev_andV (b := isPlace es y && neS x y) (ev_call (ea_cons (ev_var rfl) (ea_cons (ev_var rfl) ea_nil)) (spv2 hu2 h1 trivial)) fun hx => ev_andV (b := neS x y) (ev_call (ea_cons (ev_var rfl) (ea_cons (ev_var rfl) ea_nil)) (spv2 hu2 h2 trivial)) fun hy => ?_) fun H3 e3 => q H3 ((e1.trans e2).trans e3)
      obtain ⟨a, rfl⟩ := isPlace_str hx
      obtain ⟨b, rfl⟩ := isPlace_str hy
      exact ev_opD (ed_of (ev_var rfl) h1) (ed_of (ev_var rfl) h2) rd_neS
abbrev s_is_bound : Stmt := topS 21
theorem sc_is_bound : FnScope ["events", "value"] ["events", "value"] (defScope s_is_bound) := ⟨rfl, rfl, rfl, by decide +kernel, rfl, by decide +kernel, by decide +kernel⟩
theorem ok_is_bound (F : Fun K "is_bound" "is_bound" s_is_bound f fd) (T : Txt mg tg) (C_is_pair : Cal P w K mg base 2 "is_pair" ["events", "value"] (D2 K any2 isPair)) (C_is_integer : Cal P w K mg base 1 "is_integer" ["value"] (D1 K any isInt)) :
    FnOk P w K mg base CX0 3 f fd ["events", "value"] (D2 K any2 isBound) := by
  refine F.ok sc_is_bound (fun vs H Q E h => ?_) (fun cdv A outer s H vs Q E hr h => ?_)
  · obtain ⟨u, v, es, d, rfl, _⟩ := h
    rfl
  · obtain ⟨u, v, es, d, rfl, hu, hd, htr, q⟩ := h
    refine ⟨_, (pss_cons (ps_if (PW.pt (pw_or (pt_not (pt_val (pe_callB (call_isiK' (K := K) rfl) (by rfl) T.isinstance (by decide +kernel) (pa_cons (pv 1) (pa_cons (pe_bltn (v := .ty "tuple") (u := .type "tuple") (by rfl) T.tuple (by decide +kernel) rfl) pa_nil))))) (pw_or1 (pt_cmpR op_ne (pe_callB (call_len_seqK (K := K) rfl) (by rfl) T.len (by decide +kernel) (pa_cons (pv 1) pa_nil)) pe_int (nomark _))))) (pss_one (ps_ret pe_bl)) pss_nil) (pss_one (ps_ret (pe_and (pe_cal C_is_pair (by first | exact hr | exact hr.mono (by decide)) (by rfl) (pa_cons (pv 0) (pa_cons (pe_slice (sl_tupK (K := K) rfl) (pv 1) po_none (po_some pe_int)) pa_nil))) (pe_one (pe_cal C_is_integer (by first | exact hr | exact hr.mono (by decide)) (by rfl) (pa_cons (pe_ix (ix_tupK (K := K) rfl) (pv 1) pe_int (fun _ _ => rfl)) pa_nil))))))), ?_⟩
    refine q_when (et_tupN (n := 3) rfl (ev_var rfl) hd) (fun hb H1 e1 => s_ret ev_c fun H2 e2 => ?_) (fun hb H1 e1 => ?_)
    · have e : isBound es d = false := by
        have h1 : isTupN 3 d = false := by simpa using hb
        cases d <;> first | rfl | skip
        rename_i ds
        match ds, h1 with
        | [], _ => rfl
        | [_], _ => rfl
        | [_, _], _ => rfl
        | [_, _, _], h1 => cases h1
        | _ :: _ :: _ :: _ :: _, _ => rfl
      rw [e] at q
      exact q H2 (e1.trans e2)
    · obtain ⟨x, y, m, rfl⟩ := isTupN_3 (show isTupN 3 d = true by simpa using hb)
      have hd1 := dp_ex e1 hd
      have hu1 := knows_ex e1 hu
      have ei : isBound es (.tuple [x, y, m]) = (isPair es (.tuple [x, y]) && isInt m) := by
        show (isPlace es x && (isPlace es y && (neS x y && isInt m))) = ((isPlace es x && (isPlace es y && neS x y)) && isInt m)
        simp only [Bool.and_assoc]
      rw [ei] at q
      refine s_ret (ev_andV (ev_callVD (d := .tuple [x, y]) (ev_var rfl) (ed_slT (hi := some 2) (ed_of (ev_var rfl) hd1) eo_none (eo_some ev_c) (by show ¬ (HT.sIx 3 0 none = 0 ∧ HT.sIx 3 3 (some 2) = 3); decide)) fun H2 v2 e2 h2 => spv2 (knows_ex e2 hu1) h2 trivial) fun _ => ev_callD (K := K) (eds_cons (ed_ixT 2 (ed_of (ev_var rfl) hd1) ev_c rfl rfl) eds_nil) fun H2 vs e2 hvs => ?_) fun H3 e3 => q H3 (e1.trans e3)
      cases hvs with
      | cons h1 hvs =>
        cases hvs
        exact spv1 h1 trivial
abbrev s_are_bounds : Stmt := topS 22
theorem sc_are_bounds : FnScope ["events", "value", "bound"] ["events", "value"] (defScope s_are_bounds) := ⟨rfl, rfl, rfl, by decide +kernel, rfl, by decide +kernel, by decide +kernel⟩
theorem ok_are_bounds (F : Fun K "are_bounds" "are_bounds" s_are_bounds f fd) (T : Txt mg tg) (C_is_bound : Cal P w K mg base 3 "is_bound" ["events", "value"] (D2 K any2 isBound)) (C_ascends : Cal P w K mg base 1 "ascends" ["rows"] (spAsc K)) :
    FnOk P w K mg base CX0 4 f fd ["events", "value"] (D2 K seqOk areBounds) := by
  refine F.ok sc_are_bounds (fun vs H Q E h => ?_) (fun cdv A outer s H vs Q E hr h => ?_)
  · obtain ⟨u, v, es, d, rfl, _⟩ := h
    rfl
  · obtain ⟨u, v, es, d, rfl, hu, hd, hk, q⟩ := h
    refine ⟨_, (pss_cons (ps_if (PW.pt (pw_or (pt_not (pt_val (pe_callB (call_isiK' (K := K) rfl) (by rfl) T.isinstance (by decide +kernel) (pa_cons (pv 1) (pa_cons (pe_bltn (v := .ty "tuple") (u := .type "tuple") (by rfl) T.tuple (by decide +kernel) rfl) pa_nil))))) (pw_or1 (pt_not (pt_val (pe_callB (cr_allK (K := K) rfl rfl) (by rfl) T.all (by decide +kernel) (pa_cons (pe_lc (own := [("bound", 2)]) rfl sc_are_bounds.nd (pi_tupK (K := K) rfl (pv 1)) (blkOk_by (own := [("bound", 2)]) (N := ["events", "value", "bound"]) (sc := defScope s_are_bounds) (by decide +kernel)) (fun _ _ _ _ _ => (pg_name (i := 2) sc_are_bounds.nd rfl (Or.inl rfl))) (fun _ _ _ _ _ => pts_nil) (fun _ _ _ _ _ => (pe_cal C_is_bound (by first | exact hr | exact hr.mono (by decide)) (by rfl) (pa_cons (pv 0) (pa_cons (pv 2) pa_nil))))) pa_nil))))))) (pss_one (ps_ret pe_bl)) pss_nil) (pss_one (ps_ret (pe_cal C_ascends (by first | exact hr | exact hr.mono (by decide)) (by rfl) (pa_cons (pe_lc (own := [("bound", 2)]) rfl sc_are_bounds.nd (pi_tupK (K := K) rfl (pv 1)) (blkOk_by (own := [("bound", 2)]) (N := ["events", "value", "bound"]) (sc := defScope s_are_bounds) (by decide +kernel)) (fun _ _ _ _ _ => (pg_name (i := 2) sc_are_bounds.nd rfl (Or.inl rfl))) (fun _ _ _ _ _ => pts_nil) (fun _ _ _ _ _ => (pe_slice (sl_tupK (K := K) rfl) (pv 2) po_none (po_some pe_int)))) pa_nil))))), ?_⟩
    cases hs : isT "tuple" d with
    | false =>
      refine q_when (b := true) (et_is (et_or (b := true) (et_not (et_B (ev_isi okT_tuple (ev_var rfl) hd))) fun h => ?_) (by rw [hs]; rfl)) (fun _ H1 e1 => s_ret ev_c fun H2 e2 => ?_) (fun h => nomatch h)
      · rw [hs] at h
        cases h
      · have e : areBounds es d = false := by
          rw [isT_tuple] at hs
          cases d <;> first | rfl | cases hs
        rw [e] at q
        exact q H2 (e1.trans e2)
    | true =>
      rw [isT_tuple] at hs
      cases d <;> cases hs
      rename_i ds
      have hz := hk ds rfl
      refine q_when (et_is (b := !ds.all (isBound es)) (et_or (et_not (et_B (ev_isi okT_tuple (ev_var rfl) hd))) fun _ => et_not (et_B (ev_is (ev_all (bs := ds.map (isBound es)) ?_) (by rw [all_id])))) ?_) (fun hb H1 e1 => s_ret ev_c fun H2 e2 => ?_) (fun hb H1 e1 => ?_)
      · rw [← givenD_all]
        refine ed_n (en_lcT (fun _ => true) _ (ed_of (ev_var rfl) hd) (by omega) (fun _ _ => rfl) fun i x d H1 e1 hi hx => ?_)
        refine ⟨_, ?_, goes_name, fun H1 e Q q => q H1 (Ex.refl H1), fun _ => ?_⟩
        · rfl
        rw [getD_of hi]
        exact ed_of (ev_call (ea_cons (ev_var rfl) (ea_cons (ev_var rfl) ea_nil)) (spv2 (knows_ex e1 hu) hx trivial)) (.bl _)
      · rw [isT_tuple]; rfl
      · have e : areBounds es (.tuple ds) = false := by
          have h1 : ds.all (isBound es) = false := by simpa using hb
          show (ds.all (isBound es) && _) = false
          rw [h1]
          rfl
        rw [e] at q
        exact q H2 (e1.trans e2)
      · have ha : ds.all (isBound es) = true := by
          cases h : ds.all (isBound es) with
          | true => rfl
          | false => rw [h] at hb; cases hb
        have e : areBounds es (.tuple ds) = ascD (ds.map cut2) := by
          show (ds.all (isBound es) && _) = _
          rw [ha]
          rfl
        rw [e] at q
        have hd1 := dp_ex e1 hd
        rw [List.all_eq_true] at ha
        refine s_ret (ev_callD (K := K) (eds_cons (d := .list (ds.map cut2)) (ed_n ?_) eds_nil) fun H2 vs e2 hv => ?_) fun H2 e2 => q H2 (e1.trans e2)
        · rw [← givenD_map]
          refine en_lcT (fun _ => true) _ (ed_of (ev_var rfl) hd1) (by omega) (fun i _ => ?_) fun i x d H2 e2 hi hx => ?_
          · by_cases hi : i < ds.length
            · have hm : ds.getD i .none ∈ ds := by
                simp [List.getD, hi]
              obtain ⟨_, _, _, e⟩ := isBound_form (ha _ hm)
              rw [e]
              rfl
            · have e : ds.getD i .none = .none := by simp [List.getD, hi]
              rw [e]
              rfl
          · refine ⟨_, ?_, goes_name, fun H1 e Q q => q H1 (Ex.refl H1), fun _ => ?_⟩
            · rfl
            rw [getD_of hi]
            obtain ⟨a, b, m, rfl⟩ := isBound_form (ha d (List.mem_of_getElem? hi))
            exact ed_slT (hi := some 2) (ed_of (ev_var rfl) hx) eo_none (eo_some ev_c) (by show ¬ (HT.sIx 3 0 none = 0 ∧ HT.sIx 3 3 (some 2) = 3); decide)
        · cases hv with
          | cons h1 h2 =>
            cases h2
            exact spvA (b := true) h1 (ascOk_bounds hz (List.all_eq_true.mpr ha))
end
end Vf
end
section
set_option Elab.async false
set_option linter.all false
set_option maxRecDepth 100000
set_option maxHeartbeats 4000000
namespace Vf
open PySem PySem.Spec PyProof.Rows L2 Evl
/-! ### going back from ends to begins -/
/-- going on from x one comes to what has no begin -/
inductive Out (kvs : List (Key × V)) : Str → Prop
  | stop {x : Str} : valV kvs (.inr x) = none → Out kvs x
  | step {x y : Str} : valV kvs (.inr x) = some (.str y) → Out kvs y → Out kvs x
def Rooted (kvs : List (Key × V)) : Prop := ∀ x, Out kvs x
/-- by one step or more -/
inductive Rp (kvs : List (Key × V)) : Str → Str → Prop
  | one {x y : Str} : valV kvs (.inr x) = some (.str y) → Rp kvs x y
  | more {x y z : Str} : valV kvs (.inr x) = some (.str y) → Rp kvs y z → Rp kvs x z
theorem Rp.snoc {kvs : List (Key × V)} {x y z : Str} (h : Rp kvs x y) (e : valV kvs (.inr y) = some (.str z)) : Rp kvs x z := by
  induction h with
  | one e1 => exact .more e1 (.one e)
  | more e1 _ ih => exact .more e1 (ih e)
theorem Out.irr {kvs : List (Key × V)} {x : Str} (h : Out kvs x) : ¬ Rp kvs x x := by
  induction h with
  | stop e =>
    intro r
    cases r with
    | one e1 => rw [e] at e1; cases e1
    | more e1 _ => rw [e] at e1; cases e1
  | @step x y e _ ih =>
    intro r
    refine ih ?_
    cases r with
    | one e1 =>
      rw [e] at e1
      cases e1
      exact .one e
    | more e1 r2 =>
      rw [e] at e1
      cases e1
      exact r2.snoc e
def StrD (kvs : List (Key × V)) : Prop := ∀ k v, (k, v) ∈ kvs → ∃ x y, k = .inr x ∧ v = .str y
theorem valV_mem {κ : Type} [DecidableEq κ] {kvs : List (κ × V)} {k : κ} {v : V} (h : valV kvs k = some v) : (k, v) ∈ kvs := by
  unfold valV at h
  cases e : kvs.find? (fun kv => decide (kv.1 = k)) with
  | none => rw [e] at h; cases h
  | some p =>
    rw [e] at h
    cases h
    have h1 := List.find?_some e
    have h2 := List.mem_of_find?_eq_some e
    obtain ⟨a, b⟩ := p
    have h3 : a = k := of_decide_eq_true h1
    subst h3
    exact h2
theorem valV_isSome {κ : Type} [DecidableEq κ] {kvs : List (κ × V)} {k : κ} {v : V} (h : (k, v) ∈ kvs) : (valV kvs k).isSome = true := by
  unfold valV
  rw [Option.isSome_map, List.find?_isSome]
  exact ⟨(k, v), h, decide_eq_true rfl⟩
/-- how many keys of kvs are not in wk -/
def left (kvs wk : List (Key × V)) : Nat := (kvs.filter fun p => (valV wk p.1).isNone).length
theorem filter_lt {α : Type} (p : α) (a b : α → Bool) (hab : ∀ x, b x = true → a x = true) (ha : a p = true) (hb : b p = false) : ∀ l : List α, p ∈ l → (l.filter b).length < (l.filter a).length
  | [], h => by cases h
  | x :: r, h => by
    have le : ∀ l : List α, (l.filter b).length ≤ (l.filter a).length := by
      intro l
      induction l with
      | nil => exact Nat.le_refl _
      | cons y s ih =>
        rw [List.filter_cons, List.filter_cons]
        cases hy : b y with
        | true => rw [if_pos rfl, if_pos (hab y hy), List.length_cons, List.length_cons]; omega
        | false =>
          rw [if_neg (by decide)]
          split
          · rw [List.length_cons]; omega
          · exact ih
    rw [List.filter_cons, List.filter_cons]
    by_cases hx : x = p
    · subst hx
      rw [if_neg (by rw [hb]; decide), if_pos ha, List.length_cons]
      have := le r
      omega
    · have h2 : p ∈ r := by
        cases h with
        | head => exact absurd rfl hx
        | tail _ h => exact h
      have ih := filter_lt p a b hab ha hb r h2
      cases hy : b x with
      | true => rw [if_pos rfl, if_pos (hab x hy), List.length_cons, List.length_cons]; omega
      | false =>
        rw [if_neg (by decide)]
        split
        · rw [List.length_cons]; omega
        · exact ih
theorem left_put {kvs wk : List (Key × V)} {k : Key} {v y : V} (h : valV kvs k = some v) (hn : valV wk k = none) : left kvs (putK wk k y) < left kvs wk := by
  unfold left
  refine filter_lt (k, v) (fun p => (valV wk p.1).isNone) (fun p => (valV (putK wk k y) p.1).isNone) (fun x hx => ?_) (by rw [hn]; rfl) (by rw [valV_put, if_pos rfl]; rfl) kvs (valV_mem h)
  rw [valV_put] at hx
  split at hx
  · cases hx
  · exact hx
abbrev spRoot : Sp := fun vs H Q _ => ∃ a kvs, vs = [.ref a] ∧ H a = some (.dK kvs) ∧ StrD kvs ∧ (kvs.map (·.1)).Nodup ∧ kvs.length ≤ 30000 ∧ RetV (.bl (@decide (Rooted kvs) (Classical.propDecidable _))) H Q
theorem spvR {H : Hp} {a : Addr} {kvs : List (Key × V)} (h : H a = some (.dK kvs)) (h1 : StrD kvs) (h2 : (kvs.map (·.1)).Nodup) (h3 : kvs.length ≤ 30000) : SpV spRoot [.ref a] H (.bl (@decide (Rooted kvs) (Classical.propDecidable _))) := fun H1 e Q q E =>
  ⟨a, kvs, rfl, e _ _ h, h1, h2, h3, q⟩
/-- behind i turns -/
structure Good (kvs wk : List (Key × V)) (i : Nat) : Prop where
  keys : ∀ j k v, j < i → kvs[j]? = some (k, v) → ∃ x, k = .inr x ∧ Out kvs x
  vals : ∀ x v, valV wk (.inr x) = some v → Out kvs x ∧ ∃ y, v = .str y ∧ ∃ j w, j < i ∧ kvs[j]? = some (.inr y, w)
  room : wk.length + left kvs wk ≤ kvs.length
/-- within the walk from e, which is at t now -/
structure Mid (kvs wk : List (Key × V)) (i : Nat) (e t : Str) : Prop where
  vals : ∀ x v, valV wk (.inr x) = some v → ∃ y, v = .str y ∧ ((y ≠ e ∧ Out kvs x ∧ ∃ j w, j < i ∧ kvs[j]? = some (.inr y, w)) ∨ (y = e ∧ (Out kvs t → Out kvs x) ∧ Rp kvs x t))
  start : Out kvs t → Out kvs e
  room : wk.length + left kvs wk ≤ kvs.length
section
variable {P : Program} {w : World} {K : PySem.W.Frag} {mg : Str → Option Value} {base : Heap} {tg : Tok} {f : Addr} {fd : FuncData}
abbrev s_is_rooted : Stmt := topS 24
theorem sc_is_rooted : FnScope ["begins", "walks", "end", "at"] ["begins"] (defScope s_is_rooted) := ⟨rfl, rfl, rfl, by decide +kernel, rfl, by decide +kernel, by decide +kernel⟩
theorem ok_is_rooted (F : Fun K "is_rooted" "is_rooted" s_is_rooted f fd) (T : Txt mg tg) : FnOk P w K mg base CX0 1 f fd ["begins"] spRoot := by
  refine F.ok sc_is_rooted (fun vs H Q E h => ?_) (fun cdv A outer s H vs Q E hr h => ?_)
  · obtain ⟨a, kvs, rfl, _⟩ := h
    rfl
  · obtain ⟨a, kvs, rfl, hd, hS, hN, hz, q⟩ := h
    refine ⟨_, (pss_cons (ps_set (i := 1) sc_is_rooted.nd rfl (Or.inl rfl) pe_dnewK) (pss_cons (ps_lock (ps_for PassesOwn.never rfl (pi_keys (pv 0)) (pg_name (i := 2) sc_is_rooted.nd rfl (Or.inl rfl)) (pss_cons (ps_set (i := 3) sc_is_rooted.nd rfl (Or.inl rfl) (pv 2)) (pss_cons (ps_while PassesOwn.never (PW.pt (pw_and (pt_cmp (pc_din (hu_of hr) (pv 3) (pv 0))) (pw_and1 (pt_cmp (pc_dnotin (hu_of hr) (pv 3) (pv 1)))))) (pss_cons (ps_dput (hu_of hr) (pv 1) (pv 3) (pv 2) rfl) (pss_one (ps_set (i := 3) sc_is_rooted.nd rfl (Or.inl rfl) (pe_dget (hu_of hr) (pv 0) (pv 3) (fun _ _ => rfl)))))) (pss_one (ps_if (PW.pt (pw_and (pt_cmp (pc_din (hu_of hr) (pv 3) (pv 0))) (pw_and1 (pt_cmpR op_eq (pe_dget (hu_of hr) (pv 1) (pv 3) (fun _ _ => rfl)) (pv 2) (nomark _))))) (pss_one (ps_ret pe_bl)) pss_nil)))))) (pss_one (ps_ret pe_bl)))), ?_⟩
    intro p hp
    have hpa : p ≠ a := fun z => by
      subst z
      rw [hd] at hp
      cases hp
    have e0 : Ex H (upd H p (.dK [])) := Ex.new hp
    refine ⟨a, .dK kvs, e0 _ _ hd, trivial, fun od => ?_⟩
    have hB : ∀ H', Ex (upd H a (.frz od (.dK kvs))) H' → Ex H (upd H' a (.dK kvs)) := fun H' e b o hb => by
      by_cases hba : b = a
      · subst hba
        rw [hd] at hb
        cases hb
        exact upd_same
      · rw [upd_ne hba]
        exact e b o (by rw [upd_ne hba]; exact hb)
    have hBp : (upd H a (.frz od (.dK kvs))) p = none := by rw [upd_ne hpa]; exact hp
    have hsw : upd (upd H p (.dK [])) a (.frz od (.dK kvs)) = upd (upd H a (.frz od (.dK kvs))) p (.dK []) := by
      funext b
      unfold upd
      by_cases h1 : b = a
      · subst h1
        rw [if_pos rfl, if_neg hpa.symm, if_pos rfl]
      · rw [if_neg h1, if_neg h1]
    show tFor _ _ _ _ _ (upd (upd H p (.dK [])) a (.frz od (.dK kvs)))
    rw [hsw]
    refine s_forKeys (o := od) (kvs := kvs) (d := a) (ev_var rfl) (by rw [upd_ne hpa.symm]; exact upd_same)
      (fun i σ' H' => ∃ wk x2 x3, σ' = [some (.ref a), some (.ref p), x2, x3] ∧ Ex (upd H a (.frz od (.dK kvs))) H' ∧ H' p = some (.dK wk) ∧ Good kvs wk i)
      (fun H1 e1 => ⟨[], none, none, rfl, (Ex.new hBp).trans e1, e1 _ _ upd_same, ⟨fun j k v hj _ => absurd hj (Nat.not_lt_zero _), fun x v h => (by cases h), ?_⟩⟩)
      (fun i σ' H' ⟨wk, x2, x3, _, e1, _⟩ => e1 _ _ upd_same) (fun i k v σ' H' hi ⟨wk, x2, x3, es, e1, hw, G⟩ => ?_) (fun σ' H' ⟨wk, x2, x3, es, e1, hw, G⟩ => ?_)
    · unfold left
      have := List.length_filter_le (fun p : Key × V => (valV ([] : List (Key × V)) p.1).isNone) kvs
      simpa using this
    · -- a turn
      obtain ⟨e, y0, rfl, rfl⟩ := hS k v (List.mem_of_getElem? hi)
      subst es
      refine q_asg (ev_var rfl) fun H1 e2 => ?_
      have hfr : ∀ H2, Ex (upd H a (.frz od (.dK kvs))) H2 → Rd H2 a (.dK kvs) := fun H2 e3 => .inr ⟨od, e3 _ _ upd_same⟩
      refine q_while (fun m σ' H' => ∃ wk t, σ' = [some (.ref a), some (.ref p), some (.str e), some (.str t)] ∧ Ex (upd H a (.frz od (.dK kvs))) H' ∧ H' p = some (.dK wk) ∧ m = left kvs wk ∧ Mid kvs wk i e t)
        (left kvs wk) ⟨wk, e, rfl, e1.trans e2, e2 _ _ hw, rfl, ?_, id, G.room⟩ (fun m σ' H' ⟨wk, t, es, e3, hw, em, M⟩ => ?_)
      · intro x v hx
        obtain ⟨h1, y, h2, j, w, h3, h4⟩ := G.vals x v hx
        refine ⟨y, h2, .inl ⟨fun z => ?_, h1, j, w, h3, h4⟩⟩
        subst z
        have n1 : (kvs.map (·.1))[j]? = some (.inr y) := by rw [List.getElem?_map, h4]; rfl
        have n2 : (kvs.map (·.1))[i]? = some (.inr y) := by rw [List.getElem?_map, hi]; rfl
        have := nd_ix hN n1 n2
        omega
      · subst es em
        refine ⟨(valV kvs (.inr t)).isSome && !(valV wk (.inr t)).isSome, ?_, ?_, ?_⟩
        · exact et_and (et_B (ev_dinR (k := .inr t) (ev_var rfl) (ev_var rfl) (hfr H' e3) rfl)) fun _ => et_B (ev_dnin (k := .inr t) (ev_var rfl) (ev_var rfl) hw rfl)
        · -- on to the next
          intro hb H2 e4
          rw [Bool.and_eq_true] at hb
          obtain ⟨b1, b2⟩ := hb
          obtain ⟨u, hu⟩ := Option.isSome_iff_exists.mp b1
          obtain ⟨_, t2, et, rfl⟩ := hS _ _ (valV_mem hu)
          cases et
          have hn : valV wk (.inr t) = none := by
            cases h : valV wk (.inr t) with
            | none => rfl
            | some _ => rw [h] at b2; cases b2
          refine ⟨fun σ' H' => ∃ wk' t', σ' = [some (.ref a), some (.ref p), some (.str e), some (.str t')] ∧ Ex (upd H a (.frz od (.dK kvs))) H' ∧ H' p = some (.dK wk') ∧ left kvs wk' < left kvs wk ∧ Mid kvs wk' i e t',
            fun σ2 H3 ⟨wk', t', es, h1, h2, h3, h4⟩ => ⟨_, h3, wk', t', es, h1, h2, rfl, h4⟩, ?_⟩
          have hwl : wk.length < 100000 := by have := M.room; omega
          refine q_dput (k := .inr t) (e4 _ _ hw) (ev_var rfl) (ev_var rfl) (ev_var rfl) hwl fun H3 e5 => ?_
          have e6 : Ex (upd H a (.frz od (.dK kvs))) (upd H3 p (.dK (putK wk (.inr t) (.str e)))) := Ex.mut ((e3.trans e4).trans e5) hBp
          refine s_asg (ev_dgetR (k := .inr t) (ev_var rfl) (hfr _ e6) (ev_var rfl) hu) fun H4 e7 => ⟨_, t2, rfl, e6.trans e7, e7 _ _ upd_same, left_put hu hn, ?_⟩
          refine ⟨fun x v hx => ?_, fun o => M.start (.step hu o), ?_⟩
          · rw [valV_put] at hx
            split at hx
            · rename_i hxt
              cases hxt
              cases hx
              exact ⟨e, rfl, .inr ⟨rfl, fun o => .step hu o, .one hu⟩⟩
            · obtain ⟨y, h1, h2⟩ := M.vals x v hx
              refine ⟨y, h1, ?_⟩
              rcases h2 with h2 | ⟨h3, h4, h5⟩
              · exact .inl h2
              · exact .inr ⟨h3, fun o => h4 (.step hu o), h5.snoc hu⟩
          · have h1 := length_putK wk (.inr t) (.str e)
            have h2 := left_put (y := .str e) hu hn
            have h3 := M.room
            omega
        · -- the walk ends
          intro hb H2 e4
          have e5 := e3.trans e4
          have hout : Out kvs t → Good kvs wk (i + 1) := fun o => ⟨fun j k v hj hk => by
            by_cases hji : j = i
            · subst hji
              rw [hi] at hk
              cases hk
              exact ⟨e, rfl, M.start o⟩
            · exact G.keys j k v (by omega) hk, fun x v hx => by
              obtain ⟨y, h1, h2⟩ := M.vals x v hx
              rcases h2 with ⟨_, h4, j, w, h5, h6⟩ | ⟨h3, h4, _⟩
              · exact ⟨h4, y, h1, j, w, by omega, h6⟩
              · subst h3
                exact ⟨h4 o, y, h1, i, _, by omega, hi⟩, M.room⟩
          have go : Out kvs t → ∃ wk x2 x3, [some (V.ref a), some (V.ref p), some (V.str e), some (V.str t)] = [some (.ref a), some (.ref p), x2, x3] ∧ Ex (upd H a (.frz od (.dK kvs))) H2 ∧ H2 p = some (.dK wk) ∧ Good kvs wk (i + 1) := fun o =>
            ⟨wk, _, _, rfl, e5, e4 _ _ hw, hout o⟩
          cases ht : valV kvs (.inr t) with
          | none =>
            refine s_when (b := false) (et_is (et_and (b := true) (et_B (ev_dinR (k := .inr t) (ev_var rfl) (ev_var rfl) (hfr H2 e5) rfl)) fun h => ?_) (by rw [ht]; rfl)) (fun h => nomatch h) fun _ H3 e6 => ?_
            · rw [ht] at h
              cases h
            · exact ⟨wk, _, _, rfl, e5.trans e6, e6 _ _ (e4 _ _ hw), hout (.stop ht)⟩
          | some u =>
            obtain ⟨_, t2, et, rfl⟩ := hS _ _ (valV_mem ht)
            cases et
            have hs : ∃ v, valV wk (.inr t) = some v := by
              cases h : valV wk (.inr t) with
              | some v => exact ⟨v, rfl⟩
              | none => rw [ht, h] at hb; cases hb
            obtain ⟨v, hv⟩ := hs
            obtain ⟨y, rfl, hy⟩ := M.vals t v hv
            refine s_when (b := decide (y = e)) (et_is (et_and (et_B (ev_dinR (k := .inr t) (ev_var rfl) (ev_var rfl) (hfr H2 e5) rfl)) fun _ => et_test (ev_opD (K := K) (ed_of (ev_dget (k := .inr t) (d := .none) (ev_var rfl) (e4 _ _ hw) (ev_var rfl) hv) (.str y)) (ed_of (ev_var rfl) (.str e)) rd_eqS)) (by rw [ht]; rfl)) (fun h H3 e6 => ?_) fun h H3 e6 => ?_
            · have hye : y = e := of_decide_eq_true h
              rcases hy with ⟨h1, _⟩ | ⟨_, _, h3⟩
              · exact absurd hye h1
              · have hnr : ¬ Rooted kvs := fun R => (R t).irr h3
                refine s_ret ev_c fun H4 e7 => ⟨((e5.trans e6).trans e7) _ _ upd_same, ?_⟩
                rw [@decide_eq_false (Rooted kvs) (Classical.propDecidable _) hnr] at q
                exact q _ (hB _ ((e5.trans e6).trans e7))
            · have hye : ¬ y = e := of_decide_eq_false h
              rcases hy with ⟨_, h2, _⟩ | ⟨h1, _⟩
              · exact ⟨wk, _, _, rfl, e5.trans e6, e6 _ _ (e4 _ _ hw), hout h2⟩
              · exact absurd h1 hye
    · -- all keys have been gone back from
      refine ⟨e1 _ _ upd_same, ?_⟩
      have hR : Rooted kvs := fun x => by
        cases h : valV kvs (.inr x) with
        | none => exact .stop h
        | some v =>
          obtain ⟨j, hj, ej⟩ := List.getElem_of_mem (valV_mem h)
          obtain ⟨x2, ex, o⟩ := G.keys j _ _ hj (by rw [List.getElem?_eq_getElem hj, ej])
          cases ex
          exact o
      rw [@decide_eq_true (Rooted kvs) (Classical.propDecidable _) hR] at q
      show tRet (tC (V.bl true)) { nx := fun x H' => Q V.non H', rt := Q } σ' (upd H' a (HO.dK kvs))
      exact s_ret ev_c fun H4 e7 => q _ ((hB _ e1).trans e7)
end
end Vf
end
section
set_option Elab.async false
set_option linter.all false
set_option maxRecDepth 100000
set_option maxHeartbeats 4000000
namespace Vf
open PySem PySem.Spec PyProof.Rows L2 Evl
/-! ### dicts that a comprehension makes -/
theorem putAll_some {k : Nat → Key} {u : Nat → V} {x : Key} : ∀ n, (valV (putAll n k u) x).isSome = decide (∃ i, i < n ∧ k i = x)
  | 0 => by
    have h : ¬ ∃ i, i < 0 ∧ k i = x := fun ⟨i, hi, _⟩ => absurd hi (Nat.not_lt_zero _)
    rw [decide_eq_false h]
    rfl
  | n + 1 => by
    rw [putAll_succ, valV_put]
    by_cases e : x = k n
    · rw [if_pos e, decide_eq_true (⟨n, Nat.lt_succ_self _, e.symm⟩ : ∃ i, i < n + 1 ∧ k i = x)]
      rfl
    · rw [if_neg e, putAll_some n]
      by_cases h : ∃ i, i < n ∧ k i = x
      · obtain ⟨i, hi, hk⟩ := h
        rw [decide_eq_true (⟨i, hi, hk⟩ : ∃ i, i < n ∧ k i = x), decide_eq_true (⟨i, Nat.lt_succ_of_lt hi, hk⟩ : ∃ i, i < n + 1 ∧ k i = x)]
      · have h' : ¬ ∃ i, i < n + 1 ∧ k i = x := fun ⟨i, hi, hk⟩ => by
          by_cases hin : i = n
          · subst hin; exact e hk.symm
          · exact h ⟨i, by omega, hk⟩
        rw [decide_eq_false h, decide_eq_false h']
theorem putK_keys {kvs : List (Key × V)} {k : Key} {v : V} (h : (kvs.map (·.1)).Nodup) : ((putK kvs k v).map (·.1)).Nodup := by
  unfold putK
  split
  · rw [List.map_map]
    have e : kvs.map ((fun x => x.1) ∘ fun kv : Key × V => if kv.1 = k then (kv.1, v) else kv) = kvs.map (·.1) := by
      refine List.map_congr_left fun p _ => ?_
      show (if p.1 = k then (p.1, v) else p).1 = p.1
      split <;> rfl
    rw [e]
    exact h
  · rename_i hn
    rw [List.map_append, List.map_cons, List.map_nil, List.nodup_append]
    refine ⟨h, by simp, fun a ha b hb => ?_⟩
    have hbk : b = k := by simpa using hb
    subst hbk
    intro hab
    subst hab
    obtain ⟨p, hp, e⟩ := List.mem_map.mp ha
    refine hn (List.any_eq_true.mpr ⟨p, hp, decide_eq_true e⟩)
theorem putAll_keys (k : Nat → Key) (u : Nat → V) : ∀ n, ((putAll n k u).map (·.1)).Nodup
  | 0 => List.nodup_nil
  | n + 1 => by rw [putAll_succ]; exact putK_keys (putAll_keys k u n)
theorem putK_mem {kvs : List (Key × V)} {k k' : Key} {v v' : V} (h : (k', v') ∈ putK kvs k v) : (k', v') ∈ kvs ∨ (k' = k ∧ v' = v) := by
  unfold putK at h
  split at h
  · obtain ⟨p, hp, e⟩ := List.mem_map.mp h
    split at e
    · rename_i hk
      cases e
      exact .inr ⟨hk, rfl⟩
    · subst e
      exact .inl hp
  · rcases List.mem_append.mp h with h | h
    · exact .inl h
    · cases List.mem_singleton.mp h
      exact .inr ⟨rfl, rfl⟩
theorem putAll_strD {k u : Nat → Str} : ∀ n, StrD (putAll n (fun i => .inr (k i)) fun i => .str (u i))
  | 0 => fun _ _ h => by cases h
  | n + 1 => fun k' v' h => by
    rw [putAll_succ] at h
    rcases putK_mem h with h | ⟨h1, h2⟩
    · exact putAll_strD n k' v' h
    · exact ⟨_, _, h1, h2⟩
/-! ### what the program says of tasks and plans -/
def kB : PyData → Str | .tuple (.str b :: _) => b | _ => ""
def kE : PyData → Str | .tuple (_ :: .str e :: _) => e | _ => ""
def bg (ds : List PyData) : List (Key × V) := putAll ds.length (fun i => .inr (kE (ds.getD i .none))) fun i => .str (kB (ds.getD i .none))
def strOf : PyData → Str | .str x => x | _ => ""
def evs : PyData → List Str | .tuple ds => ds.map strOf | _ => []
open Classical in
noncomputable def areTasks (es : List Str) : PyData → Bool
  | .tuple ds => ds.all (isTask es) && (ascD ds && (decide (((bg ds).length : Int) = (ds.length : Int)) && @decide (Rooted (bg ds)) (Classical.propDecidable _)))
  | _ => false
noncomputable def isPlan : PyData → Bool
  | .tuple [l, e, b, t] => isMom l && (isEvents e && (areBounds (evs e) b && areTasks (evs e) t))
  | _ => false
def plOk : PyData → Prop := fun d => ∀ l e b t, d = .tuple [l, e, b, t] → evOk e ∧ (∀ ds, b = .tuple ds → ds.length ≤ 30000) ∧ ∀ ds, t = .tuple ds → ds.length ≤ 30000
section
variable {P : Program} {w : World} {K : PySem.W.Frag} {mg : Str → Option Value} {base : Heap} {tg : Tok} {f : Addr} {fd : FuncData}
abbrev s_is_task : Stmt := topS 23
theorem sc_is_task : FnScope ["events", "value", "begin", "end", "least", "greatest"] ["events", "value"] (defScope s_is_task) := ⟨rfl, rfl, rfl, by decide +kernel, rfl, by decide +kernel, by decide +kernel⟩
theorem ok_is_task (F : Fun K "is_task" "is_task" s_is_task f fd) (T : Txt mg tg) (C_is_integer : Cal P w K mg base 1 "is_integer" ["value"] (D1 K any isInt)) :
    FnOk P w K mg base CX0 2 f fd ["events", "value"] (D2 K any2 isTask) := by
  refine F.ok sc_is_task (fun vs H Q E h => ?_) (fun cdv A outer s H vs Q E hr h => ?_)
  · obtain ⟨u, v, es, d, rfl, _⟩ := h
    rfl
  · obtain ⟨u, v, es, d, rfl, hu, hd, htr, q⟩ := h
    refine ⟨_, (pss_cons (ps_if (PW.pt (pw_or (pt_not (pt_val (pe_callB (call_isiK' (K := K) rfl) (by rfl) T.isinstance (by decide +kernel) (pa_cons (pv 1) (pa_cons (pe_bltn (v := .ty "tuple") (u := .type "tuple") (by rfl) T.tuple (by decide +kernel) rfl) pa_nil))))) (pw_or1 (pt_cmpR op_ne (pe_callB (call_len_seqK (K := K) rfl) (by rfl) T.len (by decide +kernel) (pa_cons (pv 1) pa_nil)) pe_int (nomark _))))) (pss_one (ps_ret pe_bl)) pss_nil) (pss_cons (ps_asg (pv 1) (pg_tupK (K := K) (n := 4) rfl rfl (pgs_cons (pg_name (i := 2) sc_is_task.nd rfl (Or.inl rfl)) (pgs_cons (pg_name (i := 3) sc_is_task.nd rfl (Or.inl rfl)) (pgs_cons (pg_name (i := 4) sc_is_task.nd rfl (Or.inl rfl)) (pgs_cons (pg_name (i := 5) sc_is_task.nd rfl (Or.inl rfl)) pgs_nil)))))) (pss_cons (ps_if (PW.pt (pw_or (pt_not (pt_val (pe_callB (call_isiK' (K := K) rfl) (by rfl) T.isinstance (by decide +kernel) (pa_cons (pv 2) (pa_cons (pe_bltn (v := .ty "str") (u := .type "str") (by rfl) T.str (by decide +kernel) rfl) pa_nil))))) (pw_or1 (pt_not (pt_val (pe_callB (call_isiK' (K := K) rfl) (by rfl) T.isinstance (by decide +kernel) (pa_cons (pv 3) (pa_cons (pe_bltn (v := .ty "str") (u := .type "str") (by rfl) T.str (by decide +kernel) rfl) pa_nil)))))))) (pss_one (ps_ret pe_bl)) pss_nil) (pss_cons (ps_if (PW.pt (pw_or (pt_not (pt_val (pe_cal C_is_integer (by first | exact hr | exact hr.mono (by decide)) (by rfl) (pa_cons (pv 4) pa_nil)))) (pw_or1 (pt_not (pt_val (pe_cal C_is_integer (by first | exact hr | exact hr.mono (by decide)) (by rfl) (pa_cons (pv 5) pa_nil))))))) (pss_one (ps_ret pe_bl)) pss_nil) (pss_one (ps_ret (pe_and (pe_ei (pe_cmp (pc_din (hu_of hr) (pv 2) (pv 0)) rfl) (pe_cmpR (op_in_seqK (K := K) rfl) (pv 2) (pv 0) (by rfl))) (pe_and (pe_ei (pe_cmp (pc_din (hu_of hr) (pv 3) (pv 0)) rfl) (pe_cmpR (op_in_seqK (K := K) rfl) (pv 3) (pv 0) (by rfl))) (pe_one (pe_chain op_le op_le pe_int (pv 4) (pv 5))))))))))), ?_⟩
    refine q_when (et_tupN (n := 4) rfl (ev_var rfl) hd) (fun hb H1 e1 => s_ret ev_c fun H2 e2 => ?_) (fun hb H1 e1 => ?_)
    · have e : isTask es d = false := by
        cases h : isTask es d with
        | false => rfl
        | true =>
          obtain ⟨_, _, _, _, rfl⟩ := isTask_form h
          cases hb
      rw [e] at q
      exact q H2 (e1.trans e2)
    · obtain ⟨b, e, l, g, rfl⟩ := isTupN_4 (show isTupN 4 d = true by simpa using hb)
      refine q_unp4 (ed_of (ev_var rfl) (dp_ex e1 hd)) fun v1 v2 v3 v4 H2 e2 h1 h2 h3 h4 => ?_
      refine q_when (et_or (et_not (et_B (ev_isi okT_str (ev_var rfl) h1))) fun _ => et_not (et_B (ev_isi okT_str (ev_var rfl) h2))) (fun hb2 H3 e3 => s_ret ev_c fun H4 e4 => ?_) (fun hb2 H3 e3 => ?_)
      · have ef : isTask es (.tuple [b, e, l, g]) = false := by
          cases h : isTask es (.tuple [b, e, l, g]) with
          | false => rfl
          | true =>
            obtain ⟨_, _, _, _, z⟩ := isTask_form h
            cases z
            rw [isT_str, isT_str] at hb2
            cases hb2
        rw [ef] at q
        exact q H4 (((e1.trans e2).trans e3).trans e4)
      · rw [isT_str, isT_str] at hb2
        have e5 := (e2.trans e3)
        have g1 := dp_ex e3 h1
        have g2 := dp_ex e3 h2
        have g3 := dp_ex e3 h3
        have g4 := dp_ex e3 h4
        cases b <;> first | (cases hb2; done) | skip
        cases e <;> first | (cases hb2; done) | skip
        rename_i b e
        refine q_when (et_or (et_not (et_B (ev_call (ea_cons (ev_var rfl) ea_nil) (spv1 g3 trivial)))) fun _ => et_not (et_B (ev_call (ea_cons (ev_var rfl) ea_nil) (spv1 g4 trivial)))) (fun hb3 H4 e4 => s_ret ev_c fun H5 e5 => ?_) (fun hb3 H4 e4 => ?_)
        · have ef : isTask es (.tuple [.str b, .str e, l, g]) = false := by
            cases h : isTask es (.tuple [.str b, .str e, l, g]) with
            | false => rfl
            | true =>
              obtain ⟨_, _, _, _, z⟩ := isTask_form h
              cases z
              cases hb3
          rw [ef] at q
          exact q H5 ((((e1.trans e2).trans e3).trans e4).trans e5)
        · cases l <;> first | (cases hb3; done) | skip
          cases g <;> first | (cases hb3; done) | skip
          rename_i l g
          cases g1
          cases g2
          have k3 := dp_ex e4 g3
          have k4 := dp_ex e4 g4
          have hu4 := knows_ex (((e1.trans e2).trans e3).trans e4) hu
          refine s_ret (ev_andV (ev_knows (ev_var rfl) (ev_var rfl) hu4) fun _ => ev_andV (ev_knows (ev_var rfl) (ev_var rfl) hu4) fun _ => ev_chain (K := K) (ed_of ev_c (.int 1)) (ed_of (ev_var rfl) k3) rd_I0 (fun _ => ed_of (ev_var rfl) k4) fun _ => rd_I0) fun H5 e5 => q H5 ((((e1.trans e2).trans e3).trans e4).trans e5)
abbrev s_are_tasks : Stmt := topS 25
theorem sc_are_tasks : FnScope ["events", "value", "task", "begins"] ["events", "value"] (defScope s_are_tasks) := ⟨rfl, rfl, rfl, by decide +kernel, rfl, by decide +kernel, by decide +kernel⟩
theorem ok_are_tasks (F : Fun K "are_tasks" "are_tasks" s_are_tasks f fd) (T : Txt mg tg) (C_is_task : Cal P w K mg base 2 "is_task" ["events", "value"] (D2 K any2 isTask)) (C_ascends : Cal P w K mg base 1 "ascends" ["rows"] (spAsc K)) (C_is_rooted : Cal P w K mg base 1 "is_rooted" ["begins"] spRoot) :
    FnOk P w K mg base CX0 3 f fd ["events", "value"] (D2 K seqOk areTasks) := by
  refine F.ok sc_are_tasks (fun vs H Q E h => ?_) (fun cdv A outer s H vs Q E hr h => ?_)
  · obtain ⟨u, v, es, d, rfl, _⟩ := h
    rfl
  · obtain ⟨u, v, es, d, rfl, hu, hd, hk, q⟩ := h
    refine ⟨_, (pss_cons (ps_if (PW.pt (pw_or (pt_not (pt_val (pe_callB (call_isiK' (K := K) rfl) (by rfl) T.isinstance (by decide +kernel) (pa_cons (pv 1) (pa_cons (pe_bltn (v := .ty "tuple") (u := .type "tuple") (by rfl) T.tuple (by decide +kernel) rfl) pa_nil))))) (pw_or1 (pt_not (pt_val (pe_callB (cr_allK (K := K) rfl rfl) (by rfl) T.all (by decide +kernel) (pa_cons (pe_lc (own := [("task", 2)]) rfl sc_are_tasks.nd (pi_tupK (K := K) rfl (pv 1)) (blkOk_by (own := [("task", 2)]) (N := ["events", "value", "task", "begins"]) (sc := defScope s_are_tasks) (by decide +kernel)) (fun _ _ _ _ _ => (pg_name (i := 2) sc_are_tasks.nd rfl (Or.inl rfl))) (fun _ _ _ _ _ => pts_nil) (fun _ _ _ _ _ => (pe_cal C_is_task (by first | exact hr | exact hr.mono (by decide)) (by rfl) (pa_cons (pv 0) (pa_cons (pv 2) pa_nil))))) pa_nil))))))) (pss_one (ps_ret pe_bl)) pss_nil) (pss_cons (ps_setDc (i := 3) (own := [("task", 2)]) rfl sc_are_tasks.nd rfl rfl (sw_dc rfl rfl rfl (by decide +kernel)) (pi_tupK (K := K) rfl (pv 1)) (blkOk_by (own := [("task", 2)]) (N := ["events", "value", "task", "begins"]) (sc := defScope s_are_tasks) (by decide +kernel)) (fun _ _ _ _ _ => (pg_name (i := 2) sc_are_tasks.nd rfl (Or.inl rfl))) (fun _ _ _ _ _ => pts_nil) (fun _ _ _ _ _ => (pe_ix (ix_tupK (K := K) rfl) (pv 2) pe_int (fun _ _ => rfl))) (fun _ _ _ _ _ => (pe_ix (ix_tupK (K := K) rfl) (pv 2) pe_int (fun _ _ => rfl)))) (pss_one (ps_ret (pe_and (pe_cal C_ascends (by first | exact hr | exact hr.mono (by decide)) (by rfl) (pa_cons (pv 1) pa_nil)) (pe_and (pe_cmpR op_eq (pe_callB call_lenD (by rfl) T.len (by decide +kernel) (pa_cons (pv 3) pa_nil)) (pe_callB (call_len_seqK (K := K) rfl) (by rfl) T.len (by decide +kernel) (pa_cons (pv 1) pa_nil)) (nomark _)) (pe_one (pe_cal C_is_rooted (by first | exact hr | exact hr.mono (by decide)) (by rfl) (pa_cons (pv 3) pa_nil))))))))), ?_⟩
    cases hs : isT "tuple" d with
    | false =>
      refine q_when (b := true) (et_is (et_or (b := true) (et_not (et_B (ev_isi okT_tuple (ev_var rfl) hd))) fun h => ?_) (by rw [hs]; rfl)) (fun _ H1 e1 => s_ret ev_c fun H2 e2 => ?_) (fun h => nomatch h)
      · rw [hs] at h
        cases h
      · have e : areTasks es d = false := by
          rw [isT_tuple] at hs
          cases d <;> first | rfl | cases hs
        rw [e] at q
        exact q H2 (e1.trans e2)
    | true =>
      rw [isT_tuple] at hs
      cases d <;> cases hs
      rename_i ds
      have hz := hk ds rfl
      refine q_when (et_is (b := !ds.all (isTask es)) (et_or (et_not (et_B (ev_isi okT_tuple (ev_var rfl) hd))) fun _ => et_not (et_B (ev_is (ev_all (bs := ds.map (isTask es)) ?_) (by rw [all_id])))) ?_) (fun hb H1 e1 => s_ret ev_c fun H2 e2 => ?_) (fun hb H1 e1 => ?_)
      · rw [← givenD_all]
        refine ed_n (en_lcT (fun _ => true) _ (ed_of (ev_var rfl) hd) (by omega) (fun _ _ => rfl) fun i x d H1 e1 hi hx => ?_)
        refine ⟨_, ?_, goes_name, fun H1 e Q q => q H1 (Ex.refl H1), fun _ => ?_⟩
        · rfl
        rw [getD_of hi]
        exact ed_of (ev_call (ea_cons (ev_var rfl) (ea_cons (ev_var rfl) ea_nil)) (spv2 (knows_ex e1 hu) hx trivial)) (.bl _)
      · rw [isT_tuple]; rfl
      · have e : areTasks es (.tuple ds) = false := by
          have h1 : ds.all (isTask es) = false := by simpa using hb
          show (ds.all (isTask es) && _) = false
          rw [h1]
          rfl
        rw [e] at q
        exact q H2 (e1.trans e2)
      · have ha : ds.all (isTask es) = true := by
          cases h : ds.all (isTask es) with
          | true => rfl
          | false => rw [h] at hb; cases hb
        have e : areTasks es (.tuple ds) = (ascD ds && (decide (((bg ds).length : Int) = (ds.length : Int)) && @decide (Rooted (bg ds)) (Classical.propDecidable _))) := by
          show (ds.all (isTask es) && _) = _
          rw [ha]
          rfl
        rw [e] at q
        have hd1 := dp_ex e1 hd
        have ha2 := List.all_eq_true.mp ha
        refine q_asgK (kvs := bg ds) (ek_dcT _ _ (ed_of (ev_var rfl) hd1) (by omega) fun i x d H2 e2 hi hx => ?_) fun p H2 hp e2 hk2 => ?_
        · refine ⟨_, ?_, goes_name, fun H1 e Q q => q H1 (Ex.refl H1), ?_, ?_⟩
          · rfl
          · obtain ⟨b, e, l, g, rfl⟩ := isTask_form (ha2 d (List.mem_of_getElem? hi))
            rw [getD_of hi]
            exact ev_strD (ed_ixT 1 (ed_of (ev_var rfl) hx) ev_c rfl rfl)
          · obtain ⟨b, e, l, g, rfl⟩ := isTask_form (ha2 d (List.mem_of_getElem? hi))
            rw [getD_of hi]
            exact ev_strD (ed_ixT 0 (ed_of (ev_var rfl) hx) ev_c rfl rfl)
        · have hd2 := dp_ex e2 hd1
          refine s_ret (ev_andV (ev_call (ea_cons (ev_var rfl) ea_nil) (spvA (b := false) hd2 (ascOk_tasks hz ha))) fun _ => ev_andV (ev_opD (K := K) (ed_of (v := .int ((bg ds).length : Int)) ?_ (.int _)) (ed_of (ev_lenD (K := K) (ed_of (ev_var rfl) hd2)) (.int _)) rd_eqI) fun _ => ev_call (ea_cons (ev_var rfl) ea_nil) (spvR hk2 (putAll_strD _) (putAll_keys _ _ _) ?_)) fun H3 e3 => q H3 ((e1.trans e2).trans e3)
          · exact ev_cb (ea_cons (ev_var rfl) ea_nil) fun H3 e3 Q q => ⟨p, bg ds, rfl, e3 _ _ hk2, q H3 (Ex.refl H3)⟩
          · have := putAll_len (fun i => .inr (kE (ds.getD i .none))) (fun i => .str (kB (ds.getD i .none))) ds.length
            unfold bg
            omega
abbrev s_is_plan : Stmt := topS 26
theorem sc_is_plan : FnScope ["value", "latest", "events", "bounds", "tasks", "event", "known"] ["value"] (defScope s_is_plan) := ⟨rfl, rfl, rfl, by decide +kernel, rfl, by decide +kernel, by decide +kernel⟩
theorem ok_is_plan (F : Fun K "is_plan" "is_plan" s_is_plan f fd) (T : Txt mg tg) (C_is_moment : Cal P w K mg base 2 "is_moment" ["value"] (D1 K any isMom)) (C_are_events : Cal P w K mg base 2 "are_events" ["value"] (D1 K evOk isEvents))
    (C_are_bounds : Cal P w K mg base 4 "are_bounds" ["events", "value"] (D2 K seqOk areBounds)) (C_are_tasks : Cal P w K mg base 3 "are_tasks" ["events", "value"] (D2 K seqOk areTasks)) : FnOk P w K mg base CX0 5 f fd ["value"] (D1 K plOk isPlan) := by
  refine F.ok sc_is_plan (fun vs H Q E h => ?_) (fun cdv A outer s H vs Q E hr h => ?_)
  · obtain ⟨v, d, rfl, _⟩ := h
    rfl
  · obtain ⟨v, d, rfl, hd, hk, q⟩ := h
    refine ⟨_, (pss_cons (ps_if (PW.pt (pw_or (pt_not (pt_val (pe_callB (call_isiK' (K := K) rfl) (by rfl) T.isinstance (by decide +kernel) (pa_cons (pv 0) (pa_cons (pe_bltn (v := .ty "tuple") (u := .type "tuple") (by rfl) T.tuple (by decide +kernel) rfl) pa_nil))))) (pw_or1 (pt_cmpR op_ne (pe_callB (call_len_seqK (K := K) rfl) (by rfl) T.len (by decide +kernel) (pa_cons (pv 0) pa_nil)) pe_int (nomark _))))) (pss_one (ps_ret pe_bl)) pss_nil) (pss_cons (ps_asg (pv 0) (pg_tupK (K := K) (n := 4) rfl rfl (pgs_cons (pg_name (i := 1) sc_is_plan.nd rfl (Or.inl rfl)) (pgs_cons (pg_name (i := 2) sc_is_plan.nd rfl (Or.inl rfl)) (pgs_cons (pg_name (i := 3) sc_is_plan.nd rfl (Or.inl rfl)) (pgs_cons (pg_name (i := 4) sc_is_plan.nd rfl (Or.inl rfl)) pgs_nil)))))) (pss_cons (ps_if (PW.pt (pw_or (pt_not (pt_val (pe_cal C_is_moment (by first | exact hr | exact hr.mono (by decide)) (by rfl) (pa_cons (pv 1) pa_nil)))) (pw_or1 (pt_not (pt_val (pe_cal C_are_events (by first | exact hr | exact hr.mono (by decide)) (by rfl) (pa_cons (pv 2) pa_nil))))))) (pss_one (ps_ret pe_bl)) pss_nil) (pss_cons (ps_setDc (i := 6) (own := [("event", 5)]) rfl sc_is_plan.nd rfl rfl (sw_dc rfl rfl rfl (by decide +kernel)) (pi_tupK (K := K) rfl (pv 2)) (blkOk_by (own := [("event", 5)]) (N := ["value", "latest", "events", "bounds", "tasks", "event", "known"]) (sc := defScope s_is_plan) (by decide +kernel)) (fun _ _ _ _ _ => (pg_name (i := 5) sc_is_plan.nd rfl (Or.inl rfl))) (fun _ _ _ _ _ => pts_nil) (fun _ _ _ _ _ => (pv 5)) (fun _ _ _ _ _ => pe_bl)) (pss_one (ps_ret (pe_and (pe_cal C_are_bounds (by first | exact hr | exact hr.mono (by decide)) (by rfl) (pa_cons (pv 6) (pa_cons (pv 3) pa_nil))) (pe_one (pe_cal C_are_tasks (by first | exact hr | exact hr.mono (by decide)) (by rfl) (pa_cons (pv 6) (pa_cons (pv 4) pa_nil))))))))))), ?_⟩
    refine q_when (et_tupN (n := 4) rfl (ev_var rfl) hd) (fun hb H1 e1 => s_ret ev_c fun H2 e2 => ?_) (fun hb H1 e1 => ?_)
    · have e : isPlan d = false := by
        have h1 : isTupN 4 d = false := by simpa using hb
        cases d <;> first | rfl | skip
        rename_i ds
        match ds, h1 with
        | [], _ => rfl
        | [_], _ => rfl
        | [_, _], _ => rfl
        | [_, _, _], _ => rfl
        | [_, _, _, _], h1 => cases h1
        | _ :: _ :: _ :: _ :: _ :: _, _ => rfl
      rw [e] at q
      exact q H2 (e1.trans e2)
    · obtain ⟨l, e, b, t, rfl⟩ := isTupN_4 (show isTupN 4 d = true by simpa using hb)
      obtain ⟨k1, k2, k3⟩ := hk l e b t rfl
      refine q_unp4 (ed_of (ev_var rfl) (dp_ex e1 hd)) fun v1 v2 v3 v4 H2 e2 h1 h2 h3 h4 => ?_
      refine q_when (et_or (et_not (et_B (ev_call (ea_cons (ev_var rfl) ea_nil) (spv1 h1 trivial)))) fun _ => et_not (et_B (ev_call (ea_cons (ev_var rfl) ea_nil) (spv1 h2 k1)))) (fun hb2 H3 e3 => s_ret ev_c fun H4 e4 => ?_) (fun hb2 H3 e3 => ?_)
      · have ef : isPlan (.tuple [l, e, b, t]) = false := by
          show (isMom l && (isEvents e && _)) = false
          cases hm : isMom l with
          | false => rfl
          | true =>
            rw [hm] at hb2
            have h5 : isEvents e = false := by simpa using hb2
            rw [h5]
            rfl
        rw [ef] at q
        exact q H4 (((e1.trans e2).trans e3).trans e4)
      · have hm : isMom l = true := by
          cases h : isMom l with
          | true => rfl
          | false => rw [h] at hb2; cases hb2
        have he : isEvents e = true := by
          rw [hm] at hb2
          simpa using hb2
        have ef : isPlan (.tuple [l, e, b, t]) = (areBounds (evs e) b && areTasks (evs e) t) := by
          show (isMom l && (isEvents e && _)) = _
          rw [hm, he]
          rfl
        rw [ef] at q
        cases e <;> first | (cases he; done) | skip
        rename_i ds
        have hn : ds.all isName = true := (Bool.and_eq_true_iff.mp (show (ds.all isName && ascD ds) = true from he)).1
        rw [List.all_eq_true] at hn
        have hz := (k1 ds rfl).1
        have h2' := dp_ex e3 h2
        have h3' := dp_ex e3 h3
        have h4' := dp_ex e3 h4
        refine q_asgK (kvs := putAll ds.length (fun i => .inr (strOf (ds.getD i .none))) fun _ => .bl true) (ek_dcT _ _ (ed_of (ev_var rfl) h2') (by omega) fun i x d H4 e4 hi hx => ?_) fun p H4 hp e4 hk4 => ?_
        · refine ⟨_, ?_, goes_name, fun H1 e Q q => q H1 (Ex.refl H1), ?_, ev_c⟩
          · rfl
          · obtain ⟨y, rfl⟩ := isName_str (hn d (List.mem_of_getElem? hi))
            rw [getD_of hi]
            cases hx
            exact ev_var rfl
        · have kn : Knows K H4 (.ref p) (evs (.tuple ds)) := by
            refine ⟨p, rfl, .inl ⟨_, hk4, fun x => ?_⟩⟩
            rw [putAll_some]
            have hiff : (∃ i, i < ds.length ∧ (Sum.inr (strOf (ds.getD i .none)) : Key) = .inr x) ↔ x ∈ evs (.tuple ds) := by
              show _ ↔ x ∈ ds.map strOf
              rw [List.mem_map]
              constructor
              · rintro ⟨i, hi, e⟩
                refine ⟨ds.getD i .none, ?_, Sum.inr.inj e⟩
                simp [List.getD, hi]
              · rintro ⟨d, hd, rfl⟩
                obtain ⟨i, hi, e⟩ := List.getElem_of_mem hd
                refine ⟨i, hi, ?_⟩
                have e2 : ds.getD i .none = d := by rw [← e]; simp [List.getD, hi]
                rw [e2]
            by_cases h : x ∈ evs (.tuple ds)
            · rw [decide_eq_true h, decide_eq_true (hiff.mpr h)]
            · rw [decide_eq_false h, decide_eq_false fun z => h (hiff.mp z)]
          refine s_ret (ev_andV (ev_call (ea_cons (ev_var rfl) (ea_cons (ev_var rfl) ea_nil)) (spv2 kn (dp_ex e4 h3') k2)) fun _ => ev_call (ea_cons (ev_var rfl) (ea_cons (ev_var rfl) ea_nil)) (spv2 kn (dp_ex e4 h4') k3)) fun H5 e5 => q H5 ((((e1.trans e2).trans e3).trans e4).trans e5)
end
end Vf
end
section
set_option Elab.async false
set_option linter.all false
set_option maxRecDepth 100000
set_option maxHeartbeats 4000000
namespace Vf
open PySem PySem.Spec PyProof.Rows L2 Evl
/-! ### plans that are right -/
theorem mem_keys {ts : List PyData} {g : PyData → Str} {x : Str} : (∃ i, i < ts.length ∧ (Sum.inr (g (ts.getD i .none)) : Key) = .inr x) ↔ x ∈ ts.map g := by
  rw [List.mem_map]
  constructor
  · rintro ⟨i, hi, e⟩
    refine ⟨ts.getD i .none, ?_, Sum.inr.inj e⟩
    simp [List.getD, hi]
  · rintro ⟨d, hd, rfl⟩
    obtain ⟨i, hi, e⟩ := List.getElem_of_mem hd
    refine ⟨i, hi, ?_⟩
    have e2 : ts.getD i .none = d := by rw [← e]; simp [List.getD, hi]
    rw [e2]
theorem dec_congr {p q : Prop} [Decidable p] [Decidable q] (h : p ↔ q) : decide p = decide q := by
  by_cases hp : p
  · rw [decide_eq_true hp, decide_eq_true (h.mp hp)]
  · rw [decide_eq_false hp, decide_eq_false fun z => hp (h.mpr z)]
structure PlanIs (d : PyData) (n : Int) (es bs ts : List PyData) : Prop where
  form : d = .tuple [.int n, .tuple es, .tuple bs, .tuple ts]
  lat : 0 ≤ n
  nam : ∀ e ∈ es, isName e = true
  asc : ascD es = true
  bnd : ∀ b ∈ bs, isBound (es.map strOf) b = true
  tsk : ∀ t ∈ ts, isTask (es.map strOf) t = true
  esz : es.length ≤ 30000
  bsz : bs.length ≤ 30000
  tsz : ts.length ≤ 30000
  root : Rooted (bg ts)
  uni : ((bg ts).length : Int) = (ts.length : Int)
theorem plan_is {d : PyData} (h : isPlan d = true) (hk : plOk d) : ∃ n es bs ts, PlanIs d n es bs ts := by
  cases d <;> first | (cases h; done) | skip
  rename_i ds
  match ds, h, hk with
  | [l, e, b, t], h, hk =>
    obtain ⟨k1, k2, k3⟩ := hk l e b t rfl
    have h' : (isMom l && (isEvents e && (areBounds (evs e) b && areTasks (evs e) t))) = true := h
    rw [Bool.and_eq_true, Bool.and_eq_true, Bool.and_eq_true] at h'
    obtain ⟨hl, he, hb, ht⟩ := h'
    cases l <;> first | (cases hl; done) | skip
    cases e <;> first | (cases he; done) | skip
    cases b <;> first | (cases hb; done) | skip
    cases t <;> first | (cases ht; done) | skip
    rename_i n es bs ts
    have he2 := Bool.and_eq_true_iff.mp (show (es.all isName && ascD es) = true from he)
    have hb2 := Bool.and_eq_true_iff.mp (show (bs.all (isBound (es.map strOf)) && ascD (bs.map cut2)) = true from hb)
    have ht2 : (ts.all (isTask (es.map strOf)) && (ascD ts && (decide (((bg ts).length : Int) = (ts.length : Int)) && @decide (Rooted (bg ts)) (Classical.propDecidable _)))) = true := ht
    rw [Bool.and_eq_true, Bool.and_eq_true, Bool.and_eq_true] at ht2
    exact ⟨n, es, bs, ts, rfl, of_decide_eq_true hl, List.all_eq_true.mp he2.1, he2.2, List.all_eq_true.mp hb2.1, List.all_eq_true.mp ht2.1, (k1 es rfl).1, k2 bs rfl, k3 ts rfl, @of_decide_eq_true _ (Classical.propDecidable _) ht2.2.2.2, of_decide_eq_true ht2.2.2.1⟩
/-- what is asked of the plan that a function is given -/
def PlanOk (K : PySem.W.Frag) (H : Hp) (v : V) (d : PyData) : Prop := Dp K H v d ∧ plOk d ∧ isPlan d = true
theorem planOk_ex {K : PySem.W.Frag} {H H' : Hp} {v : V} {d : PyData} (e : Ex H H') (h : PlanOk K H v d) : PlanOk K H' v d := ⟨dp_ex e h.1, h.2.1, h.2.2⟩
/-- its parts in the heap -/
theorem plan_at {K : PySem.W.Frag} {H : Hp} {v : V} {d : PyData} {n : Int} {es bs ts : List PyData} (h : Dp K H v d) (p : PlanIs d n es bs ts) : ∃ a v1 v2 v3, v = .ref a ∧ SqT K H a [.int n, v1, v2, v3] ∧ Dp K H v1 (.tuple es) ∧ Dp K H v2 (.tuple bs) ∧ Dp K H v3 (.tuple ts) := by
  have e := p.form
  subst e
  cases h with
  | tup hs ha =>
    cases ha with
    | cons h0 ha => cases ha with
      | cons h1 ha => cases ha with
        | cons h2 ha => cases ha with
          | cons h3 ha =>
            cases ha
            cases h0
            exact ⟨_, _, _, _, rfl, hs, h1, h2, h3⟩
abbrev spReq (K : PySem.W.Frag) : Sp := fun vs H Q _ => ∃ v d, vs = [v] ∧ PlanOk K H v d ∧ RetV .non H Q
theorem spvReq {K : PySem.W.Frag} {H : Hp} {v : V} {d : PyData} (h : PlanOk K H v d) : SpV (spReq K) [v] H .non := fun H1 e Q q E => ⟨v, d, rfl, planOk_ex e h, q⟩
/-- a new list of data comes back -/
abbrev RetN (K : PySem.W.Frag) (ds : List PyData) (H : Hp) (Q : VK) : Prop := ∀ p xs H2, H p = none → Ex H H2 → H2 p = some (.lst xs) → DpAll K H2 xs ds → Q (.ref p) H2
theorem s_retN {K : PySem.W.Frag} {te : TE} {σ : L2.St} {H H0 : Hp} {ds : List PyData} {nx : L2.St → Hp → Prop} {Q : VK} (e : Ex H0 H) (h : EvN K te σ H ds) (q : RetN K ds H0 Q) : tRet te { nx := nx, rt := Q } σ H :=
  h H (Ex.refl H) _ fun p xs H2 hp e2 h2 ha => q p xs H2 (fresh_back e hp) (e.trans e2) h2 ha
def ourEvs (es ts : List PyData) : List PyData := es.filter fun e => !decide (strOf e ∈ ts.map kE)
def oursD : PyData → List PyData | .tuple [_, .tuple es, _, .tuple ts] => ourEvs es ts | _ => []
abbrev spOurs (K : PySem.W.Frag) : Sp := fun vs H Q _ => ∃ v d, vs = [v] ∧ PlanOk K H v d ∧ RetN K (oursD d) H Q
theorem givenD_sel (ds : List PyData) (p : PyData → Bool) (g : PyData → PyData) : givenD ds.length (fun i => p (ds.getD i .none)) (fun i => g (ds.getD i .none)) = (ds.filter p).map g := by
  unfold givenD
  have e : ds = (List.range ds.length).map fun i => ds.getD i .none := by
    refine List.ext_getElem (by simp) fun i h1 h2 => ?_
    simp [List.getD, h1]
  have e2 : ds.filter p = ((List.range ds.length).filter (fun i => p (ds.getD i .none))).map fun i => ds.getD i .none := by
    conv => lhs; rw [e, List.filter_map]
    rfl
  rw [e2, List.map_map]
  rfl
/-! ### moments -/
def toV : PyData → V | .int i => .int i | _ => .non
def momN (es ms : List PyData) : Nat → List (Key × V)
  | 0 => [(.inr "go", .int 0)]
  | n + 1 => putK (momN es ms n) (.inr (strOf (es.getD n .none))) (toV (ms.getD n .none))
def momD (es ms : List PyData) : List (Key × V) := momN es ms es.length
theorem momN_len (es ms : List PyData) : ∀ n, (momN es ms n).length ≤ n + 1
  | 0 => Nat.le_refl _
  | n + 1 => by
    have h1 := length_putK (momN es ms n) (.inr (strOf (es.getD n .none))) (toV (ms.getD n .none))
    have h2 := momN_len es ms n
    show (putK _ _ _).length ≤ n + 1 + 1
    omega
abbrev RetK (kvs : List (Key × V)) (H : Hp) (Q : VK) : Prop := ∀ p H2, H p = none → Ex H H2 → H2 p = some (.dK kvs) → Q (.ref p) H2
abbrev spMo (K : PySem.W.Frag) : Sp := fun vs H Q _ => ∃ v d n es bs ts u ms, vs = [v, u] ∧ Dp K H v d ∧ PlanIs d n es bs ts ∧ Dp K H u (.tuple ms) ∧ (∀ m ∈ ms, isMom m = true) ∧ ms.length = es.length ∧ RetK (momD es ms) H Q
/-- a loop over zip of two tuples of one length -/
theorem q_forZip {K : PySem.W.Frag} {Hb H : Hp} {σ : L2.St} {tx ty : TE} {tu tz : TS} {D : Ends} {a b : Addr} {xs ys : List V} {j k : Nat} (h1 : Ev tx σ H (.ref a)) (h2 : Ev ty σ H (.ref b)) (hb : Ex Hb H) (ha : SqT K Hb a xs) (hb' : SqT K Hb b ys) (hl : xs.length = ys.length)
    (Pv : Nat → L2.St → Hp → Prop) (h0 : ∀ H1, Ex H H1 → Pv 0 σ H1) (hE : ∀ i σ' H', Pv i σ' H' → Ex Hb H')
    (hs : ∀ i x y T σ' H', xs[i]? = some x → ys[i]? = some y → Pv i σ' H' → H' T = none → tu { D with nx := Pv (i + 1), ct := Pv (i + 1), bk := tz D } ((σ'.set j (some x)).set k (some y)) (upd H' T (.tup [x, y])))
    (hd : ∀ σ' H', Pv xs.length σ' H' → tz D σ' H') : tSeq (tFor (RZ.iZipA K (tCons tx (tCons ty tNil))) (gTup K 2 (gCons (gName j) (gCons (gName k) gNil))) tu) tz D σ H :=
  h1 H (Ex.refl H) _ fun H1 e1 => h2 H1 e1 _ fun H2 e2 => ⟨a, b, xs, ys, rfl, .inr ⟨ex_t ((hb.trans e1).trans e2) ha, ex_t ((hb.trans e1).trans e2) hb', RZ.for_zipT (D := { D with nx := tz D }) hl Pv (h0 H2 (e1.trans e2)) (fun i σ' H' p => ⟨ex_t (hE i σ' H' p) ha, ex_t (hE i σ' H' p) hb'⟩)
    (fun i x y T σ' H' hx hy p hT => goes_tup2 (H := upd H' T (.tup [x, y])) (st_of upd_same) _ _ (Ex.refl _) (hs i x y T σ' H' hx hy p hT)) hd⟩⟩
section
variable {P : Program} {w : World} {K : PySem.W.Frag} {mg : Str → Option Value} {base : Heap} {tg : Tok} {f : Addr} {fd : FuncData}
abbrev s_require_plan : Stmt := topS 27
theorem sc_require_plan : FnScope ["plan"] ["plan"] (defScope s_require_plan) := ⟨rfl, rfl, rfl, by decide +kernel, rfl, by decide +kernel, by decide +kernel⟩
theorem ok_require_plan (F : Fun K "require_plan" "require_plan" s_require_plan f fd) (T : Txt mg tg) (C_is_plan : Cal P w K mg base 5 "is_plan" ["value"] (D1 K plOk isPlan)) : FnOk P w K mg base CX0 6 f fd ["plan"] (spReq K) := by
  refine F.ok sc_require_plan (fun vs H Q E h => ?_) (fun cdv A outer s H vs Q E hr h => ?_)
  · obtain ⟨v, d, rfl, _⟩ := h
    rfl
  · obtain ⟨v, d, rfl, ⟨hd, hk, hp⟩, q⟩ := h
    refine ⟨_, (pss_one (ps_if (pt_not (pt_val (pe_cal C_is_plan (by first | exact hr | exact hr.mono (by decide)) (by rfl) (pa_cons (pv 0) pa_nil)))) (pss_one ps_never) pss_nil)), ?_⟩
    refine s_when (b := false) (et_is (et_not (et_B (ev_call (ea_cons (ev_var rfl) ea_nil) (spv1 hd hk)))) (by rw [hp]; rfl)) (fun h => nomatch h) fun _ H1 e1 => q H1 e1
end
end Vf
end
section
set_option Elab.async false
set_option linter.all false
set_option maxRecDepth 100000
set_option maxHeartbeats 4000000
namespace Vf
open PySem PySem.Spec PyProof.Rows L2 Evl
/-! ### the edges' own defs -/
theorem range_getD (ds : List PyData) : ds = (List.range ds.length).map fun i => ds.getD i .none := by
  refine List.ext_getElem (by simp) fun i h1 h2 => ?_
  simp [List.getD, h1]
theorem putD_list {κ : Type} [DecidableEq κ] (ds : List PyData) (f : PyData → κ) : putD ds.length (fun i => f (ds.getD i .none)) (fun i => ds.getD i .none) = ds.foldl (fun acc d => Cl.putA acc (f d) d) [] := by
  conv => rhs; rw [range_getD ds, List.foldl_map]
  rfl
theorem tMap_eq (ts : List TkS) : putD (ts.map tkD).length (fun i => (.inr (kE ((ts.map tkD).getD i .none)) : Key)) (fun i => (ts.map tkD).getD i .none) = tmD (tMap ts) := by
  rw [putD_list (ts.map tkD) fun d => (.inr (kE d) : Key), List.foldl_map]
  have : ∀ (ts : List TkS) (l : List (Str × TkS)), ts.foldl (fun acc t => Cl.putA acc (.inr (kE (tkD t)) : Key) (tkD t)) (tmD l) = tmD (ts.foldl (fun l t => Cl.putA l t.e t) l) := by
    intro ts
    induction ts with
    | nil => exact fun l => rfl
    | cons t ts ih =>
      intro l
      rw [List.foldl_cons, List.foldl_cons, ← ih]
      congr 1
      exact put_tmD l t.e t
  exact this ts []
theorem noL_getD {α : Type} {f : α → PyData} (h : ∀ a, noL (f a) = true) (ts : List α) (i : Nat) : noL ((ts.map f).getD i .none) = true := by
  rw [List.getD_eq_getElem?_getD, List.getElem?_map]
  cases ts[i]? with
  | none => rfl
  | some a => exact h a
/-- a plan that is small -/
structure SmallP (p : PlanL) : Prop where
  b : p.bs.length ≤ 1000
  e : p.evs.length ≤ 1000
  t : p.ts.length ≤ 1000
abbrev spTk (K : PySem.W.Frag) : Sp := fun vs H Q _ => ∃ v p, vs = [v] ∧ PlAt K H v p ∧ SmallP p ∧ ∀ a H2, H a = none → Ex H H2 → TkR K H2 a p.ts → Q (.ref a) H2
abbrev spLoop (K : PySem.W.Frag) : Sp := fun vs H Q _ => ∃ v a, vs = [v] ∧ Dp K H v (edD a) ∧ RetV (.bl (decide (a.x = a.y))) H Q
abbrev spEdges (K : PySem.W.Frag) (f : PlanL → List EdS) : Sp := fun vs H Q _ => ∃ v p, vs = [v] ∧ PlAt K H v p ∧ SmallP p ∧ RetN K ((f p).map edD) H Q
abbrev spSum (K : PySem.W.Frag) : Sp := fun vs H Q _ => ∃ u v a b, vs = [u, v] ∧ Dp K H u (edD a) ∧ Dp K H v (edD b) ∧ RetD K (optD (Cl.sumE ("" : Str) a b)) H Q
abbrev spEarly (K : PySem.W.Frag) : Sp := fun vs H Q _ => ∃ t v ts a, vs = [.ref t, v] ∧ TkR K H t ts ∧ Dp K H v (edD a) ∧ RetD K (optD (Cl.earlyE (tFun ts) a)) H Q
abbrev spSure (K : PySem.W.Frag) : Sp := fun vs H Q _ => ∃ t v ts a, vs = [.ref t, v] ∧ TkR K H t ts ∧ Dp K H v (edD a) ∧ (a.e ≠ "" → (tFun ts a.e).isSome = true) ∧ RetD K (optD (Cl.sureE ("" : Str) (tFun ts) a)) H Q
abbrev spNews (K : PySem.W.Frag) : Sp := fun vs H Q _ => ∃ D v kn a, vs = [.ref D, v] ∧ KnR K H D kn ∧ Dp K H v (edD a) ∧ RetV (.bl (Cl.isNews kn a)) H Q
abbrev spFirst (K : PySem.W.Frag) : Sp := fun vs H Q _ => ∃ v p, vs = [v] ∧ PlAt K H v p ∧ SmallP p ∧ RetN K ((firstL p).map lnD) H Q
theorem spvLoop {K : PySem.W.Frag} {H : Hp} {v : V} {a : EdS} (h : Dp K H v (edD a)) : SpV (spLoop K) ([v] ++ []) H (.bl (decide (a.x = a.y))) := fun H1 e Q q E => ⟨v, a, rfl, dp_ex e h, q⟩
section
variable {P : Program} {w : World} {K : PySem.W.Frag} {mg : Str → Option Value} {base : Heap} {tg : Tok} {f : Addr} {fd : FuncData}
abbrev s_tasks_by_end : Stmt := topS 34
theorem sc_tasks_by_end : FnScope ["plan", "task"] ["plan"] (defScope s_tasks_by_end) := ⟨rfl, rfl, rfl, by decide +kernel, rfl, by decide +kernel, by decide +kernel⟩
theorem ok_tasks_by_end (F : Fun K "tasks_by_end" "tasks_by_end" s_tasks_by_end f fd) (T : Txt mg tg) : FnOk P w K mg base CX0 1 f fd ["plan"] (spTk K) := by
  refine F.ok sc_tasks_by_end (fun vs H Q E h => ?_) (fun cdv A outer s H vs Q E hr h => ?_)
  · obtain ⟨v, p, rfl, _⟩ := h
    rfl
  · obtain ⟨v, p, rfl, ⟨b1, b2, b3, hP⟩, hz, q⟩ := h
    refine ⟨_, (pss_one (ps_ret (pe_ei (pe_dc (own := [("task", 1)]) rfl sc_tasks_by_end.nd (pi_tupK (K := K) rfl (pe_ix (ix_tupK (K := K) rfl) (pv 0) pe_int (fun _ _ => rfl))) (blkOk_by (own := [("task", 1)]) (N := ["plan", "task"]) (sc := defScope s_tasks_by_end) (by decide +kernel)) (fun _ _ _ _ _ => (pg_name (i := 1) sc_tasks_by_end.nd rfl (Or.inl rfl))) (fun _ _ _ _ _ => pts_nil) (fun _ _ _ _ _ => (pe_ix (ix_tupK (K := K) rfl) (pv 1) pe_int (fun _ _ => rfl))) (fun _ _ _ _ _ => (pv 1))) (pe_dc (own := [("task", 1)]) rfl sc_tasks_by_end.nd (pi_listK (K := K) rfl (pe_ix (ix_tupK (K := K) rfl) (pv 0) pe_int (fun _ _ => rfl))) (blkOk_by (own := [("task", 1)]) (N := ["plan", "task"]) (sc := defScope s_tasks_by_end) (by decide +kernel)) (fun _ _ _ _ _ => (pg_name (i := 1) sc_tasks_by_end.nd rfl (Or.inl rfl))) (fun _ _ _ _ _ => pts_nil) (fun _ _ _ _ _ => (pe_ix (ix_tupK (K := K) rfl) (pv 1) pe_int (fun _ _ => rfl))) (fun _ _ _ _ _ => (pv 1)))))), ?_⟩
    have h3 : EvD K (tOp (rIxT K) (tVar 0) (tC (.int 3))) [some v, none] H (seqD b3 (p.ts.map tkD)) := ed_ixT 3 (ed_of (ev_var rfl) hP) ev_c rfl rfl
    refine ekd_dc (fun i => .inr (kE ((p.ts.map tkD).getD i .none))) (fun i => (p.ts.map tkD).getD i .none) h3 (by rw [List.length_map]; have := hz.t; omega) (noL_getD (fun _ => rfl) _) (fun i x d H1 e1 hi hx => ?_) H (Ex.refl H) _ fun a kvs H2 ha e2 h2 hd => ?_
    · have hg : (p.ts.map tkD).getD i .none = d := getD_of hi
      rw [List.getElem?_map] at hi
      obtain ⟨t, _, rfl⟩ := Option.map_eq_some_iff.mp hi
      refine ⟨_, ?_, goes_name, fun H1 e Q q => q H1 (Ex.refl H1), ?_, ?_⟩
      · rfl
      · rw [hg]
        exact ev_strD (ed_ixT 1 (ed_of (ev_var rfl) hx) ev_c rfl rfl)
      · rw [hg]
        exact ed_of (ev_var rfl) hx
    · refine q a H2 ha e2 ⟨kvs, .inl h2, ?_⟩
      rw [← tMap_eq]
      exact hd.ex (but_ex _ _)
abbrev s_is_loop : Stmt := topS 35
theorem sc_is_loop : FnScope ["edge"] ["edge"] (defScope s_is_loop) := ⟨rfl, rfl, rfl, by decide +kernel, rfl, by decide +kernel, by decide +kernel⟩
theorem ok_is_loop (F : Fun K "is_loop" "is_loop" s_is_loop f fd) (T : Txt mg tg) : FnOk P w K mg base CX0 1 f fd ["edge"] (spLoop K) := by
  refine F.ok sc_is_loop (fun vs H Q E h => ?_) (fun cdv A outer s H vs Q E hr h => ?_)
  · obtain ⟨v, a, rfl, _⟩ := h
    rfl
  · obtain ⟨v, a, rfl, hd, q⟩ := h
    refine ⟨_, (pss_one (ps_ret (pe_cmpR op_eq (pe_ix (ix_tupK (K := K) rfl) (pv 0) pe_int (fun _ _ => rfl)) (pe_ix (ix_tupK (K := K) rfl) (pv 0) pe_int (fun _ _ => rfl)) (nomark _)))), ?_⟩
    exact s_ret (ev_opD (K := K) (ed_ixT 0 (ed_of (ev_var rfl) hd) ev_c rfl rfl) (ed_ixT 1 (ed_of (ev_var rfl) hd) ev_c rfl rfl) rd_eqS) q
abbrev s_longest_edges : Stmt := topS 37
theorem sc_longest_edges : FnScope ["plan", "begin", "end", "_", "greatest"] ["plan"] (defScope s_longest_edges) := ⟨rfl, rfl, rfl, by decide +kernel, rfl, by decide +kernel, by decide +kernel⟩
theorem ok_longest_edges (F : Fun K "longest_edges" "longest_edges" s_longest_edges f fd) (T : Txt mg tg) : FnOk P w K mg base CX0 1 f fd ["plan"] (spEdges K longE) := by
  refine F.ok sc_longest_edges (fun vs H Q E h => ?_) (fun cdv A outer s H vs Q E hr h => ?_)
  · obtain ⟨v, p, rfl, _⟩ := h
    rfl
  · obtain ⟨v, p, rfl, ⟨b1, b2, b3, hP⟩, hz, q⟩ := h
    refine ⟨_, (pss_one (ps_ret (pe_ei (pe_lc (own := [("begin", 1), ("end", 2), ("_", 3), ("greatest", 4)]) rfl sc_longest_edges.nd (pi_tupK (K := K) rfl (pe_ix (ix_tupK (K := K) rfl) (pv 0) pe_int (fun _ _ => rfl))) (blkOk_by (own := [("begin", 1), ("end", 2), ("_", 3), ("greatest", 4)]) (N := ["plan", "begin", "end", "_", "greatest"]) (sc := defScope s_longest_edges) (by decide +kernel)) (fun _ _ _ _ _ => (pg_tupK (K := K) (n := 4) rfl rfl (pgs_cons (pg_name (i := 1) sc_longest_edges.nd rfl (Or.inl rfl)) (pgs_cons (pg_name (i := 2) sc_longest_edges.nd rfl (Or.inl rfl)) (pgs_cons (pg_name (i := 3) sc_longest_edges.nd rfl (Or.inl rfl)) (pgs_cons (pg_name (i := 4) sc_longest_edges.nd rfl (Or.inl rfl)) pgs_nil)))))) (fun _ _ _ _ _ => pts_nil) (fun _ _ _ _ _ => (pe_tup (pa_cons (pv 2) (pa_cons (pv 1) (pa_cons (pv 2) (pa_cons (pe_un un_neg (pv 4)) pa_nil))))))) (pe_lc (own := [("begin", 1), ("end", 2), ("_", 3), ("greatest", 4)]) rfl sc_longest_edges.nd (pi_listK (K := K) rfl (pe_ix (ix_tupK (K := K) rfl) (pv 0) pe_int (fun _ _ => rfl))) (blkOk_by (own := [("begin", 1), ("end", 2), ("_", 3), ("greatest", 4)]) (N := ["plan", "begin", "end", "_", "greatest"]) (sc := defScope s_longest_edges) (by decide +kernel)) (fun _ _ _ _ _ => (pg_tupK (K := K) (n := 4) rfl rfl (pgs_cons (pg_name (i := 1) sc_longest_edges.nd rfl (Or.inl rfl)) (pgs_cons (pg_name (i := 2) sc_longest_edges.nd rfl (Or.inl rfl)) (pgs_cons (pg_name (i := 3) sc_longest_edges.nd rfl (Or.inl rfl)) (pgs_cons (pg_name (i := 4) sc_longest_edges.nd rfl (Or.inl rfl)) pgs_nil)))))) (fun _ _ _ _ _ => pts_nil) (fun _ _ _ _ _ => (pe_tup (pa_cons (pv 2) (pa_cons (pv 1) (pa_cons (pv 2) (pa_cons (pe_un un_neg (pv 4)) pa_nil)))))))))), ?_⟩
    refine s_retN (Ex.refl H) (en_is (en_lcD (b := b3) (ds := p.ts.map tkD) (fun _ => true) (fun i => ((longE p).map edD).getD i .none) (ed_ixT 3 (ed_of (ev_var rfl) hP) ev_c rfl rfl) (by rw [List.length_map]; have := hz.t; omega) (fun i _ => noL_getD noL_ed _ i) fun i x d H1 e1 hi hx => ?_) ?_) q
    · rw [List.getElem?_map] at hi
      obtain ⟨t, ht, rfl⟩ := Option.map_eq_some_iff.mp hi
      cases hx with
      | tup hs ha =>
        cases ha with
        | cons h1 ha => cases ha with
          | cons h2 ha => cases ha with
            | cons h3 ha => cases ha with
              | cons h4 ha =>
                cases ha
                cases h1
                cases h2
                cases h3
                cases h4
                refine ⟨_, ?_, goes_tup4 hs, fun H1 e Q q => q H1 (Ex.refl H1), fun _ => ?_⟩
                · rfl
                · have hg : ((longE p).map edD).getD i .none = edD ⟨t.e, t.b, t.e, -t.hi⟩ := getD_of (by unfold longE; rw [List.getElem?_map, List.getElem?_map, ht]; rfl)
                  rw [hg]
                  exact ed_tup (eds_cons (ed_str (ev_var rfl)) (eds_cons (ed_str (ev_var rfl)) (eds_cons (ed_str (ev_var rfl)) (eds_cons (ed_int (ev_un (ev_var rfl) ru_neg)) eds_nil)))) (by show 4 ≤ 100000; decide)
    · have hl : (p.ts.map tkD).length = ((longE p).map edD).length := by unfold longE; simp
      rw [hl]
      have := givenD_sel ((longE p).map edD) (fun _ => true) id
      rw [List.map_id, List.filter_eq_self.mpr fun _ _ => rfl] at this
      exact this
end
end Vf
end
section
set_option Elab.async false
set_option linter.all false
set_option maxRecDepth 100000
set_option maxHeartbeats 4000000
namespace Vf
open PySem PySem.Spec PyProof.Rows L2 Evl
/-! ### a list that grows -/
structure Acc (K : PySem.W.Frag) (B H : Hp) (L : Addr) (ds : List PyData) : Prop where
  no : B L = none
  ex : Ex B H
  at' : ∃ xs, H L = some (.lst xs) ∧ DpAll K (but H L) xs ds
section
variable {K : PySem.W.Frag} {B H H' : Hp} {L : Addr} {ds : List PyData} {D : Ends} {σ : L2.St} {ta tb te : TE} {tz : TS}
theorem Acc.on (A : Acc K B H L ds) (e : Ex H H') : Acc K B H' L ds := by
  obtain ⟨n, x, xs, h, d⟩ := A
  exact ⟨n, x.trans e, xs, e _ _ h, dpa_ex (but_mono e) d⟩
theorem Acc.is {ds' : List PyData} (A : Acc K B H L ds) (e : ds = ds') : Acc K B H L ds' := e ▸ A
theorem acc_of {xs : List V} (h0 : B L = none) (e : Ex B H) (h : H L = some (.lst xs)) (hn : noLs ds = true) (hd : DpAll K H xs ds) : Acc K B H L ds := ⟨h0, e, xs, h, dpa_butF h free_lst hn hd⟩
theorem Acc.dp (A : Acc K B H L ds) : Dp K H (.ref L) (.list ds) := by
  obtain ⟨n, x, xs, h, d⟩ := A
  exact .lst (sq_of h) (dpa_ex (but_ex _ _) d)
theorem s_acc {d : PyData} (A : Acc K B H L ds) (ha : Ev ta σ H (.ref L)) (h : EvD K te σ H d) (hn : noL d = true) (hz : ds.length < 16000000) (k : ∀ H1, Ex (but H L) (but H1 L) → Acc K B H1 L (ds ++ [d]) → D.nx σ H1) : tDrop (tBM K "list" rAppend ta (tCons te tNil)) D σ H := by
  obtain ⟨n, x, xs, h1, hd⟩ := A
  refine ha H (Ex.refl H) _ fun H1 e1 => ⟨Or.inl ⟨rfl, xs, sq_of (e1 L _ h1)⟩, h H1 e1 _ fun v H2 e2 hv => ⟨L, xs, v, rfl, rfl, e2 L _ (e1 L _ h1), ?_, k _ ?_ ⟨n, Ex.mut ((x.trans e1).trans e2) n, xs ++ [v], upd_same, ?_⟩⟩⟩
  · rw [dpa_len hd, sizeLine_eq]; omega
  · rw [but_put]; exact but_mono (e1.trans e2)
  · rw [but_put]
    exact dpa_snoc (dpa_ex (but_mono (e1.trans e2)) hd) (dp_butF (e2 L _ (e1 L _ h1)) free_lst hn hv)
theorem q_acc {d : PyData} (A : Acc K B H L ds) (ha : Ev ta σ H (.ref L)) (h : EvD K te σ H d) (hn : noL d = true) (hz : ds.length < 16000000) (k : ∀ H1, Ex (but H L) (but H1 L) → Acc K B H1 L (ds ++ [d]) → tz D σ H1) : tSeq (tDrop (tBM K "list" rAppend ta (tCons te tNil))) tz D σ H :=
  s_acc (D := { D with nx := tz D }) A ha h hn hz k
theorem q_asgNi {i : Nat} {ds : List PyData} (h : EvN K (tEi ta tb) σ H ds) (k : ∀ p xs H1, H p = none → Ex H H1 → H1 p = some (.lst xs) → DpAll K H1 xs ds → tz D (σ.set i (some (.ref p))) H1) : tSeq (tSi (tAsg ta (gName i)) (tAsg tb (gName i))) tz D σ H :=
  h H (Ex.refl H) _ fun p xs H1 hp e hd ha => k p xs H1 hp e hd ha
end
theorem noLs_map {α : Type} {f : α → PyData} (h : ∀ a, noL (f a) = true) (l : List α) : noLs (l.map f) = true := by
  induction l with
  | nil => rfl
  | cons a l ih =>
    show (noL (f a) && noLs (l.map f)) = true
    rw [h a, ih]
    rfl
theorem take_snoc {α : Type} {l : List α} {i : Nat} {a : α} (h : l[i]? = some a) : l.take (i + 1) = l.take i ++ [a] := by
  rw [List.take_add_one, h]
  rfl
def gv1 (p : PlanL) : List EdS := p.bs.map fun b => ⟨b.1, b.2.1, "", b.2.2⟩
def gv2 (p : PlanL) (i : Nat) : List EdS := gv1 p ++ (p.evs.take i).flatMap fun e => [⟨"go", e, "", p.lat⟩, ⟨e, "go", "", 0⟩]
def gv3 (p : PlanL) (i : Nat) : List EdS := gv2 p p.evs.length ++ (p.ts.take i).flatMap fun t => [⟨t.b, t.e, "", t.hi⟩, ⟨t.e, t.b, "", -t.lo⟩]
theorem gv3_end (p : PlanL) : gv3 p p.ts.length = givenE p := by
  unfold gv3 gv2 givenE gv1
  rw [List.take_length, List.take_length]
theorem len_flat2 {α β : Type} (f g : α → β) (l : List α) : (l.flatMap fun a => [f a, g a]).length = 2 * l.length := by
  induction l with
  | nil => rfl
  | cons a l ih =>
    rw [List.flatMap_cons, List.length_append, ih]
    show 2 + 2 * l.length = 2 * (l.length + 1)
    omega
theorem gv2_len (p : PlanL) (z : SmallP p) (i : Nat) : ((gv2 p i).map edD).length ≤ 3000 := by
  unfold gv2 gv1
  rw [List.length_map, List.length_append, List.length_map, len_flat2, List.length_take]
  have := z.b
  have := z.e
  omega
theorem gv3_len (p : PlanL) (z : SmallP p) (i : Nat) : ((gv3 p i).map edD).length ≤ 6000 := by
  unfold gv3
  rw [List.length_map, List.length_append, len_flat2, List.length_take]
  have := gv2_len p z p.evs.length
  rw [List.length_map] at this
  have := z.t
  omega
section
variable {P : Program} {w : World} {K : PySem.W.Frag} {mg : Str → Option Value} {base : Heap} {tg : Tok} {f : Addr} {fd : FuncData}
abbrev s_given_edges : Stmt := topS 36
theorem sc_given_edges : FnScope ["plan", "latest", "events", "bounds", "tasks", "x", "y", "most", "edges", "event", "begin", "end", "least", "greatest"] ["plan"] (defScope s_given_edges) := ⟨rfl, rfl, rfl, by decide +kernel, rfl, by decide +kernel, by decide +kernel⟩
theorem ok_given_edges (F : Fun K "given_edges" "given_edges" s_given_edges f fd) (T : Txt mg tg) : FnOk P w K mg base CX0 1 f fd ["plan"] (spEdges K givenE) := by
  refine F.ok sc_given_edges (fun vs H Q E h => ?_) (fun cdv A outer s H vs Q E hr h => ?_)
  · obtain ⟨v, p, rfl, _⟩ := h
    rfl
  · obtain ⟨v, p, rfl, ⟨b1, b2, b3, hP⟩, hz, q⟩ := h
    refine ⟨_, (pss_cons (ps_asg (pv 0) (pg_tupK (K := K) (n := 4) rfl rfl (pgs_cons (pg_name (i := 1) sc_given_edges.nd rfl (Or.inl rfl)) (pgs_cons (pg_name (i := 2) sc_given_edges.nd rfl (Or.inl rfl)) (pgs_cons (pg_name (i := 3) sc_given_edges.nd rfl (Or.inl rfl)) (pgs_cons (pg_name (i := 4) sc_given_edges.nd rfl (Or.inl rfl)) pgs_nil)))))) (pss_cons (ps_ei (ps_setLc (i := 8) (own := [("x", 5), ("y", 6), ("most", 7)]) rfl sc_given_edges.nd rfl rfl (sw_true rfl rfl rfl (by decide +kernel)) (pi_tupK (K := K) rfl (pv 3)) (blkOk_by (own := [("x", 5), ("y", 6), ("most", 7)]) (N := ["plan", "latest", "events", "bounds", "tasks", "x", "y", "most", "edges", "event", "begin", "end", "least", "greatest"]) (sc := defScope s_given_edges) (by decide +kernel)) (fun _ _ _ _ _ => (pg_tupK (K := K) (n := 3) rfl rfl (pgs_cons (pg_name (i := 5) sc_given_edges.nd rfl (Or.inl rfl)) (pgs_cons (pg_name (i := 6) sc_given_edges.nd rfl (Or.inl rfl)) (pgs_cons (pg_name (i := 7) sc_given_edges.nd rfl (Or.inl rfl)) pgs_nil))))) (fun _ _ _ _ _ => pts_nil) (fun _ _ _ _ _ => (pe_tup (pa_cons (pv 5) (pa_cons (pv 6) (pa_cons pe_str (pa_cons (pv 7) pa_nil))))))) (ps_setLc (i := 8) (own := [("x", 5), ("y", 6), ("most", 7)]) rfl sc_given_edges.nd rfl rfl (sw_true rfl rfl rfl (by decide +kernel)) (pi_listK (K := K) rfl (pv 3)) (blkOk_by (own := [("x", 5), ("y", 6), ("most", 7)]) (N := ["plan", "latest", "events", "bounds", "tasks", "x", "y", "most", "edges", "event", "begin", "end", "least", "greatest"]) (sc := defScope s_given_edges) (by decide +kernel)) (fun _ _ _ _ _ => (pg_tupK (K := K) (n := 3) rfl rfl (pgs_cons (pg_name (i := 5) sc_given_edges.nd rfl (Or.inl rfl)) (pgs_cons (pg_name (i := 6) sc_given_edges.nd rfl (Or.inl rfl)) (pgs_cons (pg_name (i := 7) sc_given_edges.nd rfl (Or.inl rfl)) pgs_nil))))) (fun _ _ _ _ _ => pts_nil) (fun _ _ _ _ _ => (pe_tup (pa_cons (pv 5) (pa_cons (pv 6) (pa_cons pe_str (pa_cons (pv 7) pa_nil)))))))) (pss_cons (ps_for PassesOwn.never rfl (pi_ei (pi_tupK (K := K) rfl (pv 2)) (pi_listK (K := K) rfl (pv 2))) (pg_name (i := 9) sc_given_edges.nd rfl (Or.inl rfl)) (pss_cons (ps_expr (pe_bm PySem.F.plainAttrs_list PySem.F.slot_list_append PySem.F.type_list_append mt_append (pv 8) (pa_cons (pe_tup (pa_cons (pe_glob (v := .str "go") (by rfl) T.GO ⟨_, rfl⟩) (pa_cons (pv 9) (pa_cons pe_str (pa_cons (pv 1) pa_nil))))) pa_nil))) (pss_one (ps_expr (pe_bm PySem.F.plainAttrs_list PySem.F.slot_list_append PySem.F.type_list_append mt_append (pv 8) (pa_cons (pe_tup (pa_cons (pv 9) (pa_cons (pe_glob (v := .str "go") (by rfl) T.GO ⟨_, rfl⟩) (pa_cons pe_str (pa_cons pe_int pa_nil))))) pa_nil)))))) (pss_cons (ps_for PassesOwn.never rfl (pi_ei (pi_tupK (K := K) rfl (pv 4)) (pi_listK (K := K) rfl (pv 4))) (pg_tupK (K := K) (n := 4) rfl rfl (pgs_cons (pg_name (i := 10) sc_given_edges.nd rfl (Or.inl rfl)) (pgs_cons (pg_name (i := 11) sc_given_edges.nd rfl (Or.inl rfl)) (pgs_cons (pg_name (i := 12) sc_given_edges.nd rfl (Or.inl rfl)) (pgs_cons (pg_name (i := 13) sc_given_edges.nd rfl (Or.inl rfl)) pgs_nil))))) (pss_cons (ps_expr (pe_bm PySem.F.plainAttrs_list PySem.F.slot_list_append PySem.F.type_list_append mt_append (pv 8) (pa_cons (pe_tup (pa_cons (pv 10) (pa_cons (pv 11) (pa_cons pe_str (pa_cons (pv 13) pa_nil))))) pa_nil))) (pss_one (ps_expr (pe_bm PySem.F.plainAttrs_list PySem.F.slot_list_append PySem.F.type_list_append mt_append (pv 8) (pa_cons (pe_tup (pa_cons (pv 11) (pa_cons (pv 10) (pa_cons pe_str (pa_cons (pe_un un_neg (pv 12)) pa_nil))))) pa_nil)))))) (pss_one (ps_ret (pv 8))))))), ?_⟩
    refine q_unp4 (ed_of (ev_var rfl) hP) fun v1 v2 v3 v4 H1 e1 h1 h2 h3 h4 => ?_
    cases h1
    refine q_asgNi (ds := (gv1 p).map edD) (en_is (en_lcD (b := b2) (ds := p.bs.map bdD) (fun _ => true) (fun i => ((gv1 p).map edD).getD i .none) (ed_of (ev_var rfl) h3) (by rw [List.length_map]; have := hz.b; omega) (fun i _ => noL_getD noL_ed _ i) fun i x d H2 e2 hi hx => ?_) ?_) fun L xs H2 hL e2 h5 hd => ?_
    · rw [List.getElem?_map] at hi
      obtain ⟨⟨x, y, m⟩, hb, rfl⟩ := Option.map_eq_some_iff.mp hi
      cases hx with
      | tup hs ha =>
        cases ha with
        | cons g1 ha => cases ha with
          | cons g2 ha => cases ha with
            | cons g3 ha =>
              cases ha
              cases g1
              cases g2
              cases g3
              refine ⟨_, ?_, goes_tup3 hs, fun H1 e Q q => q H1 (Ex.refl H1), fun _ => ?_⟩
              · rfl
              · have hg : ((gv1 p).map edD).getD i .none = edD ⟨x, y, "", m⟩ := getD_of (by unfold gv1; rw [List.getElem?_map, List.getElem?_map, hb]; rfl)
                rw [hg]
                exact ed_tup (eds_cons (ed_str (ev_var rfl)) (eds_cons (ed_str (ev_var rfl)) (eds_cons (ed_str ev_c) (eds_cons (ed_int (ev_var rfl)) eds_nil)))) (by show 4 ≤ 100000; decide)
    · have hl : (p.bs.map bdD).length = ((gv1 p).map edD).length := by unfold gv1; simp
      rw [hl]
      have := givenD_sel ((gv1 p).map edD) (fun _ => true) id
      rw [List.map_id, List.filter_eq_self.mpr fun _ _ => rfl] at this
      exact this
    · have A0 : Acc K H1 H2 L ((gv2 p 0).map edD) := (acc_of hL e2 h5 (noLs_map noL_ed _) hd).is (by unfold gv2; rw [List.take_zero, List.flatMap_nil, List.append_nil])
      refine q_forD (b := b1) (ds := p.evs.map .str) (ev_var rfl) h2 A0.ex (fun i σ' H' => ∃ x5 x6 x7 x9 x10 x11 x12 x13, σ' = [some v, some (.int p.lat), some v2, some v3, some v4, x5, x6, x7, some (.ref L), x9, x10, x11, x12, x13] ∧ Acc K H1 H' L ((gv2 p i).map edD))
        (fun H3 e3 => ⟨_, _, _, _, _, _, _, _, rfl, A0.on e3⟩) (fun i σ' H' ⟨_, _, _, _, _, _, _, _, _, A⟩ => A.ex) ?_ ?_
      · rintro i x d σ' H3 hi hx ⟨x5, x6, x7, x9, x10, x11, x12, x13, rfl, A⟩
        rw [List.getElem?_map] at hi
        obtain ⟨e, he, rfl⟩ := Option.map_eq_some_iff.mp hi
        cases hx
        have l3 := gv2_len p hz i
        refine q_acc (d := edD ⟨"go", e, "", p.lat⟩) A (ev_var rfl) (ed_tup (eds_cons (ed_str ev_c) (eds_cons (ed_str (ev_var rfl)) (eds_cons (ed_str ev_c) (eds_cons (ed_int (ev_var rfl)) eds_nil)))) (by show 4 ≤ 100000; decide)) rfl (by omega) fun H4 _ A4 => ?_
        refine s_acc (d := edD ⟨e, "go", "", 0⟩) A4 (ev_var rfl) (ed_tup (eds_cons (ed_str (ev_var rfl)) (eds_cons (ed_str ev_c) (eds_cons (ed_str ev_c) (eds_cons (ed_int ev_c) eds_nil)))) (by show 4 ≤ 100000; decide)) rfl (by rw [List.length_append]; show _ + 1 < 16000000; omega) fun H5 _ A5 => ?_
        refine ⟨_, _, _, _, _, _, _, _, rfl, A5.is ?_⟩
        unfold gv2
        rw [take_snoc he, List.flatMap_append, List.map_append, List.map_append, List.map_append, List.append_assoc, List.append_assoc]
        rfl
      · rintro σ' H3 ⟨x5, x6, x7, x9, x10, x11, x12, x13, rfl, A⟩
        rw [List.length_map] at A
        have A1 : Acc K H1 H3 L ((gv3 p 0).map edD) := A.is (by unfold gv3; rw [List.take_zero, List.flatMap_nil, List.append_nil])
        refine q_forD (b := b3) (ds := p.ts.map tkD) (ev_var rfl) h4 A1.ex (fun i σ' H' => ∃ x5 x6 x7 x9 x10 x11 x12 x13, σ' = [some v, some (.int p.lat), some v2, some v3, some v4, x5, x6, x7, some (.ref L), x9, x10, x11, x12, x13] ∧ Acc K H1 H' L ((gv3 p i).map edD))
          (fun H3 e3 => ⟨_, _, _, _, _, _, _, _, rfl, A1.on e3⟩) (fun i σ' H' ⟨_, _, _, _, _, _, _, _, _, A⟩ => A.ex) ?_ ?_
        · rintro i x d σ' H3 hi hx ⟨x5, x6, x7, x9, x10, x11, x12, x13, rfl, A⟩
          rw [List.getElem?_map] at hi
          obtain ⟨t, ht, rfl⟩ := Option.map_eq_some_iff.mp hi
          cases hx with
          | tup hs ha =>
            cases ha with
            | cons g1 ha => cases ha with
              | cons g2 ha => cases ha with
                | cons g3 ha => cases ha with
                  | cons g4 ha =>
                    cases ha
                    cases g1
                    cases g2
                    cases g3
                    cases g4
                    have l3 := gv3_len p hz i
                    refine goes_tup4 hs _ _ A.ex ?_
                    refine q_acc (d := edD ⟨t.b, t.e, "", t.hi⟩) A (ev_var rfl) (ed_tup (eds_cons (ed_str (ev_var rfl)) (eds_cons (ed_str (ev_var rfl)) (eds_cons (ed_str ev_c) (eds_cons (ed_int (ev_var rfl)) eds_nil)))) (by show 4 ≤ 100000; decide)) rfl (by omega) fun H4 _ A4 => ?_
                    refine s_acc (d := edD ⟨t.e, t.b, "", -t.lo⟩) A4 (ev_var rfl) (ed_tup (eds_cons (ed_str (ev_var rfl)) (eds_cons (ed_str (ev_var rfl)) (eds_cons (ed_str ev_c) (eds_cons (ed_int (ev_un (ev_var rfl) ru_neg)) eds_nil)))) (by show 4 ≤ 100000; decide)) rfl (by rw [List.length_append]; show _ + 1 < 16000000; omega) fun H5 _ A5 => ?_
                    refine ⟨_, _, _, _, _, _, _, _, rfl, A5.is ?_⟩
                    unfold gv3
                    rw [take_snoc ht, List.flatMap_append, List.map_append, List.map_append, List.map_append, List.append_assoc, List.append_assoc]
                    rfl
        · rintro σ' H4 ⟨x5, x6, x7, x9, x10, x11, x12, x13, rfl, A⟩
          rw [List.length_map, gv3_end] at A
          obtain ⟨n, x, xs, h, d⟩ := A
          exact s_ret (ev_var rfl) fun H5 e5 => q L xs H5 (fresh_back e1 hL) ((e1.trans x).trans e5) (e5 _ _ h) (dpa_ex ((but_ex _ _).trans e5) d)
end
end Vf
end
section
set_option Elab.async false
set_option linter.all false
set_option maxRecDepth 100000
set_option maxHeartbeats 4000000
namespace Vf
open PySem PySem.Spec PyProof.Rows L2 Evl
section
variable {K : PySem.W.Frag} {σ : L2.St} {H : Hp} {ta tb : TE} {a q : Addr} {v : V}
theorem ev_dninR {kvs : List (Key × V)} {k : Key} {b : Bool} (hk : Ev tb σ H (kV k)) (ha : Ev ta σ H (.ref a)) (hd : Rd H a (.dK kvs)) (hb : (valV kvs k).isSome = b) : Ev (tDNotIn tb ta) σ H (.bl (!b)) := fun H1 e Q q =>
  hk H1 e _ fun H2 e2 => ha H2 (e.trans e2) _ fun H3 e3 => ⟨a, valV kvs k, rfl, .inl ⟨kvs, k, ex_rd ((e.trans e2).trans e3) hd, rfl, rfl⟩, by
    rw [hb]
    exact q H3 (e2.trans e3)⟩
/-- the key a new tuple -/
theorem ev_dninT {kvs : List (List Key × V)} {k : List Key} {b : Bool} (hk : EvU tb σ H (k.map kV)) (ha : Ev ta σ H (.ref a)) (hd : Rd H a (.dT kvs)) (hb : (valV kvs k).isSome = b) : Ev (tDNotIn tb ta) σ H (.bl (!b)) := fun H1 e Q q =>
  hk H1 e _ fun p H2 _ e2 hp => ha H2 (e.trans e2) _ fun H3 e3 => ⟨a, valV kvs k, rfl, .inr ⟨kvs, k, p, ex_rd ((e.trans e2).trans e3) hd, rfl, e3 _ _ hp, rfl⟩, by
    rw [hb]
    exact q H3 (e2.trans e3)⟩
theorem ev_dgetT {kvs : List (List Key × V)} {k : List Key} (ha : Ev ta σ H (.ref a)) (hd : Rd H a (.dT kvs)) (hk : EvU tb σ H (k.map kV)) (hv : valV kvs k = some v) : Ev (tDGet ta tb) σ H v := fun H1 e Q q =>
  ha H1 e _ fun H2 e2 => hk H2 (e.trans e2) _ fun p H3 _ e3 hp => ⟨a, v, rfl, .inr ⟨kvs, k, p, ex_rd ((e.trans e2).trans e3) hd, rfl, hp, hv.symm⟩, q H3 (e2.trans e3)⟩
/-- the key a tuple that stands -/
theorem ev_dgetQ {kvs : List (List Key × V)} {k : List Key} (ha : Ev ta σ H (.ref a)) (hd : Rd H a (.dT kvs)) (hk : Ev tb σ H (.ref q)) (hq : H q = some (.tup (k.map kV))) (hv : valV kvs k = some v) : Ev (tDGet ta tb) σ H v := fun H1 e Q qq =>
  ha H1 e _ fun H2 e2 => hk H2 (e.trans e2) _ fun H3 e3 => ⟨a, v, rfl, .inr ⟨kvs, k, q, ex_rd ((e.trans e2).trans e3) hd, rfl, ((e.trans e2).trans e3) _ _ hq, hv.symm⟩, qq H3 (e2.trans e3)⟩
/-- xs + ys, xs a list that stands -/
theorem en_cat1 {p : Addr} {xs : List V} {ds es : List PyData} (ha : Ev ta σ H (.ref p)) (hp : H p = some (.lst xs)) (hd : DpAll K H xs ds) (hb : EvN K tb σ H es) (hl : ds.length + es.length ≤ 100000) : EvN K (tOp rCat ta tb) σ H (ds ++ es) := fun H1 e Q q =>
  ha H1 e _ fun H2 e2 => hb H2 (e.trans e2) _ fun p' ys H3 hp' e3 h3 d3 => ⟨p, p', xs, ys, rfl, rfl, ((e.trans e2).trans e3) _ _ hp, h3, by
    have l1 := dpa_len hd
    have l2 := dpa_len d3
    exact sz_of (by omega), fun a ha => by
    have app : ∀ {H : Hp} {xs ys : List V} {ds es : List PyData}, DpAll K H xs ds → DpAll K H ys es → DpAll K H (xs ++ ys) (ds ++ es) := by
      intro H xs ys ds es h
      induction ds generalizing xs with
      | nil => cases h; exact fun g => g
      | cons d ds ih =>
        cases h with
        | cons h1 h2 => exact fun g => .cons h1 (ih h2 g)
    exact q a _ _ (fresh_back (e2.trans e3) ha) ((e2.trans e3).trans (Ex.new ha)) upd_same (app (dpa_ex (((e.trans e2).trans e3).trans (Ex.new ha)) hd) (dpa_ex (Ex.new ha) d3))⟩
end
section
variable {P : Program} {w : World} {K : PySem.W.Frag} {mg : Str → Option Value} {base : Heap} {tg : Tok} {f : Addr} {fd : FuncData}
abbrev s_sum_edge : Stmt := topS 38
theorem sc_sum_edge : FnScope ["first", "second", "x", "y", "label", "weight", "start", "z", "end", "further"] ["first", "second"] (defScope s_sum_edge) := ⟨rfl, rfl, rfl, by decide +kernel, rfl, by decide +kernel, by decide +kernel⟩
theorem ok_sum_edge (F : Fun K "sum_edge" "sum_edge" s_sum_edge f fd) (T : Txt mg tg) (C_is_loop : Cal P w K mg base 1 "is_loop" ["edge"] (spLoop K)) : FnOk P w K mg base CX0 2 f fd ["first", "second"] (spSum K) := by
  refine F.ok sc_sum_edge (fun vs H Q E h => ?_) (fun cdv A outer s H vs Q E hr h => ?_)
  · obtain ⟨u, v, a, b, rfl, _⟩ := h
    rfl
  · obtain ⟨u, v, a, b, rfl, ha, hb, q⟩ := h
    refine ⟨_, (pss_cons (ps_asg (pv 0) (pg_tupK (K := K) (n := 4) rfl rfl (pgs_cons (pg_name (i := 2) sc_sum_edge.nd rfl (Or.inl rfl)) (pgs_cons (pg_name (i := 3) sc_sum_edge.nd rfl (Or.inl rfl)) (pgs_cons (pg_name (i := 4) sc_sum_edge.nd rfl (Or.inl rfl)) (pgs_cons (pg_name (i := 5) sc_sum_edge.nd rfl (Or.inl rfl)) pgs_nil)))))) (pss_cons (ps_asg (pv 1) (pg_tupK (K := K) (n := 4) rfl rfl (pgs_cons (pg_name (i := 6) sc_sum_edge.nd rfl (Or.inl rfl)) (pgs_cons (pg_name (i := 7) sc_sum_edge.nd rfl (Or.inl rfl)) (pgs_cons (pg_name (i := 8) sc_sum_edge.nd rfl (Or.inl rfl)) (pgs_cons (pg_name (i := 9) sc_sum_edge.nd rfl (Or.inl rfl)) pgs_nil)))))) (pss_cons (ps_if (PW.pt (pw_or (pt_cmpR op_ne (pv 4) pe_str (nomark _)) (pw_or (pt_cmpR op_ne (pv 3) (pv 6) (nomark _)) (pw_or (pt_cmpR op_eq (pv 2) (pv 7) (nomark _)) (pw_or (pt_val (pe_cal C_is_loop (by first | exact hr | exact hr.mono (by decide)) (by rfl) (pa_cons (pv 0) pa_nil))) (pw_or1 (pt_val (pe_cal C_is_loop (by first | exact hr | exact hr.mono (by decide)) (by rfl) (pa_cons (pv 1) pa_nil))))))))) (pss_one (ps_ret pe_non)) pss_nil) (pss_one (ps_ret (pe_tup (pa_cons (pv 2) (pa_cons (pv 7) (pa_cons (pv 8) (pa_cons (pe_op op_add (pv 5) (pv 9)) pa_nil)))))))))), ?_⟩
    refine q_unp4 (ed_of (ev_var rfl) ha) fun v1 v2 v3 v4 H1 e1 h1 h2 h3 h4 => ?_
    cases h1; cases h2; cases h3; cases h4
    refine q_unp4 (ed_of (ev_var rfl) (dp_ex e1 hb)) fun v1 v2 v3 v4 H2 e2 h1 h2 h3 h4 => ?_
    cases h1; cases h2; cases h3; cases h4
    have ha2 := dp_ex (e1.trans e2) ha
    have hb2 := dp_ex (e1.trans e2) hb
    refine q_when (et_or (et_test (ev_opD (K := K) (ed_str (ev_var rfl)) (ed_str ev_c) rd_neS)) fun _ => et_or (et_test (ev_opD (K := K) (ed_str (ev_var rfl)) (ed_str (ev_var rfl)) rd_neS)) fun _ => et_or (et_test (ev_opD (K := K) (ed_str (ev_var rfl)) (ed_str (ev_var rfl)) rd_eqS)) fun _ =>
      et_or (et_B (ev_call (ea_cons (ev_var rfl) ea_nil) (spvLoop ha2))) fun _ => et_B (ev_call (ea_cons (ev_var rfl) ea_nil) (spvLoop hb2))) (fun ht H3 e3 => ?_) (fun ht H3 e3 => ?_)
    · have e : Cl.sumE ("" : Str) a b = none := by
        unfold Cl.sumE
        rw [if_pos]
        simpa using ht
      rw [e] at q
      exact s_retD ((e1.trans e2).trans e3) (ed_of ev_c .non) q
    · have e : Cl.sumE ("" : Str) a b = some ⟨a.x, b.y, b.e, a.w + b.w⟩ := by
        unfold Cl.sumE
        rw [if_neg]
        simpa using ht
      rw [e] at q
      exact s_retD ((e1.trans e2).trans e3) (ed_tup (eds_cons (ed_str (ev_var rfl)) (eds_cons (ed_str (ev_var rfl)) (eds_cons (ed_str (ev_var rfl)) (eds_cons (ed_int (ev_op (ev_var rfl) (ev_var rfl) rv_I0)) eds_nil)))) (by show 4 ≤ 100000; decide)) q
abbrev s_early_edge : Stmt := topS 39
theorem sc_early_edge : FnScope ["tasks", "edge", "x", "z", "end", "weight"] ["tasks", "edge"] (defScope s_early_edge) := ⟨rfl, rfl, rfl, by decide +kernel, rfl, by decide +kernel, by decide +kernel⟩
theorem ok_early_edge (F : Fun K "early_edge" "early_edge" s_early_edge f fd) (T : Txt mg tg) (C_is_loop : Cal P w K mg base 1 "is_loop" ["edge"] (spLoop K)) : FnOk P w K mg base CX0 2 f fd ["tasks", "edge"] (spEarly K) := by
  refine F.ok sc_early_edge (fun vs H Q E h => ?_) (fun cdv A outer s H vs Q E hr h => ?_)
  · obtain ⟨t, v, ts, a, rfl, _⟩ := h
    rfl
  · obtain ⟨t, v, ts, a, rfl, ht, ha, q⟩ := h
    refine ⟨_, (pss_cons (ps_asg (pv 1) (pg_tupK (K := K) (n := 4) rfl rfl (pgs_cons (pg_name (i := 2) sc_early_edge.nd rfl (Or.inl rfl)) (pgs_cons (pg_name (i := 3) sc_early_edge.nd rfl (Or.inl rfl)) (pgs_cons (pg_name (i := 4) sc_early_edge.nd rfl (Or.inl rfl)) (pgs_cons (pg_name (i := 5) sc_early_edge.nd rfl (Or.inl rfl)) pgs_nil)))))) (pss_cons (ps_if (PW.pt (pw_or (pt_cmpR op_ge (pv 5) pe_int (nomark _)) (pw_or (pt_cmp (pc_dnotin (hu_of hr) (pv 2) (pv 0))) (pw_or (pt_cmpR op_eq (pv 2) (pv 4) (nomark _)) (pw_or1 (pt_val (pe_cal C_is_loop (by first | exact hr | exact hr.mono (by decide)) (by rfl) (pa_cons (pv 1) pa_nil)))))))) (pss_one (ps_ret pe_non)) pss_nil) (pss_one (ps_ret (pe_tup (pa_cons (pe_ix (ix_tupK (K := K) rfl) (pe_dget (hu_of hr) (pv 0) (pv 2) (fun _ _ => rfl)) pe_int (fun _ _ => rfl)) (pa_cons (pv 3) (pa_cons (pv 4) (pa_cons (pe_op op_add (pe_ix (ix_tupK (K := K) rfl) (pe_dget (hu_of hr) (pv 0) (pv 2) (fun _ _ => rfl)) pe_int (fun _ _ => rfl)) (pv 5)) pa_nil))))))))), ?_⟩
    refine q_unp4 (ed_of (ev_var rfl) ha) fun v1 v2 v3 v4 H1 e1 h1 h2 h3 h4 => ?_
    cases h1; cases h2; cases h3; cases h4
    have ha2 := dp_ex e1 ha
    obtain ⟨kvs, hk, hD⟩ := ht.ex e1
    have hl := look_tmD (tMap ts) a.x
    refine q_when (et_or (et_test (ev_op (ev_var rfl) ev_c rv_I0)) fun _ => et_or (et_test (ev_dninR (k := .inr a.x) (ev_var rfl) (ev_var rfl) hk (hD.isSome _))) fun _ => et_or (et_test (ev_opD (K := K) (ed_str (ev_var rfl)) (ed_str (ev_var rfl)) rd_eqS)) fun _ =>
      et_B (ev_call (ea_cons (ev_var rfl) ea_nil) (spvLoop ha2))) (fun hb H3 e3 => ?_) (fun hb H3 e3 => ?_)
    · have e : Cl.earlyE (tFun ts) a = none := by
        unfold Cl.earlyE tFun
        rw [hl] at hb
        cases hx : Cl.lookA (tMap ts) a.x with
        | none => rfl
        | some tk =>
          rw [hx] at hb
          dsimp only
          rw [if_pos]
          simpa using hb
      rw [e] at q
      exact s_retD (e1.trans e3) (ed_of ev_c .non) q
    · rw [hl] at hb
      cases hx : Cl.lookA (tMap ts) a.x with
      | none => rw [hx] at hb; simp at hb
      | some tk =>
        rw [hx] at hb hl
        have e : Cl.earlyE (tFun ts) a = some ⟨tk.b, a.y, a.e, tk.lo + a.w⟩ := by
          unfold Cl.earlyE tFun
          rw [hx]
          dsimp only
          rw [if_neg]
          simpa using hb
        rw [e] at q
        rcases hD.look (.inr a.x) with ⟨n, _⟩ | ⟨u, d, g1, g2, g3⟩
        · rw [hl] at n; cases n
        · rw [hl] at g1
          cases g1
          have k3 := ex_rd e3 hk
          have d3 := dp_ex e3 g3
          exact s_retD (e1.trans e3) (ed_tup (eds_cons (ed_ixT 0 (ed_of (ev_dgetR (k := .inr a.x) (ev_var rfl) k3 (ev_var rfl) g2) d3) ev_c rfl rfl) (eds_cons (ed_str (ev_var rfl)) (eds_cons (ed_str (ev_var rfl)) (eds_cons (ed_int (ev_op (ev_intD (ed_ixT 2 (ed_of (ev_dgetR (k := .inr a.x) (ev_var rfl) k3 (ev_var rfl) g2) d3) ev_c rfl rfl)) (ev_var rfl) rv_I0)) eds_nil)))) (by show 4 ≤ 100000; decide)) q
abbrev s_sure_edge : Stmt := topS 40
theorem sc_sure_edge : FnScope ["tasks", "edge", "x", "y", "end", "weight"] ["tasks", "edge"] (defScope s_sure_edge) := ⟨rfl, rfl, rfl, by decide +kernel, rfl, by decide +kernel, by decide +kernel⟩
theorem ok_sure_edge (F : Fun K "sure_edge" "sure_edge" s_sure_edge f fd) (T : Txt mg tg) (C_is_loop : Cal P w K mg base 1 "is_loop" ["edge"] (spLoop K)) : FnOk P w K mg base CX0 2 f fd ["tasks", "edge"] (spSure K) := by
  refine F.ok sc_sure_edge (fun vs H Q E h => ?_) (fun cdv A outer s H vs Q E hr h => ?_)
  · obtain ⟨t, v, ts, a, rfl, _⟩ := h
    rfl
  · obtain ⟨t, v, ts, a, rfl, ht, ha, hin, q⟩ := h
    refine ⟨_, (pss_cons (ps_asg (pv 1) (pg_tupK (K := K) (n := 4) rfl rfl (pgs_cons (pg_name (i := 2) sc_sure_edge.nd rfl (Or.inl rfl)) (pgs_cons (pg_name (i := 3) sc_sure_edge.nd rfl (Or.inl rfl)) (pgs_cons (pg_name (i := 4) sc_sure_edge.nd rfl (Or.inl rfl)) (pgs_cons (pg_name (i := 5) sc_sure_edge.nd rfl (Or.inl rfl)) pgs_nil)))))) (pss_cons (ps_if (PW.pt (pw_or (pt_cmpR op_eq (pv 4) pe_str (nomark _)) (pw_or1 (pt_val (pe_cal C_is_loop (by first | exact hr | exact hr.mono (by decide)) (by rfl) (pa_cons (pv 1) pa_nil)))))) (pss_one (ps_ret pe_non)) pss_nil) (pss_one (ps_ret (pe_tup (pa_cons (pv 2) (pa_cons (pv 3) (pa_cons pe_str (pa_cons (pe_callB (call_max2 rfl) (by rfl) T.max (by decide +kernel) (pa_cons (pv 5) (pa_cons (pe_un un_neg (pe_ix (ix_tupK (K := K) rfl) (pe_dget (hu_of hr) (pv 0) (pv 4) (fun _ _ => rfl)) pe_int (fun _ _ => rfl))) pa_nil))) pa_nil))))))))), ?_⟩
    refine q_unp4 (ed_of (ev_var rfl) ha) fun v1 v2 v3 v4 H1 e1 h1 h2 h3 h4 => ?_
    cases h1; cases h2; cases h3; cases h4
    have ha2 := dp_ex e1 ha
    obtain ⟨kvs, hk, hD⟩ := ht.ex e1
    have hl := look_tmD (tMap ts) a.e
    refine q_when (et_or (et_test (ev_opD (K := K) (ed_str (ev_var rfl)) (ed_str ev_c) rd_eqS)) fun _ => et_B (ev_call (ea_cons (ev_var rfl) ea_nil) (spvLoop ha2))) (fun hb H3 e3 => ?_) (fun hb H3 e3 => ?_)
    · have e : Cl.sureE ("" : Str) (tFun ts) a = none := by
        unfold Cl.sureE
        rw [if_pos]
        simpa using hb
      rw [e] at q
      exact s_retD (e1.trans e3) (ed_of ev_c .non) q
    · have hb2 : ¬ (a.e = "" ∨ a.x = a.y) := by simpa using hb
      have hs := hin fun z => hb2 (.inl z)
      cases hx : Cl.lookA (tMap ts) a.e with
      | none =>
        unfold tFun at hs
        rw [hx] at hs
        cases hs
      | some tk =>
        rw [hx] at hl
        have e : Cl.sureE ("" : Str) (tFun ts) a = some ⟨a.x, a.y, "", max a.w (-tk.lo)⟩ := by
          unfold Cl.sureE tFun
          rw [if_neg hb2, hx]
        rw [e] at q
        rcases hD.look (.inr a.e) with ⟨n, _⟩ | ⟨u, d, g1, g2, g3⟩
        · rw [hl] at n; cases n
        · rw [hl] at g1
          cases g1
          have k3 := ex_rd e3 hk
          have d3 := dp_ex e3 g3
          refine s_retD (e1.trans e3) (ed_tup (eds_cons (ed_str (ev_var rfl)) (eds_cons (ed_str (ev_var rfl)) (eds_cons (ed_str ev_c) (eds_cons (ed_int (ev_is (ev_max2 (ev_var rfl) (ev_un (ev_intD (ed_ixT 2 (ed_of (ev_dgetR (k := .inr a.e) (ev_var rfl) k3 (ev_var rfl) g2) d3) ev_c rfl rfl)) ru_neg)) ?_)) eds_nil)))) (by show 4 ≤ 100000; decide)) q
          congr 1
          show (if -tk.lo > a.w then -tk.lo else a.w) = max a.w (-tk.lo)
          split <;> omega
abbrev s_is_news : Stmt := topS 41
theorem sc_is_news : FnScope ["known", "edge", "x", "y", "end", "weight"] ["known", "edge"] (defScope s_is_news) := ⟨rfl, rfl, rfl, by decide +kernel, rfl, by decide +kernel, by decide +kernel⟩
theorem ok_is_news (F : Fun K "is_news" "is_news" s_is_news f fd) (T : Txt mg tg) : FnOk P w K mg base CX0 1 f fd ["known", "edge"] (spNews K) := by
  refine F.ok sc_is_news (fun vs H Q E h => ?_) (fun cdv A outer s H vs Q E hr h => ?_)
  · obtain ⟨D, v, kn, a, rfl, _⟩ := h
    rfl
  · obtain ⟨D, v, kn, a, rfl, hK, ha, q⟩ := h
    refine ⟨_, (pss_cons (ps_asg (pv 1) (pg_tupK (K := K) (n := 4) rfl rfl (pgs_cons (pg_name (i := 2) sc_is_news.nd rfl (Or.inl rfl)) (pgs_cons (pg_name (i := 3) sc_is_news.nd rfl (Or.inl rfl)) (pgs_cons (pg_name (i := 4) sc_is_news.nd rfl (Or.inl rfl)) (pgs_cons (pg_name (i := 5) sc_is_news.nd rfl (Or.inl rfl)) pgs_nil)))))) (pss_cons (ps_if (pt_cmpR op_eq (pv 2) (pv 3) (nomark _)) (pss_one (ps_ret (pe_cmpR op_lt (pv 5) pe_int (nomark _)))) pss_nil) (pss_one (ps_ret (pe_or (pe_cmp (pc_dnotin (hu_of hr) (pe_tup (pa_cons (pv 2) (pa_cons (pv 3) (pa_cons (pv 4) pa_nil)))) (pv 0)) rfl) (pe_one (pe_cmpR op_lt (pv 5) (pe_ix (ix_tupK (K := K) rfl) (pe_ix (ix_tupK (K := K) rfl) (pe_dget (hu_of hr) (pv 0) (pe_tup (pa_cons (pv 2) (pa_cons (pv 3) (pa_cons (pv 4) pa_nil)))) (fun _ _ => rfl)) pe_int (fun _ _ => rfl)) pe_int (fun _ _ => rfl)) (nomark _)))))))), ?_⟩
    refine q_unp4 (ed_of (ev_var rfl) ha) fun v1 v2 v3 v4 H1 e1 h1 h2 h3 h4 => ?_
    cases h1; cases h2; cases h3; cases h4
    refine q_when (et_test (ev_opD (K := K) (ed_str (ev_var rfl)) (ed_str (ev_var rfl)) rd_eqS)) (fun hb H3 e3 => ?_) (fun hb H3 e3 => ?_)
    · have e : Cl.isNews kn a = decide (a.w < 0) := by
        unfold Cl.isNews
        rw [if_pos (of_decide_eq_true hb)]
      rw [e] at q
      exact s_ret (ev_op (ev_var rfl) ev_c rv_I0) fun H4 e4 => q H4 ((e1.trans e3).trans e4)
    · obtain ⟨kvs, hk, hD⟩ := (hK.ex (e1.trans e3))
      have hl := look_knD kn a.k
      have eu : ∀ σ : L2.St, σ[2]? = some (some (.str a.x)) → σ[3]? = some (some (.str a.y)) → σ[4]? = some (some (.str a.e)) → EvU (tTup (tCons (tVar 2) (tCons (tVar 3) (tCons (tVar 4) tNil)))) σ H3 ((keyL a.k).map kV) := fun σ g1 g2 g3 =>
        eu_tup (ea_cons (ev_var g1) (ea_cons (ev_var g2) (ea_cons (ev_var g3) ea_nil))) (by show 3 ≤ 100000; decide)
      have e : Cl.isNews kn a = (!(Cl.lookA (knD kn) (keyL a.k)).isSome || (match Cl.lookA kn a.k with | none => true | some p => decide (a.w < p.1.w))) := by
        unfold Cl.isNews
        rw [if_neg (of_decide_eq_false hb), hl]
        cases Cl.lookA kn a.k <;> rfl
      rw [e] at q
      refine s_ret (ev_orV (ev_dninT (eu _ rfl rfl rfl) (ev_var rfl) hk (hD.isSome _)) fun hn => ?_) fun H4 e4 => q H4 ((e1.trans e3).trans e4)
      cases hx : Cl.lookA kn a.k with
      | none => rw [hl, hx] at hn; cases hn
      | some p =>
        rw [hx] at hl
        rcases hD.look (keyL a.k) with ⟨n, _⟩ | ⟨u, d, g1, g2, g3⟩
        · rw [hl] at n; cases n
        · rw [hl] at g1
          cases g1
          exact ev_op (ev_var rfl) (ev_intD (ed_ixT 3 (ed_ixT 0 (ed_of (ev_dgetT (ev_var rfl) hk (eu _ rfl rfl rfl) g2) g3) ev_c rfl rfl) ev_c rfl rfl)) rv_I0
abbrev s_first_lines : Stmt := topS 42
theorem sc_first_lines : FnScope ["plan", "edge", "given"] ["plan"] (defScope s_first_lines) := ⟨rfl, rfl, rfl, by decide +kernel, rfl, by decide +kernel, by decide +kernel⟩
theorem ok_first_lines (F : Fun K "first_lines" "first_lines" s_first_lines f fd) (T : Txt mg tg) (C_given_edges : Cal P w K mg base 1 "given_edges" ["plan"] (spEdges K givenE)) (C_longest_edges : Cal P w K mg base 1 "longest_edges" ["plan"] (spEdges K longE)) : FnOk P w K mg base CX0 2 f fd ["plan"] (spFirst K) := by
  refine F.ok sc_first_lines (fun vs H Q E h => ?_) (fun cdv A outer s H vs Q E hr h => ?_)
  · obtain ⟨v, p, rfl, _⟩ := h
    rfl
  · obtain ⟨v, p, rfl, hP, hz, q⟩ := h
    refine ⟨_, (pss_cons (ps_setLc (i := 2) (own := [("edge", 1)]) rfl sc_first_lines.nd rfl rfl (sw_true rfl rfl rfl (by decide +kernel)) (pi_listK (K := K) rfl (pe_cal C_given_edges (by first | exact hr | exact hr.mono (by decide)) (by rfl) (pa_cons (pv 0) pa_nil))) (blkOk_by (own := [("edge", 1)]) (N := ["plan", "edge", "given"]) (sc := defScope s_first_lines) (by decide +kernel)) (fun _ _ _ _ _ => (pg_name (i := 1) sc_first_lines.nd rfl (Or.inl rfl))) (fun _ _ _ _ _ => pts_nil) (fun _ _ _ _ _ => (pe_tup (pa_cons (pv 1) (pa_cons pe_str (pa_cons (pe_tup pa_nil) pa_nil)))))) (pss_one (ps_ret (pe_op op_cat (pv 2) (pe_lc (own := [("edge", 1)]) rfl sc_first_lines.nd (pi_listK (K := K) rfl (pe_cal C_longest_edges (by first | exact hr | exact hr.mono (by decide)) (by rfl) (pa_cons (pv 0) pa_nil))) (blkOk_by (own := [("edge", 1)]) (N := ["plan", "edge", "given"]) (sc := defScope s_first_lines) (by decide +kernel)) (fun _ _ _ _ _ => (pg_name (i := 1) sc_first_lines.nd rfl (Or.inl rfl))) (fun _ _ _ _ _ => pts_nil) (fun _ _ _ _ _ => (pe_tup (pa_cons (pv 1) (pa_cons pe_str (pa_cons (pe_tup pa_nil) pa_nil)))))))))), ?_⟩
    have lines : ∀ (fE : PlanL → List EdS) (ru : Cl.Ru) (te : TE) (σ : L2.St) (H1 : Hp), EvN K te σ H1 ((fE p).map edD) → σ.length = 3 → (fE p).length ≤ 6000 → (wipe σ [1])[1]? = some none →
        EvN K (tLc (iList K te) (gName 1) tYes (tTup (tCons (tVar 1) (tCons (tC (.str (ruS ru))) (tCons (tTup tNil) tNil)))) [1]) σ H1 (((fE p).map fun a => (⟨a, ru, []⟩ : LnS)).map lnD) := fun fE ru te σ H1 hN hl h6 hw => by
      refine en_is (en_lcL (fun _ => true) (fun i => (((fE p).map fun a => (⟨a, ru, []⟩ : LnS)).map lnD).getD i .none) (ed_n hN) (by rw [List.length_map]; omega) (fun i _ => noL_getD noL_ln _ i) fun i x d H2 e2 hi hx => ?_) ?_
      · rw [List.getElem?_map] at hi
        obtain ⟨a, ha, rfl⟩ := Option.map_eq_some_iff.mp hi
        refine ⟨(wipe σ [1]).set 1 (some x), ?_, goes_name, fun H1 e Q q => q H1 (Ex.refl H1), fun _ => ?_⟩
        · unfold wipe
          show ((wipe σ []).set 1 none |>.set 1 (some x)).set 1 none = (wipe σ []).set 1 none
          simp
        · have hg : (((fE p).map fun a => (⟨a, ru, []⟩ : LnS)).map lnD).getD i .none = lnD ⟨a, ru, []⟩ := getD_of (by rw [List.getElem?_map, List.getElem?_map, ha]; rfl)
          rw [hg]
          have h1 : ((wipe σ [1]).set 1 (some x))[1]? = some (some x) := by
            rw [List.getElem?_set_self]
            have := (List.getElem?_eq_some_iff.mp hw).1
            exact this
          exact ed_tup (eds_cons (ed_of (ev_var h1) hx) (eds_cons (ed_str ev_c) (eds_cons (ed_tup eds_nil (Nat.zero_le _)) eds_nil))) (by show 3 ≤ 100000; decide)
      · have hl : ((fE p).map edD).length = (((fE p).map fun a => (⟨a, ru, []⟩ : LnS)).map lnD).length := by simp
        rw [hl]
        have := givenD_sel (((fE p).map fun a => (⟨a, ru, []⟩ : LnS)).map lnD) (fun _ => true) id
        rw [List.map_id, List.filter_eq_self.mpr fun _ _ => rfl] at this
        exact this
    have hg6 : (givenE p).length ≤ 6000 := by
      rw [← gv3_end]
      have := gv3_len p hz p.ts.length
      rw [List.length_map] at this
      exact this
    have hl6 : (longE p).length ≤ 6000 := by
      unfold longE
      rw [List.length_map]
      have := hz.t
      omega
    refine q_asgN (K := K) (lines givenE .given _ _ H (en_call (ea_cons (ev_var rfl) ea_nil) fun H1 e Q q E => ⟨v, p, rfl, hP.ex e, hz, q⟩) rfl hg6 rfl) fun l xs H1 hl e1 h1 d1 => ?_
    refine s_retN e1 (en_is (en_cat1 (K := K) (ev_var rfl) h1 d1 (lines longE .longest _ _ H1 (en_call (ea_cons (ev_var rfl) ea_nil) fun H2 e Q q E => ⟨v, p, rfl, hP.ex (e1.trans e), hz, q⟩) rfl hl6 rfl) (by simp; omega)) ?_) q
    unfold firstL
    rw [List.map_append]
end
end Vf
end
section
set_option autoImplicit false
set_option linter.all false
/-! How many lines there can be; the rounds one by one. -/
namespace Vf.Cl
variable {N : Type} [DecidableEq N]
inductive Runs (o : N) (T : N → Option (Tk N)) (F : Sta N → List (Ln N) → Prop) : Nat → Sta N → List (Ln N) → Sta N × List Nat → Prop
  | stop {s : Sta N} : F s [] → Runs o T F 0 s [] (s, [])
  | ring {s : Sta N} {c : List (Ln N)} {r : List Nat} : F s c → c ≠ [] → ringPl (addAll s c).1 = some r → r ≠ [] → Runs o T F 0 s c (addAll s c, r)
  | more {s : Sta N} {c : List (Ln N)} {q : Sta N × List Nat} {n : Nat} : F s c → c ≠ [] → ringPl (addAll s c).1 = some [] → Runs o T F n (addAll s c) (nextLn o T (addAll s c).1) q → Runs o T F (n + 1) s c q
structure Grow (o : N) (T : N → Option (Tk N)) (bs : List (Ed N)) (ns es : List N) (go : N) (lat : Int) (G : Nat) : Prop where
  to' : ∀ x ∈ ns, x ≠ go → (⟨x, go, o, 0⟩ : Ed N) ∈ bs ∧ (⟨go, x, o, lat⟩ : Ed N) ∈ bs
  lat0 : 0 ≤ lat
  lat1 : lat ≤ G
  up : ∀ a ∈ bs, a.w ≤ G
  lo : ∀ v t, T v = some t → 0 ≤ t.lo ∧ t.lo ≤ G
  lab : ∀ e ∈ es, e ≠ o → (T e).isSome = true
/-- the most lines -/
def most (U G b m : Nat) : Nat := U * (G * (U + 2) + 1 + b) + U * U + 2 * U + m
structure Low3 (U G : Nat) (s : Sta N) (o : N) : Prop where
  plain : ∀ a ∈ edges s.1, a.e = o → a.w ≤ G
  all : ∀ a ∈ edges s.1, a.w ≤ G + G * s.1.length
  many : (s.2.length : Int) ≤ s.1.length * (((G * (U + 2) : Nat) : Int) + 1) - Sw (wts s.1)
theorem wts_len (kn : Knw N) : (wts kn).length = kn.length := List.length_map ..
theorem many_add1 {C : Nat} {s : Sta N} {l : Ln N} (ok : OkK s.1) (nl : NoLp (add1 s l).1) (hw : l.ed.w ≤ C) (h : (s.2.length : Int) ≤ s.1.length * ((C : Int) + 1) - Sw (wts s.1)) :
    ((add1 s l).2.length : Int) ≤ (add1 s l).1.length * ((C : Int) + 1) - Sw (wts (add1 s l).1) := by
  unfold add1 at nl ⊢
  by_cases z : isNews s.1 l.ed = true
  · rw [if_pos z] at nl ⊢
    have hx : l.ed.x ≠ l.ed.y := by
      obtain ⟨p, hp, e⟩ := key_put (kn := s.1) (k := l.ed.k) (q := (l.ed, s.2.length))
      have := nl p hp
      rw [e] at this
      exact this
    have nd : ((wts s.1).map (·.1)).Nodup := by
      unfold wts
      rw [List.map_map]
      exact ok.nd
    show ((s.2 ++ [l]).length : Int) ≤ _ - Sw (wts (putA s.1 l.ed.k (l.ed, s.2.length)))
    rw [List.length_append, wts_put, ← wts_len (putA s.1 l.ed.k (l.ed, s.2.length)), wts_put]
    cases e : lookA (wts s.1) l.ed.k with
    | none =>
      rw [putA_new _ e, List.length_append, wts_len]
      have hs : ∀ (r : List ((N × N × N) × Int)) (q : (N × N × N) × Int), Sw (r ++ [q]) = Sw r + q.2 := by
        intro r q
        induction r with
        | nil => show q.2 + 0 = 0 + q.2; omega
        | cons p r ih => rw [List.cons_append, Sw_cons, Sw_cons, ih]; omega
      rw [hs]
      show ((s.2.length + 1 : Nat) : Int) ≤ ((s.1.length + 1 : Nat) : Int) * ((C : Int) + 1) - (Sw (wts s.1) + l.ed.w)
      rw [Int.natCast_add, Int.natCast_add, Int.add_mul]
      show (s.2.length : Int) + 1 ≤ (s.1.length * ((C : Int) + 1) + 1 * ((C : Int) + 1)) - (Sw (wts s.1) + l.ed.w)
      omega
    | some v =>
      have lt := news_of z hx v e
      rw [Sw_put nd _ e, putA_len, e, if_pos (show (some v).isSome = true from rfl), wts_len]
      show ((s.2.length + 1 : Nat) : Int) ≤ _
      omega
  · rw [if_neg z]
    exact h
theorem many_add {C : Nat} {c : List (Ln N)} : ∀ {s : Sta N}, OkK s.1 → NoLp (addAll s c).1 → (∀ l ∈ c, l.ed.w ≤ C) → (s.2.length : Int) ≤ s.1.length * ((C : Int) + 1) - Sw (wts s.1) →
    ((addAll s c).2.length : Int) ≤ (addAll s c).1.length * ((C : Int) + 1) - Sw (wts (addAll s c).1) := by
  induction c with
  | nil => exact fun _ _ _ h => h
  | cons l c ih =>
    intro s ok nl hw h
    exact ih (s := add1 s l) (ok_add1 ok l) nl (fun m hm => hw m (List.mem_cons_of_mem _ hm)) (many_add1 ok (nolp_back (c := c) (s := add1 s l) nl) (hw l (List.mem_cons_self ..)) h)
theorem sum_in_next {o : N} {T : N → Option (Tk N)} {kn : Knw N} {f s r : Ed N} (hf : f ∈ edges kn) (hs : s ∈ edges kn) (e : sumE o f s = some r) (hn : isNews kn r = true) : ∃ l ∈ nextLn o T kn, l.ed = r := by
  have out : ∀ {a}, a ∈ edges kn → ∃ n, (a, n) ∈ kn.map (·.2) := fun {a} ha => by
    obtain ⟨p, hp, rfl⟩ := List.mem_map.mp ha
    exact ⟨p.2.2, List.mem_map.mpr ⟨p, hp, rfl⟩⟩
  obtain ⟨n, hf⟩ := out hf
  obtain ⟨m, hs⟩ := out hs
  exact ⟨⟨r, .sum, [n, m]⟩, List.mem_append_left _ (List.mem_flatMap.mpr ⟨_, hf, List.mem_flatMap.mpr ⟨_, List.mem_filter.mpr ⟨hs, decide_eq_true (sumE_some e).2.1.symm⟩, mem_news.mpr ⟨r, e, hn, rfl⟩⟩⟩), rfl⟩
theorem news_len {kn : Knw N} {o : Option (Ed N)} {ru : Ru} {src : List Nat} : (newsLn kn o ru src).length ≤ 1 := by
  unfold newsLn
  split
  · exact Nat.zero_le _
  · split
    · exact Nat.le_refl _
    · exact Nat.zero_le _
theorem flat_len {α β : Type} {f : α → List β} {m : Nat} (h : ∀ a, (f a).length ≤ m) : ∀ l : List α, (l.flatMap f).length ≤ l.length * m
  | [] => Nat.zero_le _
  | a :: l => by
    rw [List.flatMap_cons, List.length_append, List.length_cons, Nat.add_mul]
    have h1 := h a
    have h2 := flat_len h l
    omega
theorem sum_len (o : N) (kn : Knw N) : (sumLines o kn).length ≤ kn.length * kn.length := by
  unfold sumLines
  refine Nat.le_trans (flat_len (m := kn.length) (fun f => ?_) _) (Nat.le_of_eq (by rw [List.length_map]))
  refine Nat.le_trans (flat_len (m := 1) (fun s => news_len) _) ?_
  rw [Nat.mul_one]
  exact Nat.le_trans (List.length_filter_le ..) (Nat.le_of_eq (List.length_map ..))
theorem task_len (o : N) (T : N → Option (Tk N)) (kn : Knw N) : (taskLines o T kn).length ≤ 2 * kn.length := by
  unfold taskLines
  refine Nat.le_trans (flat_len (m := 2) (fun f => ?_) _) (Nat.le_of_eq (by rw [List.length_map, Nat.mul_comm]))
  rw [List.length_append]
  exact Nat.add_le_add news_len news_len
variable {o : N} {T : N → Option (Tk N)} {bs : List (Ed N)} {ns es : List N} {b : Nat} {go : N} {lat : Int} {G : Nat}
/-- what holds where a round begins -/
structure FineS (o : N) (T : N → Option (Tk N)) (bs : List (Ed N)) (ns es : List N) (L : Nat) (s : Sta N) (c : List (Ln N)) : Prop where
  ok : OkK s.1
  len : s.1.length ≤ (univ ns es).length
  len2 : (addAll s c).1.length ≤ (univ ns es).length
  many : s.2.length + c.length ≤ L
  lab : ∀ a ∈ edges s.1, a.e ≠ o → (T a.e).isSome = true
  labc : ∀ l ∈ c, l.ed.e ≠ o → (T l.ed.e).isSome = true
theorem klen (B : Base o T bs ns es b) {kn : Knw N} (ok : OkK kn) (hd : ∀ a ∈ edges kn, Der o T (· ∈ bs) a) : kn.length ≤ (univ ns es).length := by
  rw [← List.length_map (f := (·.1)) (as := kn)]
  refine sub_len _ _ ok.nd fun k hk => ?_
  obtain ⟨p, hp, rfl⟩ := List.mem_map.mp hk
  rw [ok.ky p hp]
  have h := der_nm B (hd p.2.1 (List.mem_map.mpr ⟨p, hp, rfl⟩))
  exact mem_univ h.1 h.2.1 h.2.2
theorem low_round (B : Base o T bs ns es b) (W : Grow o T bs ns es go lat G) {s : Sta N} (ok : OkK s.1) (hd : ∀ a ∈ edges s.1, Der o T (· ∈ bs) a) (hb : ∀ a ∈ bs, Dom (Mk s.1) a) (l3 : Low3 (univ ns es).length G s o) (hlen : s.1.length ≤ (univ ns es).length) (nr0 : NoLp s.1) (nl : NoLp (addAll s (nextLn o T s.1)).1) :
    Low3 (univ ns es).length G (addAll s (nextLn o T s.1)) o := by
  have ok2 : OkK (addAll s (nextLn o T s.1)).1 := ok_add ok
  have cand : ∀ l ∈ nextLn o T s.1, l.ed.w ≤ G + (G + G * s.1.length) := fun l hl => by
    rcases (next_news hl).2 with ⟨f, hf, s', hs, e⟩ | ⟨a, ha, e⟩ | ⟨a, ha, e⟩
    · obtain ⟨h1, _, _, _, _, h2⟩ := sumE_some e
      rw [h2]
      have := l3.plain f hf h1
      have := l3.all s' hs
      show f.w + s'.w ≤ _
      omega
    · obtain ⟨t, ht, h1, _, _, h2⟩ := earlyE_some e
      rw [h2]
      have := (W.lo _ _ ht).2
      have : (0 : Int) ≤ G * s.1.length := Int.mul_nonneg (Int.natCast_nonneg _) (Int.natCast_nonneg _)
      show t.lo + a.w ≤ _
      omega
    · obtain ⟨t, ht, _, _, h2⟩ := sureE_some e
      rw [h2]
      have := l3.all a ha
      have := (W.lo _ _ ht).1
      have : (0 : Int) ≤ G * s.1.length := Int.mul_nonneg (Int.natCast_nonneg _) (Int.natCast_nonneg _)
      show max a.w (-t.lo) ≤ _
      omega
  have entry : ∀ {kn : Knw N}, OkK kn → ∀ {a : Ed N}, a ∈ edges kn → ∀ {c : Ed N}, Dom (Mk kn) c → c.k = a.k → a.w ≤ c.w := fun {kn} ok {a} ha {c} hc hk => by
    obtain ⟨v, hv, l⟩ := hc
    have := (inM_iff ok).mpr ha
    unfold InM at this
    rw [hk, this] at hv
    cases hv
    exact l
  have lenLe : s.1.length ≤ (addAll s (nextLn o T s.1)).1.length := by
    rw [← List.length_map (f := (·.1)) (as := s.1), ← List.length_map (f := (·.1)) (as := (addAll s (nextLn o T s.1)).1)]
    refine sub_len _ _ ok.nd fun k hk => ?_
    obtain ⟨p, hp, rfl⟩ := List.mem_map.mp hk
    obtain ⟨q, hq, e⟩ := keys_add (c := nextLn o T s.1) (s := s) ⟨p, hp, rfl⟩
    exact List.mem_map.mpr ⟨q, hq, e⟩
  refine ⟨fun a ha he => ?_, fun a ha => ?_, ?_⟩
  · -- plain ones
    have ha' := der_nm B (by
      rcases mem_add ha with h | ⟨l, hl, rfl⟩
      · exact hd a h
      · rcases (next_news hl).2 with ⟨f, hf, s', hs, e⟩ | ⟨c, hc, e⟩ | ⟨c, hc, e⟩
        · exact Der.sum (hd f hf) (hd s' hs) e
        · exact Der.early (hd c hc) e
        · exact Der.sure (hd c hc) e : Der o T (· ∈ bs) a)
    have hloop : a.x ≠ a.y := by
      obtain ⟨p, hp, rfl⟩ := List.mem_map.mp ha
      have := nl p hp
      rw [ok2.ky p hp] at this
      exact this
    have l1 := W.lat1
    have l0 := W.lat0
    by_cases hx : a.x = go
    · have hy : a.y ≠ go := fun z => hloop (hx.trans z.symm)
      have := entry ok2 ha (dom_add nl (hb _ (W.to' a.y ha'.2.1 hy).2)) (by unfold Ed.k; rw [hx, he])
      dsimp only at this
      omega
    · by_cases hy : a.y = go
      · have := entry ok2 ha (dom_add nl (hb _ (W.to' a.x ha'.1 hx).1)) (by unfold Ed.k; rw [hy, he])
        dsimp only at this
        omega
      · obtain ⟨v, iv, lv⟩ := (hb _ (W.to' a.x ha'.1 hx).1).get
        obtain ⟨u, iu, lu⟩ := (hb _ (W.to' a.y ha'.2.1 hy).2).get
        have e := sumE_of (o := o) (f := { (⟨a.x, go, o, 0⟩ : Ed N) with w := v }) (s := { (⟨go, a.y, o, lat⟩ : Ed N) with w := u }) rfl rfl hloop hx (fun z => hy z.symm)
        have hr : Dom (Mk (addAll s (nextLn o T s.1)).1) (⟨a.x, a.y, o, v + u⟩ : Ed N) := by
          by_cases z : isNews s.1 (⟨a.x, a.y, o, v + u⟩ : Ed N) = true
          · obtain ⟨l, hl, el⟩ := sum_in_next (T := T) ((inM_iff ok).mp iv) ((inM_iff ok).mp iu) e z
            have := dom_come nl l hl (by rw [el]; exact hloop)
            rw [el] at this
            exact this
          · exact dom_add nl ((not_news z).2 hloop)
        have := entry ok2 ha hr (by unfold Ed.k; rw [he])
        dsimp only at this lv lu
        omega
  · by_cases hk : ∃ p ∈ s.1, p.1 = a.k
    · obtain ⟨p, hp, e⟩ := hk
      have hp2 : p.2.1 ∈ edges s.1 := List.mem_map.mpr ⟨p, hp, rfl⟩
      have hk2 := ok.ky p hp
      have := entry ok2 ha (dom_add nl ⟨p.2.1.w, (inM_iff ok).mpr hp2, Int.le_refl _⟩) (hk2.symm.trans e)
      have h2 := l3.all _ hp2
      have h3 : (G : Int) * s.1.length ≤ G * (addAll s (nextLn o T s.1)).1.length := Int.mul_le_mul_of_nonneg_left (by omega) (Int.natCast_nonneg _)
      omega
    · have more : s.1.length + 1 ≤ (addAll s (nextLn o T s.1)).1.length := by
        have : (a.k :: s.1.map (·.1)).length ≤ ((addAll s (nextLn o T s.1)).1.map (·.1)).length := by
          refine sub_len _ _ (List.nodup_cons.mpr ⟨fun z => ?_, ok.nd⟩) fun k hk => ?_
          · obtain ⟨p, hp, e⟩ := List.mem_map.mp z
            exact hk ⟨p, hp, e⟩
          · rcases List.mem_cons.mp hk with rfl | hk
            · obtain ⟨p, hp, rfl⟩ := List.mem_map.mp ha
              exact List.mem_map.mpr ⟨p, hp, ok2.ky p hp⟩
            · obtain ⟨p, hp, rfl⟩ := List.mem_map.mp hk
              obtain ⟨q, hq, e⟩ := keys_add (c := nextLn o T s.1) (s := s) ⟨p, hp, rfl⟩
              exact List.mem_map.mpr ⟨q, hq, e⟩
        rw [List.length_cons, List.length_map, List.length_map] at this
        exact this
      have hc : a.w ≤ G + (G + G * s.1.length) := by
        rcases mem_add ha with h | ⟨l, hl, rfl⟩
        · obtain ⟨p, hp, rfl⟩ := List.mem_map.mp h
          exact absurd ⟨p, hp, ok.ky p hp⟩ hk
        · exact cand l hl
      have h3 : (G : Int) * (s.1.length + 1) ≤ G * (addAll s (nextLn o T s.1)).1.length := Int.mul_le_mul_of_nonneg_left (by omega) (Int.natCast_nonneg _)
      rw [Int.mul_add] at h3
      omega
  · refine many_add ok nl (fun l hl => ?_) l3.many
    have h1 := cand l hl
    have h2 : G * (s.1.length + 2) ≤ G * ((univ ns es).length + 2) := Nat.mul_le_mul_left _ (by omega)
    have h3 : (((G * (s.1.length + 2) : Nat)) : Int) = G + (G + G * s.1.length) := by
      rw [Nat.mul_add, Int.natCast_add, Int.natCast_mul]
      omega
    omega
theorem lines_few (B : Base o T bs ns es b) {s : Sta N} {c : List (Ln N)} {m : Nat} (g : Good (univ ns es).length b (wts s.1)) (l3 : Low3 (univ ns es).length G s o) (hc : c.length ≤ s.1.length * s.1.length + 2 * s.1.length) : s.2.length + c.length ≤ most (univ ns es).length G b m := by
  have h1 := l3.many
  have h2 := g.2
  have h3 := g.1
  rw [wts_len] at h2 h3
  unfold most
  generalize (univ ns es).length = U at *
  generalize s.1.length = n at *
  have h4 : (n : Int) * (((G * (U + 2) : Nat) : Int) + 1) ≤ U * (((G * (U + 2) : Nat) : Int) + 1) := Int.mul_le_mul_of_nonneg_right (by omega) (by omega)
  have h5 : (b : Int) * n ≤ b * U := Int.mul_le_mul_of_nonneg_left (by omega) (Int.natCast_nonneg _)
  have h6 : n * n ≤ U * U := Nat.mul_le_mul h3 h3
  have h7 : (s.2.length : Int) ≤ U * (((G * (U + 2) : Nat) : Int) + 1) + b * U := by omega
  have h8 : (((U * (G * (U + 2) + 1 + b) : Nat)) : Int) = U * (((G * (U + 2) : Nat) : Int) + 1) + b * U := by
    rw [Int.natCast_mul, Int.natCast_add, Int.natCast_add, Int.mul_add, Int.mul_comm (U : Int) (b : Int)]
    rfl
  omega
theorem settle_runs (B : Base o T bs ns es b) (W : Grow o T bs ns es go lat G) (first : List (Ln N)) (hf : first.map (·.ed) = bs) : ∃ n q, Runs o T (FineS o T bs ns es (most (univ ns es).length G b bs.length)) n ([], []) first q ∧ End o T bs q := by
  have closed : ∀ kn : Knw N, OkK kn → ¬ Ring (· ∈ edges kn) → nextLn o T kn = [] → (∀ a ∈ bs, Dom (Mk kn) a) → Closed o T (· ∈ bs) (Mk kn) := fun kn ok nr hn hb => by
    obtain ⟨h1, h2, h3⟩ := next_nil hn
    have nl := nolp_of ok nr
    have nl2 : ∀ a, InM (Mk kn) a → a.x ≠ a.y := fun a ha => by
      obtain ⟨p, hp, rfl⟩ := List.mem_map.mp ((inM_iff ok).mp ha)
      have := nl p hp
      rw [ok.ky p hp] at this
      exact this
    refine ⟨nl2, fun a ha => ⟨B.nl a ha, hb a ha⟩, fun f s r hf hs e => ?_, fun a r ha e => ?_, fun a r ha e => ?_⟩
    · refine (not_news (h1 f ((inM_iff ok).mp hf) s ((inM_iff ok).mp hs) r e)).2 ?_
      obtain ⟨_, _, z, _, _, rfl⟩ := sumE_some e
      exact z
    · exact not_news (h2 a ((inM_iff ok).mp ha) r e)
    · refine (not_news (h3 a ((inM_iff ok).mp ha) r e)).2 ?_
      obtain ⟨_, _, _, z, rfl⟩ := sureE_some e
      exact z
  have labs : ∀ a : Ed N, Der o T (· ∈ bs) a → a.e ≠ o → (T a.e).isSome = true := fun a d h => W.lab _ (der_nm B d).2.2 h
  have hnext : ∀ kn : Knw N, (∀ a ∈ edges kn, Der o T (· ∈ bs) a) → ∀ l ∈ nextLn o T kn, Der o T (· ∈ bs) l.ed := fun kn hd l hl => by
    rcases (next_news hl).2 with ⟨f, hf, s', hs, e⟩ | ⟨a, ha, e⟩ | ⟨a, ha, e⟩
    · exact .sum (hd f hf) (hd s' hs) e
    · exact .early (hd a ha) e
    · exact .sure (hd a ha) e
  have nlen : ∀ kn : Knw N, (nextLn o T kn).length ≤ kn.length * kn.length + 2 * kn.length := fun kn => by
    unfold nextLn
    rw [List.length_append]
    have := sum_len o kn
    have := task_len o T kn
    omega
  -- one round
  have round : ∀ (s : Sta N) (c : List (Ln N)), FineS o T bs ns es (most (univ ns es).length G b bs.length) s c → (∀ a ∈ edges s.1, Der o T (· ∈ bs) a) → (∀ l ∈ c, Der o T (· ∈ bs) l.ed) → c ≠ [] → (∀ a ∈ bs, (∃ l ∈ c, l.ed = a) ∨ Dom (Mk s.1) a) →
      (∀ q : Sta N, OkK q.1 → (∀ a ∈ edges q.1, Der o T (· ∈ bs) a) → ¬ Ring (· ∈ edges q.1) → (∀ a ∈ bs, Dom (Mk q.1) a) → q = addAll s c → ∃ n z, Runs o T (FineS o T bs ns es (most (univ ns es).length G b bs.length)) n q (nextLn o T q.1) z ∧ End o T bs z) →
      ∃ n z, Runs o T (FineS o T bs ns es (most (univ ns es).length G b bs.length)) n s c z ∧ End o T bs z := by
    intro s c F hd hc hne hb k
    have ok2 : OkK (addAll s c).1 := ok_add F.ok
    have hd2 : ∀ a ∈ edges (addAll s c).1, Der o T (· ∈ bs) a := fun a ha => by
      rcases mem_add ha with h | ⟨l, hl, rfl⟩
      · exact hd a h
      · exact hc l hl
    obtain ⟨l, e, h1, h2⟩ := ringOf_ok (edges (addAll s c).1)
    have er : ringPl (addAll s c).1 = some (l.map fun a => match lookA (addAll s c).1 a.k with | none => 0 | some p => p.2) := by
      unfold ringPl
      rw [e]
      rfl
    cases l with
    | nil =>
      have nr := h1 rfl
      have nl := nolp_of ok2 nr
      have hb2 : ∀ a ∈ bs, Dom (Mk (addAll s c).1) a := fun a ha => by
        rcases hb a ha with ⟨m, hm, rfl⟩ | h
        · exact dom_come nl m hm (B.nl _ ha)
        · exact dom_add nl h
      obtain ⟨n, z, hz, E⟩ := k _ ok2 hd2 nr hb2 rfl
      exact ⟨n + 1, z, .more F hne er hz, E⟩
    | cons a as =>
      obtain ⟨g1, ⟨x, g2⟩, g3, _⟩ := h2 (by simp)
      refine ⟨0, (addAll s c, _), .ring F hne er (by simp), ok2, hd2, fun z => (nomatch z), fun _ => ?_⟩
      have : Ring (· ∈ edges (addAll s c).1) := ⟨x, _, g2.way g1 (by simp), g3⟩
      exact this.up hd2
  -- all rounds behind the first one
  have rest : ∀ A, Good (univ ns es).length b A → ∀ s : Sta N, wts s.1 = A → OkK s.1 → (∀ a ∈ edges s.1, Der o T (· ∈ bs) a) → ¬ Ring (· ∈ edges s.1) → (∀ a ∈ bs, Dom (Mk s.1) a) → Low3 (univ ns es).length G s o →
      ∃ n z, Runs o T (FineS o T bs ns es (most (univ ns es).length G b bs.length)) n s (nextLn o T s.1) z ∧ End o T bs z := by
    refine lt_ind fun A g ih s hA ok hd nr hb l3 => ?_
    have gs : Good (univ ns es).length b (wts s.1) := hA ▸ g
    have hlen : s.1.length ≤ (univ ns es).length := by rw [← wts_len]; exact gs.1
    have F : FineS o T bs ns es (most (univ ns es).length G b bs.length) s (nextLn o T s.1) := ⟨ok, hlen, klen B (ok_add ok) (fun a ha => by
      rcases mem_add ha with h | ⟨l, hl, rfl⟩
      · exact hd a h
      · exact hnext s.1 hd l hl), lines_few B gs l3 (nlen _), fun a ha => labs a (hd a ha), fun l hl => labs _ (hnext s.1 hd l hl)⟩
    by_cases hn : nextLn o T s.1 = []
    · have C := closed s.1 ok nr hn hb
      rw [hn] at F ⊢
      exact ⟨0, (s, []), .stop F, ok, hd, fun _ => ⟨C, no_ring C fun z => nr ((ring_iff ok).mp z)⟩, fun z => absurd rfl z⟩
    · refine round s _ F hd (hnext s.1 hd) hn (fun a ha => .inr (hb a ha)) fun q ok2 hd2 nr2 hb2 e => ?_
      have nl := nolp_of ok2 nr2
      subst e
      refine ih (wts _) (good_kn B ok2 nr2 hd2 hb2) ?_ _ rfl ok2 hd2 nr2 hb2 (low_round B W ok hd hb l3 hlen (nolp_of ok nr) nl)
      rw [← hA]
      cases hc : nextLn o T s.1 with
      | nil => exact absurd hc hn
      | cons l c =>
        rw [hc] at nl
        refine lt_news ok nl ?_
        exact (next_news (l := l) (by rw [hc]; exact List.mem_cons_self ..)).1
  have flen : first.length = bs.length := by rw [← hf, List.length_map]
  have fbase : ∀ l ∈ first, l.ed ∈ bs := fun l hl => hf ▸ List.mem_map_of_mem (f := (·.ed)) hl
  have F0 : FineS o T bs ns es (most (univ ns es).length G b bs.length) ([], []) first := ⟨OkK.nil, Nat.zero_le _, klen B (ok_add OkK.nil) (fun a ha => by
    rcases mem_add ha with h | ⟨l, hl, rfl⟩
    · cases h
    · exact .base (fbase l hl)), by
    unfold most
    show 0 + first.length ≤ _
    rw [flen]
    omega, fun a h => (nomatch h), fun l hl => labs _ (.base (fbase l hl))⟩
  by_cases he : first = []
  · subst he
    have hbs : bs = [] := by rw [← hf]; rfl
    refine ⟨0, (([], []), []), .stop F0, OkK.nil, fun a h => (nomatch h), fun _ => ?_, fun z => absurd rfl z⟩
    have C : Closed o T (· ∈ bs) (Mk ([] : Knw N)) := ⟨fun a h => (nomatch h), fun a h => by rw [hbs] at h; (cases h), fun f s r h => (nomatch h), fun a r h => (nomatch h), fun a r h => (nomatch h)⟩
    refine ⟨C, no_ring C ?_⟩
    rintro ⟨x, t, w, _⟩
    obtain ⟨a, ha⟩ := w.some
    cases ha
  · refine round ([], []) first F0 (fun a h => (nomatch h)) (fun l hl => .base (fbase l hl)) he (fun a ha => .inl ?_) fun q ok2 hd2 nr2 hb2 e => rest _ (good_kn B ok2 nr2 hd2 hb2) q rfl ok2 hd2 nr2 hb2 ?_
    · rw [← hf] at ha
      obtain ⟨l, hl, e⟩ := List.mem_map.mp ha
      exact ⟨l, hl, e⟩
    · have nl := nolp_of ok2 nr2
      subst e
      have from0 : ∀ a ∈ edges (addAll (([], []) : Sta N) first).1, a.w ≤ G := fun a ha => by
        rcases mem_add ha with h | ⟨l, hl, rfl⟩
        · cases h
        · exact W.up _ (fbase l hl)
      refine ⟨fun a ha _ => from0 a ha, fun a ha => ?_, many_add OkK.nil nl (fun l hl => ?_) (by simp [wts, Sw])⟩
      · have := from0 a ha
        have : (0 : Int) ≤ G * (addAll (([], []) : Sta N) first).1.length := Int.mul_nonneg (Int.natCast_nonneg _) (Int.natCast_nonneg _)
        omega
      · have h1 := W.up _ (fbase l hl)
        have h2 : G * 1 ≤ G * ((univ ns es).length + 2) := Nat.mul_le_mul_left _ (by omega)
        omega
theorem Runs.mono {F F' : Sta N → List (Ln N) → Prop} (h : ∀ s c, F s c → F' s c) {n : Nat} {s : Sta N} {c : List (Ln N)} {q : Sta N × List Nat} (r : Runs o T F n s c q) : Runs o T F' n s c q := by
  induction r with
  | stop f => exact .stop (h _ _ f)
  | ring f a b d => exact .ring (h _ _ f) a b d
  | more f a b _ ih => exact .more (h _ _ f) a b ih
theorem add_len {c : List (Ln N)} : ∀ {s : Sta N}, (addAll s c).2.length ≤ s.2.length + c.length ∧ (addAll s c).1.length ≤ s.1.length + c.length := by
  induction c with
  | nil => exact fun {s} => ⟨Nat.le_refl _, Nat.le_refl _⟩
  | cons l c ih =>
    intro s
    have h := ih (s := add1 s l)
    have h1 : (add1 s l).2.length ≤ s.2.length + 1 ∧ (add1 s l).1.length ≤ s.1.length + 1 := by
      unfold add1
      split
      · refine ⟨by rw [List.length_append]; exact Nat.le_refl _, ?_⟩
        show (putA s.1 l.ed.k (l.ed, s.2.length)).length ≤ _
        rw [putA_len]
        split <;> omega
      · exact ⟨Nat.le_succ _, Nat.le_succ _⟩
    rw [List.length_cons]
    show (addAll (add1 s l) c).2.length ≤ _ ∧ (addAll (add1 s l) c).1.length ≤ _
    omega
end Vf.Cl
end
section
set_option Elab.async false
set_option linter.all false
set_option maxRecDepth 100000
set_option maxHeartbeats 4000000
namespace Vf
open PySem PySem.Spec PyProof.Rows L2 Evl
/-! ### a dict under a lock -/
section
variable {K : PySem.W.Frag} {H H' : Hp} {d : Addr} {u : HO} {od : Obj}
theorem lock_back (h : Ex (upd H d (.frz od u)) H') (hd : H d = some u) : Ex H (upd H' d u) := fun a o ha => by
  by_cases e : a = d
  · subst e
    rw [upd_same]
    rw [hd] at ha
    exact ha
  · rw [upd_ne e]
    refine h a o ?_
    rw [upd_ne e]
    exact ha
theorem asd_butF {κ : Type} {p : Addr} {o : HO} {kvs : List (κ × V)} {l : List (κ × PyData)} (hp : H p = some o) (hf : Free o) (hn : ∀ q ∈ l, noL q.2 = true) (h : AsD K H kvs l) : AsD K (but H p) kvs l := by
  induction h with
  | nil => exact .nil
  | @cons k v d kvs l h1 _ ih => exact .cons (dp_butF hp hf (hn (k, d) (List.mem_cons_self ..)) h1) (ih fun q hq => hn q (List.mem_cons_of_mem _ hq))
theorem asd_buts {κ : Type} {S : Addr → Prop} [DecidablePred S] {kvs : List (κ × V)} {l : List (κ × PyData)} (hS : ∀ b, S b → ∀ o, H b = some o → Free o) (hn : ∀ q ∈ l, noL q.2 = true) (h : AsD K H kvs l) : AsD K (buts H S) kvs l := by
  induction h with
  | nil => exact .nil
  | @cons k v d kvs l h1 _ ih => exact .cons (dp_buts hS (hn (k, d) (List.mem_cons_self ..)) h1) (ih fun q hq => hn q (List.mem_cons_of_mem _ hq))
theorem knD_noL (kn : KnS) : ∀ q ∈ knD kn, noL q.2 = true := fun q hq => by
  obtain ⟨p, _, rfl⟩ := List.mem_map.mp hq
  rfl
/-- behind the lock -/
theorem but_lock (hd : H d = some u) : Ex (but H d) (upd H d (.frz od u)) := fun a o ha => by
  unfold but at ha
  split at ha
  · cases ha
  · rename_i n
    rw [upd_ne n]
    exact ha
theorem asd_lock {κ : Type} {kvs : List (κ × V)} {l : List (κ × PyData)} (hd : H d = some u) (hf : Free u) (hn : ∀ q ∈ l, noL q.2 = true) (h : AsD K H kvs l) : AsD K (upd H d (.frz od u)) kvs l := (asd_butF hd hf hn h).ex (but_lock hd)
theorem knD_at {kn : KnS} {i : Nat} {k : List Key} {d : PyData} (h : (knD kn)[i]? = some (k, d)) : ∃ p, kn[i]? = some p ∧ k = keyL p.1 ∧ d = entD p.2 := by
  unfold knD at h
  rw [List.getElem?_map] at h
  obtain ⟨p, hp, e⟩ := Option.map_eq_some_iff.mp h
  cases e
  exact ⟨p, hp, rfl, rfl⟩
end
theorem ex_buts {S : Addr → Prop} [DecidablePred S] {G H : Hp} (e : Ex (buts G S) H) : Ex (buts G S) (buts H S) := fun a o h => by
  have h2 := e a o h
  unfold buts at h ⊢
  split at h
  · cases h
  · rename_i n
    rw [if_neg n]
    exact h2
theorem buts_upd {S : Addr → Prop} [DecidablePred S] {H : Hp} {l : Addr} {o : HO} (h : S l) : buts (upd H l o) S = buts H S := by
  funext a
  unfold buts
  split
  · rfl
  · rename_i n
    exact upd_ne fun e => n (e ▸ h)
theorem buts_none {S : Addr → Prop} [DecidablePred S] {H : Hp} {l : Addr} (h : S l) : buts H S l = none := if_pos h
/-- over a list of data -/
theorem s_forLD {K : PySem.W.Frag} {σ : L2.St} {H B : Hp} {tl : TE} {v : V} {D : Ends} {g : TG} {tu : TS} {ds : List PyData} (h : Ev tl σ H v) (hd : Dp K B v (.list ds)) (eB : Ex B H) (Pv : Nat → L2.St → Hp → Prop) (h0 : ∀ H1, Ex H H1 → Pv 0 σ H1) (hl : ∀ i σ' H', Pv i σ' H' → Ex B H')
    (hs : ∀ i x d σ' H', ds[i]? = some d → Dp K B x d → Pv i σ' H' → g x σ' H' fun σ2 H2 => tu { D with nx := Pv (i + 1), ct := Pv (i + 1), bk := D.nx } σ2 H2) (he : ∀ σ' H', Pv ds.length σ' H' → D.nx σ' H') : tFor (iList K tl) g tu D σ H := by
  cases hd with
  | lst hx ha =>
    have el := dpa_len ha
    refine s_forL h (ex_l eB hx) Pv h0 (fun i σ' H' _ p => ex_l (hl i σ' H' p) hx) (fun i x σ' H' hi p => ?_) (fun σ' H' p => he σ' H' (el ▸ p))
    obtain ⟨d, h1, h2⟩ := dpa_get ha hi
    exact hs i x d σ' H' h1 h2 p
theorem rv_notN {x : V} {H : Hp} : RV (fun x y H Q => y = .non ∧ Q (.bl (!decide (x = .non))) H) x .non H (.bl (!decide (x = .non))) := fun H1 _ Q q => ⟨rfl, q H1 (Ex.refl H1)⟩
theorem opt_notN {K : PySem.W.Frag} {H : Hp} {v : V} {o : Option EdS} (h : Dp K H v (optD o)) : (!decide (v = .non)) = o.isSome := by
  cases o with
  | none => cases h; rfl
  | some a =>
    cases h with
    | tup hs ha => rfl
/-! ### for .. in known.values() -/
section
variable {K : PySem.W.Frag} {σ : L2.St} {H : Hp} {d : Addr} {D : Ends} {g : TG} {tu tz : TS} {kvs : List (List Key × V)} {kn : KnS} {j : Nat}
theorem s_lockVals (hd : H d = some (.dT kvs)) (hv : σ[j]? = some (some (.ref d))) (key : ∀ od, ∃ (B : Hp) (Pv : Nat → L2.St → Hp → Prop), B d = some (.frz od (.dT kvs)) ∧ AsD K B kvs (knD kn) ∧ Pv 0 σ (upd H d (.frz od (.dT kvs))) ∧ (∀ i σ' H', Pv i σ' H' → Ex B H') ∧
      (∀ i p x σ' H', kn[i]? = some p → Dp K B x (entD p.2) → Pv i σ' H' → ∀ E : Ends, E.nx = Pv (i + 1) → E.ct = Pv (i + 1) → g x σ' H' fun σ2 H2 => tu E σ2 H2) ∧ ∀ σ' H', Pv kn.length σ' H' → D.nx σ' (upd H' d (.dT kvs))) :
    tLock (tFor (iValsT (tVar j)) g tu) D σ H := by
  refine ⟨d, _, hd, True.intro, fun od => ?_⟩
  obtain ⟨B, Pv, hB, hA, h0, hl, hs, he⟩ := key od
  have len : kvs.length = kn.length := by rw [hA.len]; unfold knD; rw [List.length_map]
  refine ⟨.ref d, hv, d, od, kvs, rfl, upd_same, fun i m σ' H' => m = kvs.length - i ∧ i ≤ kvs.length ∧ Pv i σ' H', ⟨_, rfl, Nat.zero_le _, h0⟩, ?_⟩
  rintro i m σ' H' ⟨rfl, hi, p⟩
  have hd' := hl i σ' H' p _ _ hB
  by_cases hlt : i < kvs.length
  · refine .inr ⟨⟨hd', hlt⟩, Pv (i + 1), fun σ2 H2 p2 => ⟨kvs.length - (i + 1), by omega, rfl, hlt, p2⟩, fun x H2 y => ?_⟩
    obtain ⟨e2, k, hk⟩ := y
    subst e2
    obtain ⟨dd, h1, h2⟩ := hA.get hk
    obtain ⟨q, hq, _, rfl⟩ := knD_at h1
    exact hs i q x σ' _ hq h2 p _ rfl rfl
  · have e2 : i = kvs.length := by omega
    subst e2
    exact .inl ⟨⟨hd', Nat.le_refl _⟩, hd', he σ' H' (len ▸ p)⟩
theorem q_lockVals (hd : H d = some (.dT kvs)) (hv : σ[j]? = some (some (.ref d))) (key : ∀ od, ∃ (B : Hp) (Pv : Nat → L2.St → Hp → Prop), B d = some (.frz od (.dT kvs)) ∧ AsD K B kvs (knD kn) ∧ Pv 0 σ (upd H d (.frz od (.dT kvs))) ∧ (∀ i σ' H', Pv i σ' H' → Ex B H') ∧
      (∀ i p x σ' H', kn[i]? = some p → Dp K B x (entD p.2) → Pv i σ' H' → ∀ E : Ends, E.nx = Pv (i + 1) → E.ct = Pv (i + 1) → g x σ' H' fun σ2 H2 => tu E σ2 H2) ∧ ∀ σ' H', Pv kn.length σ' H' → tz D σ' (upd H' d (.dT kvs))) :
    tSeq (tLock (tFor (iValsT (tVar j)) g tu)) tz D σ H := s_lockVals (D := { D with nx := tz D }) hd hv key
/-- for key in known -/
theorem s_lockKeys (hd : H d = some (.dT kvs)) (hv : σ[j]? = some (some (.ref d))) (key : ∀ od, ∃ (B : Hp) (Pv : Nat → L2.St → Hp → Prop), B d = some (.frz od (.dT kvs)) ∧ AsD K B kvs (knD kn) ∧ Pv 0 σ (upd H d (.frz od (.dT kvs))) ∧ (∀ i σ' H', Pv i σ' H' → Ex B H') ∧
      (∀ i p q σ' H', kn[i]? = some p → H' q = some (.tup ((keyL p.1).map kV)) → Pv i σ' H' → ∀ E : Ends, E.nx = Pv (i + 1) → E.ct = Pv (i + 1) → g (.ref q) σ' H' fun σ2 H2 => tu E σ2 H2) ∧ ∀ σ' H', Pv kn.length σ' H' → D.nx σ' (upd H' d (.dT kvs))) :
    tLock (tFor (iKeys (tVar j)) g tu) D σ H := by
  refine ⟨d, _, hd, True.intro, fun od => ?_⟩
  obtain ⟨B, Pv, hB, hA, h0, hl, hs, he⟩ := key od
  have len : kvs.length = kn.length := by rw [hA.len]; unfold knD; rw [List.length_map]
  refine ⟨.ref d, hv, d, od, rfl, .inr ⟨kvs, upd_same, fun i m σ' H' => m = kvs.length - i ∧ i ≤ kvs.length ∧ Pv i σ' H', ⟨_, rfl, Nat.zero_le _, h0⟩, ?_⟩⟩
  rintro i m σ' H' ⟨rfl, hi, p⟩
  have hd' := hl i σ' H' p _ _ hB
  by_cases hlt : i < kvs.length
  · refine .inr ⟨⟨hd', hlt⟩, Pv (i + 1), fun σ2 H2 p2 => ⟨kvs.length - (i + 1), by omega, rfl, hlt, p2⟩, fun x H2 y => ?_⟩
    obtain ⟨e2, k, v, q, hk, rfl, hq⟩ := y
    subst e2
    obtain ⟨dd, h1, h2⟩ := hA.get hk
    obtain ⟨r, hr, rfl, rfl⟩ := knD_at h1
    exact hs i r q σ' _ hr hq p _ rfl rfl
  · have e2 : i = kvs.length := by omega
    subst e2
    exact .inl ⟨⟨hd', Nat.le_refl _⟩, hd', he σ' H' (len ▸ p)⟩
end
/-! ### {name: .. for key in known for name in key[:2]} -/
def namesOf (kn : KnS) : List Str := kn.flatMap fun p => [p.1.1, p.1.2.1]
section
variable {K : PySem.W.Frag} {H : Hp} {d : Addr} {tv : TE} {kvs : List (List Key × V)} {kn : KnS} {Q : VK}
abbrev σ10 (d : Addr) : L2.St := [some (.ref d), none, none, none, none, none, none, none, none, none]
theorem dc2_names {od : Obj} (hd : H d = some (.frz od (.dT kvs))) (hA : AsD K H kvs (knD kn)) (Pv : Addr → List Str → Hp → Prop) (h0 : ∀ D, H D = none → Pv D [] (upd H D (.dK []))) (hb : ∀ D ns H', Pv D ns H' → Ex H H') (hx : ∀ D ns H1 H2, Pv D ns H1 → Ex H1 H2 → Pv D ns H2)
    (hD : ∀ D ns H', Pv D ns H' → ∃ ws, H' D = some (.dK ws))
    (hs : ∀ D ns x q H', ns.length < 2 * kn.length → Pv D ns H' → ∀ Q' : VK, (∀ z H7 ws, H7 D = some (.dK ws) → ws.length < sizeLine → Ex (but H' D) (but H7 D) → Pv D (ns ++ [x]) (upd H7 D (.dK (putK ws (.inr x) z))) → Q' z H7) → tv [some (.ref d), some (.ref q), some (.str x), none, none, none, none, none, none, none] H' Q')
    (he : ∀ D H', H D = none → Pv D (namesOf kn) H' → Q (.ref D) H') : tDc2 (iKeys (tVar 0)) (gName 1) (iTup K (tSl (rSlT K) (tVar 1) tNoPart (tPart (tC (.int 2))))) (gName 2) (tVar 2) tv [1, 2] [2] (σ10 d) H Q := by
  have len : kvs.length = kn.length := by rw [hA.len]; unfold knD; rw [List.length_map]
  refine ⟨.ref d, rfl, d, od, rfl, .inr ⟨kvs, hd, fun D hDn => ?_⟩⟩
  refine ⟨fun i m H' => m = kvs.length - i ∧ i ≤ kvs.length ∧ Pv D (namesOf (kn.take i)) H', ⟨_, rfl, Nat.zero_le _, h0 D hDn⟩, ?_⟩
  rintro i m H1 ⟨rfl, hi, p⟩
  have hd1 := hb _ _ _ p _ _ hd
  by_cases hlt : i < kvs.length
  · refine .inr ⟨⟨hd1, hlt⟩, fun H' => Pv D (namesOf (kn.take (i + 1))) H', fun H' p' => ⟨kvs.length - (i + 1), by omega, rfl, hlt, p'⟩, fun x H2 y => ?_⟩
    obtain ⟨e2, k, v, q, hk, rfl, hq⟩ := y
    subst e2
    obtain ⟨dd, g1, g2⟩ := hA.get hk
    obtain ⟨r, hr, rfl, rfl⟩ := knD_at g1
    refine ⟨rfl, ?_⟩
    have hkd : Dp K H2 (.ref q) (.tuple [.str r.1.1, .str r.1.2.1, .str r.1.2.2]) := .tup (st_of hq) (.cons (.str _) (.cons (.str _) (.cons (.str _) .nil)))
    refine ed_slT (K := K) (σ := [some (.ref d), some (.ref q), none, none, none, none, none, none, none, none]) (ed_of (ev_var rfl) hkd) eo_none (eo_some ev_c) (by show ¬ (0 = 0 ∧ 2 = 3); decide) H2 (Ex.refl _) _ fun a H3 e3 ha => ?_
    have ha2 : Dp K H3 a (.tuple [.str r.1.1, .str r.1.2.1]) := ha
    have p3 := hx _ _ _ _ p e3
    obtain ⟨ws, hw⟩ := hD _ _ _ p3
    cases ha2 with
    | @tup a xs _ hs2 hall =>
      cases hall with
      | cons c1 hall => cases hall with
        | cons c2 hall =>
          cases hall
          cases c1
          cases c2
          have hs3 : SqT K (but H3 D) a [.str r.1.1, .str r.1.2.1] := sqt_buts (S := (· = D)) (fun b e o ho => by
            subst e
            rw [hw] at ho
            cases ho
            exact free_dK) hs2
          refine ⟨a, rfl, ⟨_, hs2⟩, fun j m H' => m = 2 - j ∧ j ≤ 2 ∧ Ex (but H3 D) (but H' D) ∧ Pv D (namesOf (kn.take i) ++ [r.1.1, r.1.2.1].take j) H', ⟨_, rfl, Nat.zero_le _, Ex.refl _, by rw [List.take_zero, List.append_nil]; exact p3⟩, ?_⟩
          rintro j m H4 ⟨rfl, hj, e4, p4⟩
          have hs4 : SqT K H4 a [.str r.1.1, .str r.1.2.1] := ex_t (e4.trans (but_ex _ _)) hs3
          by_cases hj2 : j < 2
          · obtain ⟨x, hx2⟩ : ∃ x, [r.1.1, r.1.2.1][j]? = some x := ⟨_, List.getElem?_eq_getElem (by simpa using hj2)⟩
            have hxv : [V.str r.1.1, .str r.1.2.1][j]? = some (.str x) := by
              have : ([r.1.1, r.1.2.1].map V.str)[j]? = some (.str x) := by rw [List.getElem?_map, hx2]; rfl
              exact this
            refine .inr ⟨⟨_, _, hs4, hxv⟩, fun H' => Ex (but H3 D) (but H' D) ∧ Pv D (namesOf (kn.take i) ++ [r.1.1, r.1.2.1].take (j + 1)) H', fun H' p' => ⟨2 - (j + 1), by omega, rfl, by omega, p'⟩, fun y H5 hy => ?_⟩
            obtain ⟨e5, hy⟩ := hy
            subst e5
            have := hy _ hs4
            rw [hxv] at this
            cases this
            refine ⟨rfl, .str x, rfl, ?_⟩
            refine hs D _ x q _ ?_ p4 _ fun z H7 ws w1 w2 w3 w4 => ⟨ws, .inr x, rfl, w1, w2, e4.trans ?_, ?_⟩
            · rw [List.length_append, List.length_take]
              have : (namesOf (kn.take i)).length = 2 * (kn.take i).length := len_flat2 _ _ _
              rw [this, List.length_take]
              show _ + min j 2 < _
              omega
            · rw [but_put]; exact w3
            · rw [take_snoc hx2, ← List.append_assoc]; exact w4
          · have : j = 2 := by omega
            subst this
            refine .inl ⟨⟨_, hs4, Nat.le_refl _⟩, ?_⟩
            have e6 : namesOf (kn.take (i + 1)) = namesOf (kn.take i) ++ [r.1.1, r.1.2.1] := by
              unfold namesOf
              rw [take_snoc hr, List.flatMap_append]
              rfl
            rw [e6]
            exact p4
  · have e3 : i = kvs.length := by omega
    subst e3
    rw [len, List.take_length] at p
    exact .inl ⟨⟨hd1, Nat.le_refl _⟩, he D H1 hDn p⟩
end
end Vf
end
section
set_option Elab.async false
set_option linter.all false
set_option maxRecDepth 100000
set_option maxHeartbeats 8000000
namespace Vf
open PySem PySem.Spec PyProof.Rows L2 Evl
/-! ### the lines that come by a sum -/
abbrev KnW (K : PySem.W.Frag) (H : Hp) (d : Addr) (kn : KnS) : Prop := ∃ kvs, H d = some (.dT kvs) ∧ AsD K H kvs (knD kn)
abbrev spSumL (K : PySem.W.Frag) : Sp := fun vs H Q _ => ∃ d kn, vs = [.ref d] ∧ KnW K H d kn ∧ kn.length ≤ 3000 ∧ Cl.OkK kn ∧ RetN K ((Cl.sumLines ("" : Str) kn).map lnD) H Q
theorem key_names {kn : KnS} (ok : Cl.OkK kn) {p : (Str × Str × Str) × (EdS × Nat)} (h : p ∈ kn) : p.2.1.x ∈ namesOf kn ∧ p.2.1.y ∈ namesOf kn := by
  have hk := ok.ky p h
  unfold namesOf
  rw [List.mem_flatMap, List.mem_flatMap]
  refine ⟨⟨p, h, ?_⟩, ⟨p, h, ?_⟩⟩
  · rw [hk]; exact List.mem_cons_self ..
  · rw [hk]; exact List.mem_cons_of_mem _ (List.mem_cons_self ..)
theorem q_lockKeys {K : PySem.W.Frag} {σ : L2.St} {H : Hp} {d : Addr} {D : Ends} {g : TG} {tu tz : TS} {kvs : List (List Key × V)} {kn : KnS} {j : Nat} (hd : H d = some (.dT kvs)) (hv : σ[j]? = some (some (.ref d))) (key : ∀ od, ∃ (B : Hp) (Pv : Nat → L2.St → Hp → Prop), B d = some (.frz od (.dT kvs)) ∧ AsD K B kvs (knD kn) ∧ Pv 0 σ (upd H d (.frz od (.dT kvs))) ∧ (∀ i σ' H', Pv i σ' H' → Ex B H') ∧
      (∀ i p q σ' H', kn[i]? = some p → H' q = some (.tup ((keyL p.1).map kV)) → Pv i σ' H' → ∀ E : Ends, E.nx = Pv (i + 1) → E.ct = Pv (i + 1) → g (.ref q) σ' H' fun σ2 H2 => tu E σ2 H2) ∧ ∀ σ' H', Pv kn.length σ' H' → tz D σ' (upd H' d (.dT kvs))) :
    tSeq (tLock (tFor (iKeys (tVar j)) g tu)) tz D σ H := s_lockKeys (D := { D with nx := tz D }) hd hv key
/-- the lists by their names -/
structure Lists (Hf H : Hp) (D : Addr) (ns : List Str) (Pf : Str → Addr) (ws : List (Key × V)) : Prop where
  at' : H D = some (.dK ws)
  get : ∀ x, valV ws (.inr x) = if x ∈ ns then some (.ref (Pf x)) else none
  lst : ∀ x ∈ ns, H (Pf x) = some (.lst []) ∧ Hf (Pf x) = none
  inj : ∀ x ∈ ns, ∀ y ∈ ns, Pf x = Pf y → x = y
  len : ws.length ≤ ns.length
def byX (kn : KnS) (y : Str) : List (EdS × Nat) := (kn.map (·.2)).filter fun s => decide (s.1.x = y)
def sumIn (kn : KnS) (f : EdS × Nat) (l : List (EdS × Nat)) : List LnS := l.flatMap fun s => Cl.newsLn kn (Cl.sumE ("" : Str) f.1 s.1) .sum [f.2, s.2]
def sumTo (kn : KnS) (l : List (EdS × Nat)) : List LnS := l.flatMap fun f => sumIn kn f (byX kn f.1.y)
theorem sumTo_snoc {kn : KnS} {i : Nat} {p : (Str × Str × Str) × (EdS × Nat)} (h : kn[i]? = some p) : sumTo kn ((kn.take (i + 1)).map (·.2)) = sumTo kn ((kn.take i).map (·.2)) ++ sumIn kn p.2 (byX kn p.2.1.y) := by
  unfold sumTo
  rw [take_snoc h, List.map_append, List.flatMap_append]
  show _ ++ List.flatMap _ [p.2] = _
  rw [List.flatMap_cons, List.flatMap_nil, List.append_nil]
theorem dp_ent {K : PySem.W.Frag} {H : Hp} {x : V} {q : EdS × Nat} (h : Dp K H x (entD q)) : ∃ a v, x = .ref a ∧ SqT K H a [v, .int (q.2 : Int)] ∧ Dp K H v (edD q.1) := by
  cases h with
  | tup hs ha =>
    cases ha with
    | cons h1 ha => cases ha with
      | cons h2 ha =>
        cases ha
        cases h2
        exact ⟨_, _, rfl, hs, h1⟩
theorem filt_snoc {kn : KnS} {i : Nat} {p : (Str × Str × Str) × (EdS × Nat)} (h : kn[i]? = some p) (x : Str) : ((kn.take (i + 1)).map (·.2)).filter (fun s => decide (s.1.x = x)) = ((kn.take i).map (·.2)).filter (fun s => decide (s.1.x = x)) ++ (if p.2.1.x = x then [p.2] else []) := by
  rw [take_snoc h, List.map_append, List.filter_append]
  congr 1
  show List.filter _ [p.2] = _
  by_cases e : p.2.1.x = x
  · rw [if_pos e, List.filter_cons, if_pos (decide_eq_true e)]; rfl
  · rw [if_neg e, List.filter_cons, if_neg (fun z => e (of_decide_eq_true z))]; rfl
theorem Lists.put {H0 H1 : Hp} {D l : Addr} {ns : List Str} {Pf : Str → Addr} {ws : List (Key × V)} (p1 : Ex H0 H1) (L : Lists H0 H1 D ns Pf ws) (x : Str) (hl : H1 l = none) :
    Lists H0 (upd (upd H1 l (.lst [])) D (.dK (putK ws (.inr x) (.ref l)))) D (ns ++ [x]) (fun y => if y = x then l else Pf y) (putK ws (.inr x) (.ref l)) := by
  refine ⟨upd_same, fun y => ?_, fun y hy => ?_, fun y hy z hz e => ?_, ?_⟩
  · rw [valV_put, L.get]
    by_cases e : y = x
    · subst e
      simp
    · have : ¬ (Sum.inr y : Key) = .inr x := fun z => e (Sum.inr.inj z)
      simp [e, this]
  · have hlD : l ≠ D := (ne_of_none L.at' hl).symm
    by_cases e : y = x
    · rw [if_pos e, upd_ne hlD, upd_same]
      exact ⟨rfl, fresh_back p1 hl⟩
    · rw [if_neg e]
      have hm : y ∈ ns := by
        rcases List.mem_append.mp hy with h | h
        · exact h
        · exact absurd (List.mem_singleton.mp h) e
      have h1 := L.lst y hm
      have n1 : Pf y ≠ D := fun z => by
        rw [z, L.at'] at h1
        cases h1.1
      rw [upd_ne n1, upd_ne (ne_of_none h1.1 hl)]
      exact h1
  · have hm : ∀ u, u ∈ ns ++ [x] → u ≠ x → u ∈ ns := fun u hu n => by
      rcases List.mem_append.mp hu with h | h
      · exact h
      · exact absurd (List.mem_singleton.mp h) n
    by_cases e1 : y = x
    · by_cases e2 : z = x
      · rw [e1, e2]
      · rw [if_pos e1, if_neg e2] at e
        have := (L.lst z (hm z hz e2)).1
        rw [← e, hl] at this
        cases this
    · by_cases e2 : z = x
      · rw [if_neg e1, if_pos e2] at e
        have := (L.lst y (hm y hy e1)).1
        rw [e, hl] at this
        cases this
      · rw [if_neg e1, if_neg e2] at e
        exact L.inj y (hm y hy e1) z (hm z hz e2) e
  · have h1 := length_putK ws (.inr x) (.ref l)
    have h2 := L.len
    rw [List.length_append]
    show _ ≤ ns.length + 1
    omega
theorem Lists.on {H0 H1 H2 : Hp} {D : Addr} {ns : List Str} {Pf : Str → Addr} {ws : List (Key × V)} (L : Lists H0 H1 D ns Pf ws) (e : Ex H1 H2) : Lists H0 H2 D ns Pf ws :=
  ⟨e _ _ L.at', L.get, fun x h => ⟨e _ _ (L.lst x h).1, (L.lst x h).2⟩, L.inj, L.len⟩
theorem q_dputN {σ : L2.St} {H : Hp} {D : Ends} {tz : TS} {a : Addr} {i j : Nat} {kvs : List (Key × V)} {k : Key} (hd : H a = some (.dK kvs)) (hi : σ[i]? = some (some (.ref a))) (hj : σ[j]? = some (some (kV k))) (hl : kvs.length < 100000)
    (q : ∀ l, H l = none → tz D σ (upd (upd H l (.lst [])) a (.dK (putK kvs k (.ref l))))) : tSeq (sDPut (tVar i) (tVar j) (tLst tNil)) tz D σ H :=
  ⟨Nat.zero_le _, fun l hn => ⟨.ref a, hi, kV k, hj, a, _, rfl, DPut.k (by rw [upd_ne (ne_of_none hd hn)]; exact hd) (sz_lt hl), q l hn⟩⟩
theorem s_dputN {σ : L2.St} {H : Hp} {D : Ends} {a : Addr} {i j : Nat} {kvs : List (Key × V)} {k : Key} (hd : H a = some (.dK kvs)) (hi : σ[i]? = some (some (.ref a))) (hj : σ[j]? = some (some (kV k))) (hl : kvs.length < 100000)
    (q : ∀ l, H l = none → D.nx σ (upd (upd H l (.lst [])) a (.dK (putK kvs k (.ref l))))) : sDPut (tVar i) (tVar j) (tLst tNil) D σ H := q_dputN (tz := fun D σ H => D.nx σ H) hd hi hj hl q
theorem namesOf_len (kn : KnS) : (namesOf kn).length = 2 * kn.length := by
  induction kn with
  | nil => rfl
  | cons p r ih =>
    have : namesOf (p :: r) = p.1.1 :: p.1.2.1 :: namesOf r := rfl
    rw [this, List.length_cons, List.length_cons, List.length_cons, ih]
    omega
theorem namesOf_snoc {kn : KnS} {i : Nat} {p : (Str × Str × Str) × (EdS × Nat)} (h : kn[i]? = some p) : namesOf (kn.take (i + 1)) = namesOf (kn.take i) ++ [p.1.1] ++ [p.1.2.1] := by
  unfold namesOf
  rw [take_snoc h, List.flatMap_append, List.append_assoc]
  rfl
section
variable {P : Program} {w : World} {K : PySem.W.Frag} {mg : Str → Option Value} {base : Heap} {tg : Tok} {f : Addr} {fd : FuncData}
abbrev s_sum_lines : Stmt := topS 43
theorem sc_sum_lines : FnScope ["known", "starting", "x", "y", "_", "edge", "place", "lines", "first", "second", "behind"] ["known"] (defScope s_sum_lines) := ⟨rfl, rfl, rfl, by decide +kernel, rfl, by decide +kernel, by decide +kernel⟩
theorem ok_sum_lines (F : Fun K "sum_lines" "sum_lines" s_sum_lines f fd) (T : Txt mg tg) (C_sum_edge : Cal P w K mg base 2 "sum_edge" ["first", "second"] (spSum K)) (C_is_news : Cal P w K mg base 1 "is_news" ["known", "edge"] (spNews K)) : FnOk P w K mg base CX0 3 f fd ["known"] (spSumL K) := by
  refine F.ok sc_sum_lines (fun vs H Q E h => ?_) (fun cdv A outer s H vs Q E hr h => ?_)
  · obtain ⟨d, kn, rfl, _⟩ := h
    rfl
  · obtain ⟨d, kn, rfl, ⟨kvs, hd, hA⟩, hsz, ok, q⟩ := h
    refine ⟨_, (pss_cons (ps_set (i := 1) sc_sum_lines.nd rfl (Or.inl rfl) pe_dnewK) (pss_cons (ps_lock (ps_for PassesOwn.never rfl (pi_keys (pv 0)) (pg_tupK (K := K) (n := 3) rfl rfl (pgs_cons (pg_name (i := 2) sc_sum_lines.nd rfl (Or.inl rfl)) (pgs_cons (pg_name (i := 3) sc_sum_lines.nd rfl (Or.inl rfl)) (pgs_cons (pg_name (i := 4) sc_sum_lines.nd rfl (Or.inl rfl)) pgs_nil)))) (pss_cons (ps_dput (hu_of hr) (pv 1) (pv 2) (pe_lst pa_nil) rfl) (pss_one (ps_dput (hu_of hr) (pv 1) (pv 3) (pe_lst pa_nil) rfl))))) (pss_cons (ps_lock (ps_for PassesOwn.never rfl (pi_valuesT (pv 0)) (pg_tupK (K := K) (n := 2) rfl rfl (pgs_cons (pg_name (i := 5) sc_sum_lines.nd rfl (Or.inl rfl)) (pgs_cons (pg_name (i := 6) sc_sum_lines.nd rfl (Or.inl rfl)) pgs_nil))) (pss_one (ps_expr (pe_bm PySem.F.plainAttrs_list PySem.F.slot_list_append PySem.F.type_list_append mt_append (pe_dget (hu_of hr) (pv 1) (pe_ix (ix_tupK (K := K) rfl) (pv 5) pe_int (fun _ _ => rfl)) (fun _ _ => rfl)) (pa_cons (pe_tup (pa_cons (pv 5) (pa_cons (pv 6) pa_nil))) pa_nil)))))) (pss_cons (ps_set (i := 7) sc_sum_lines.nd rfl (Or.inl rfl) (pe_lst pa_nil)) (pss_cons (ps_lock (ps_for PassesOwn.never rfl (pi_valuesT (pv 0)) (pg_tupK (K := K) (n := 2) rfl rfl (pgs_cons (pg_name (i := 8) sc_sum_lines.nd rfl (Or.inl rfl)) (pgs_cons (pg_name (i := 6) sc_sum_lines.nd rfl (Or.inl rfl)) pgs_nil))) (pss_one (ps_for PassesOwn.never rfl (pi_listK (K := K) rfl (pe_dget (hu_of hr) (pv 1) (pe_ix (ix_tupK (K := K) rfl) (pv 8) pe_int (fun _ _ => rfl)) (fun _ _ => rfl))) (pg_tupK (K := K) (n := 2) rfl rfl (pgs_cons (pg_name (i := 9) sc_sum_lines.nd rfl (Or.inl rfl)) (pgs_cons (pg_name (i := 10) sc_sum_lines.nd rfl (Or.inl rfl)) pgs_nil))) (pss_cons (ps_set (i := 5) sc_sum_lines.nd rfl (Or.inl rfl) (pe_cal C_sum_edge (by first | exact hr | exact hr.mono (by decide)) (by rfl) (pa_cons (pv 8) (pa_cons (pv 9) pa_nil)))) (pss_one (ps_if (PW.pt (pw_and (pt_cmpR op_notN (pv 5) pe_non (nomark _)) (pw_and1 (pt_val (pe_cal C_is_news (by first | exact hr | exact hr.mono (by decide)) (by rfl) (pa_cons (pv 0) (pa_cons (pv 5) pa_nil))))))) (pss_one (ps_expr (pe_bm PySem.F.plainAttrs_list PySem.F.slot_list_append PySem.F.type_list_append mt_append (pv 7) (pa_cons (pe_tup (pa_cons (pv 5) (pa_cons pe_str (pa_cons (pe_tup (pa_cons (pv 6) (pa_cons (pv 10) pa_nil))) pa_nil)))) pa_nil)))) pss_nil))))))) (pss_one (ps_ret (pv 7)))))))), ?_⟩
    -- starting = {}
    refine fun D hD => ?_
    dsimp only [gName]
    have hDd : D ≠ d := (ne_of_none hd hD).symm
    -- for x, y, _ in known
    refine q_lockKeys (K := K) (kn := kn) (kvs := kvs) (by rw [upd_ne hDd.symm]; exact hd) rfl fun od => ?_
    have hd0 : (upd H D (.dK [])) d = some (.dT kvs) := by rw [upd_ne hDd.symm]; exact hd
    have e00 : Ex (upd H d (.frz od (.dT kvs))) (upd (upd H D (.dK [])) d (.frz od (.dT kvs))) := fun a o ha => by
      by_cases z : a = d
      · rw [z] at ha ⊢
        rw [upd_same] at ha ⊢
        exact ha
      · rw [upd_ne z] at ha
        rw [upd_ne z, upd_ne (ne_of_none ha hD)]
        exact ha
    have hDn : (upd H d (.frz od (.dT kvs))) D = none := by rw [upd_ne hDd]; exact hD
    have hAf : AsD K (upd H d (.frz od (.dT kvs))) kvs (knD kn) := asd_lock hd free_dT (knD_noL kn) hA
    refine ⟨upd H d (.frz od (.dT kvs)), fun i σ' H' => ∃ x2 x3 x4, σ' = [some (.ref d), some (.ref D), x2, x3, x4, none, none, none, none, none, none] ∧ Ex (upd H d (.frz od (.dT kvs))) H' ∧ ∃ Pf ws, Lists (upd H d (.frz od (.dT kvs))) H' D (namesOf (kn.take i)) Pf ws, upd_same, hAf, ⟨_, _, _, rfl, e00, fun _ => 0, [], by rw [upd_ne hDd, upd_same], fun x => by simp [valV, namesOf], fun x h => (nomatch h), fun x h => (nomatch h), Nat.zero_le _⟩, fun i σ' H' ⟨_, _, _, _, e, _⟩ => e, ?_, ?_⟩
    · rintro i p qk σ' H1 hi hqk ⟨x2, x3, x4, rfl, p1, Pf, ws, L⟩ E2 enx _
      refine goes_tup3 (st_of hqk) _ _ (Ex.refl _) ?_
      have hlen : (namesOf (kn.take i)).length ≤ 6000 := by
        rw [namesOf_len, List.length_take]
        omega
      -- starting[x] = []
      refine q_dputN (k := .inr p.1.1) L.at' rfl rfl (by have := L.len; omega) fun l hl => ?_
      have L1 := L.put p1 p.1.1 hl
      have p2 : Ex (upd H d (.frz od (.dT kvs))) (upd (upd H1 l (.lst [])) D (.dK (putK ws (.inr p.1.1) (.ref l)))) := Ex.mut (p1.trans (Ex.new hl)) hDn
      generalize (upd (upd H1 l (.lst [])) D (.dK (putK ws (.inr p.1.1) (.ref l)))) = H2 at L1 p2
      refine s_dputN (D := E2) (k := .inr p.1.2.1) L1.at' rfl rfl (by have := L1.len; rw [List.length_append] at this; simp only [List.length_singleton] at this; omega) fun l2 hl2 => ?_
      have L2 := L1.put p2 p.1.2.1 hl2
      rw [enx]
      rw [← namesOf_snoc hi] at L2
      exact ⟨_, _, _, rfl, Ex.mut (p2.trans (Ex.new hl2)) hDn, _, _, L2⟩
    · rintro σ' H1 ⟨x2, x3, x4, rfl, p1, Pf, ws, L⟩
      rw [List.take_length] at L
      have eU : Ex H (upd H1 d (.dT kvs)) := lock_back p1 hd
      have hPd : ∀ x ∈ namesOf kn, Pf x ≠ d := fun x hx z => by
        have := (L.lst x hx).2
        rw [z, upd_same] at this
        cases this
      have hPH : ∀ x ∈ namesOf kn, H (Pf x) = none := fun x hx => by
        have := (L.lst x hx).2
        rw [upd_ne (hPd x hx)] at this
        exact this
      have hPD : ∀ x ∈ namesOf kn, Pf x ≠ D := fun x hx z => by
        have := (L.lst x hx).1
        rw [z, L.at'] at this
        cases this
      -- for edge, place in known.values()
      refine q_lockVals (K := K) (kn := kn) (kvs := kvs) upd_same rfl fun od2 => ?_
      generalize hHu : upd H1 d (.dT kvs) = Hu at eU
      have hUd : Hu d = some (.dT kvs) := by rw [← hHu, upd_same]
      have hUP : ∀ x ∈ namesOf kn, Hu (Pf x) = some (.lst []) := fun x hx => by rw [← hHu, upd_ne (hPd x hx)]; exact (L.lst x hx).1
      have hUD : Hu D = some (.dK ws) := by rw [← hHu, upd_ne hDd]; exact L.at'
      have memS : ∀ x ∈ namesOf kn, Pf x ∈ (namesOf kn).map Pf := fun x hx => List.mem_map_of_mem hx
      have ofS : ∀ a, a ∈ (namesOf kn).map Pf → ∃ x ∈ namesOf kn, Pf x = a := fun a ha => List.mem_map.mp ha
      have dS : ¬ d ∈ (namesOf kn).map Pf := fun z => by
        obtain ⟨x, hx, e⟩ := ofS d z
        exact hPd x hx e
      have DS : ¬ D ∈ (namesOf kn).map Pf := fun z => by
        obtain ⟨x, hx, e⟩ := ofS D z
        exact hPD x hx e
      have hAB : AsD K (buts (upd Hu d (.frz od2 (.dT kvs))) (· ∈ (namesOf kn).map Pf)) kvs (knD kn) := asd_buts (fun b hb o ho => by
        obtain ⟨x, hx, rfl⟩ := ofS b hb
        rw [upd_ne (hPd x hx), hUP x hx] at ho
        cases ho
        exact free_lst) (knD_noL kn) (asd_lock hUd free_dT (knD_noL kn) (hA.ex eU))
      have hBd : (buts (upd Hu d (.frz od2 (.dT kvs))) (· ∈ (namesOf kn).map Pf)) d = some (.frz od2 (.dT kvs)) := by rw [buts_no dS, upd_same]
      have hBD : (buts (upd Hu d (.frz od2 (.dT kvs))) (· ∈ (namesOf kn).map Pf)) D = some (.dK ws) := by rw [buts_no DS, upd_ne hDd]; exact hUD
      refine ⟨buts (upd Hu d (.frz od2 (.dT kvs))) (· ∈ (namesOf kn).map Pf), fun i σ' H' => ∃ x1 x2 x3 x4 x5 x6 x7 x8 x9, σ' = [some (.ref d), some (.ref D), x1, x2, x3, x4, x5, x6, x7, x8, x9] ∧ Ex (buts (upd Hu d (.frz od2 (.dT kvs))) (· ∈ (namesOf kn).map Pf)) H' ∧
        ∀ x ∈ namesOf kn, ∃ xs, H' (Pf x) = some (.lst xs) ∧ DpAll K (buts H' (· ∈ (namesOf kn).map Pf)) xs ((((kn.take i).map (·.2)).filter (fun s => decide (s.1.x = x))).map entD), hBd, hAB, ⟨_, _, _, _, _, _, _, _, _, rfl, buts_ex, fun x hx => ⟨[], by rw [upd_ne (hPd x hx)]; exact hUP x hx, .nil⟩⟩, fun i σ' H' ⟨_, _, _, _, _, _, _, _, _, _, e, _⟩ => e, ?_, ?_⟩
      · rintro i p x σ' H' hi hx ⟨x1, x2, x3, x4, x5, x6, x7, x8, x9, rfl, eB, hL⟩ E2 enx _
        obtain ⟨a, v, rfl, hs, hv⟩ := dp_ent hx
        have hpm := List.mem_of_getElem? hi
        have hxn := (key_names ok hpm).1
        refine goes_tup2 hs _ _ eB ?_
        obtain ⟨xs, hxs, hdx⟩ := hL _ hxn
        have hv' := dp_ex eB hv
        have hlen : xs.length ≤ 3000 := by
          rw [dpa_len hdx, List.length_map]
          refine Nat.le_trans (List.length_filter_le ..) ?_
          rw [List.length_map, List.length_take]
          omega
        refine s_appU (K := K) hxs (ev_dgetR (k := .inr p.2.1.x) (ev_var rfl) (.inl (eB _ _ hBD)) (ev_strD (ed_ixT 0 (ed_of (ev_var rfl) hv') ev_c rfl rfl)) (by rw [L.get, if_pos hxn])) (eu_tup (ea_cons (ev_var rfl) (ea_cons (ev_var rfl) ea_nil)) (by show 2 ≤ 100000; decide)) (by omega) fun t H4 ht e4 h4 => ?_
        rw [enx]
        have htS : ¬ t ∈ (namesOf kn).map Pf := fun z => by
          obtain ⟨y, hy, e⟩ := ofS t z
          obtain ⟨ys, hys, _⟩ := hL y hy
          rw [e, ht] at hys
          cases hys
        refine ⟨_, _, _, _, _, _, _, _, _, rfl, Ex.mut (eB.trans e4) (buts_none (memS _ hxn)), fun y hy => ?_⟩
        rw [buts_upd (memS _ hxn), filt_snoc hi]
        obtain ⟨ys, hys, hdy⟩ := hL y hy
        by_cases e : p.2.1.x = y
        · subst e
          rw [upd_same, if_pos rfl, List.map_append]
          rw [hxs] at hys
          cases hys
          refine ⟨_, rfl, dpa_snoc (dpa_ex (buts_mono e4) hdx) (.tup (st_of (by rw [buts_no htS]; exact h4)) (.cons (dp_ex (ex_buts (eB.trans e4)) hv) (.cons (.int _) .nil)))⟩
        · rw [if_neg e, List.append_nil, upd_ne (fun z => e (L.inj _ hxn _ hy z.symm))]
          exact ⟨ys, e4 _ _ hys, dpa_ex (buts_mono e4) hdy⟩
      · rintro σ' H' ⟨x1, x2, x3, x4, x5, x6, x7, x8, x9, rfl, eB, hL⟩
        rw [List.take_length] at hL
        -- what stood stands
        have e3 : Ex H (upd H' d (.dT kvs)) := fun a o ha => by
          by_cases z : a = d
          · rw [z] at ha ⊢
            rw [upd_same, ← ha, hd]
          · rw [upd_ne z]
            refine eB a o ?_
            rw [buts_no (fun y => by
              obtain ⟨x, hx, e⟩ := ofS a y
              have := hPH x hx
              rw [e, ha] at this
              cases this), upd_ne z]
            exact eU a o ha
        have hL3 : ∀ x ∈ namesOf kn, Dp K (upd H' d (.dT kvs)) (.ref (Pf x)) (.list ((byX kn x).map entD)) := fun x hx => by
          obtain ⟨xs, h1, h2⟩ := hL x hx
          refine .lst (sq_of (by rw [upd_ne (hPd x hx)]; exact h1)) (dpa_ex ?_ (dpa_butF (p := d) (by rw [buts_no dS]; exact eB _ _ hBd) free_fT (noLs_map noL_ent _) h2))
          intro a o ha
          unfold but at ha
          split at ha
          · cases ha
          · rename_i n
            rw [upd_ne n]
            exact buts_ex _ _ ha
        have hD3 : (upd H' d (.dT kvs)) D = some (.dK ws) := by rw [upd_ne hDd]; exact eB _ _ hBD
        have hd3 : (upd H' d (.dT kvs)) d = some (.dT kvs) := upd_same
        have hA3 := hA.ex e3
        generalize upd H' d (.dT kvs) = H3 at e3 hL3 hD3 hd3 hA3
        -- lines = []
        refine ⟨Nat.zero_le _, fun Ll hLl => ?_⟩
        have hLd : d ≠ Ll := ne_of_none hd3 hLl
        refine q_lockVals (K := K) (kn := kn) (kvs := kvs) (by rw [upd_ne hLd]; exact hd3) rfl fun od3 => ?_
        have hB4L : (upd H3 d (.frz od3 (.dT kvs))) Ll = none := by rw [upd_ne hLd.symm]; exact hLl
        have hA4 : AsD K (upd H3 d (.frz od3 (.dT kvs))) kvs (knD kn) := asd_lock hd3 free_dT (knD_noL kn) hA3
        have hb4 : Ex (but H3 d) (upd H3 d (.frz od3 (.dT kvs))) := but_lock hd3
        have hL4 : ∀ x ∈ namesOf kn, Dp K (upd H3 d (.frz od3 (.dT kvs))) (.ref (Pf x)) (.list ((byX kn x).map entD)) := fun x hx => by
          cases hL3 x hx with
          | lst h1 h2 =>
            refine .lst ?_ (dpa_ex hb4 (dpa_butF hd3 free_dT (noLs_map noL_ent _) h2))
            rcases h1 with (h1 | ⟨o, h1⟩) | h1
            · exact .inl (.inl (by rw [upd_ne (hPd x hx)]; exact h1))
            · exact .inl (.inr ⟨o, by rw [upd_ne (hPd x hx)]; exact h1⟩)
            · exact .inr h1
        have hD4 : (upd H3 d (.frz od3 (.dT kvs))) D = some (.dK ws) := by rw [upd_ne hDd]; exact hD3
        refine ⟨upd H3 d (.frz od3 (.dT kvs)), fun i σ' H' => ∃ x1 x2 x3 x4 x5 x7 x8 x9, σ' = [some (.ref d), some (.ref D), x1, x2, x3, x4, x5, some (.ref Ll), x7, x8, x9] ∧ Acc K (upd H3 d (.frz od3 (.dT kvs))) H' Ll ((sumTo kn ((kn.take i).map (·.2))).map lnD),
          upd_same, hA4, ⟨_, _, _, _, _, _, _, _, rfl, hB4L, ?_, [], by rw [upd_ne hLd.symm, upd_same], .nil⟩, fun i σ' H' ⟨_, _, _, _, _, _, _, _, _, A⟩ => A.ex, ?_, ?_⟩
        · intro a o ha
          by_cases z : a = d
          · rw [z] at ha ⊢
            rw [upd_same] at ha ⊢
            exact ha
          · rw [upd_ne z] at ha
            rw [upd_ne z, upd_ne (ne_of_none ha hLl)]
            exact ha
        · -- for first, place in ..
          rintro i p x σ' H4 hi hx ⟨x1, x2, x3, x4, x5, x7, x8, x9, rfl, A⟩ E2 enx _
          obtain ⟨a, v, rfl, hs, hv⟩ := dp_ent hx
          have hpm := List.mem_of_getElem? hi
          have hyn := (key_names ok hpm).2
          refine goes_tup2 hs _ _ A.ex ?_
          have hv' := dp_ex A.ex hv
          have small : ∀ j, ((sumTo kn ((kn.take i).map (·.2))) ++
              (sumIn kn p.2 ((byX kn p.2.1.y).take j))).length < 16000000 := fun j => by
            have hby : ∀ y, (byX kn y).length ≤ kn.length := fun y => Nat.le_trans (List.length_filter_le ..) (Nat.le_of_eq (List.length_map ..))
            have hin : ∀ f l, (sumIn kn f l).length ≤ l.length * 1 := fun f l => Cl.flat_len (fun s => Cl.news_len) l
            have h1 : (sumTo kn ((kn.take i).map (·.2))).length ≤ ((kn.take i).map (·.2)).length * kn.length := Cl.flat_len (fun f => Nat.le_trans (hin f _) (by rw [Nat.mul_one]; exact hby _)) _
            have h2 := hin p.2 ((byX kn p.2.1.y).take j)
            have h3 : ((byX kn p.2.1.y).take j).length ≤ 3000 := by
              rw [List.length_take]
              have := hby p.2.1.y
              omega
            have h4 : ((kn.take i).map (·.2)).length * kn.length ≤ 3000 * 3000 := Nat.mul_le_mul (by rw [List.length_map, List.length_take]; omega) hsz
            rw [List.length_append]
            omega
          refine s_forLD (B := upd H3 d (.frz od3 (.dT kvs))) (ds := (byX kn p.2.1.y).map entD) (ev_dgetR (k := .inr p.2.1.y) (ev_var rfl) (.inl (A.ex _ _ hD4)) (ev_strD (ed_ixT 1 (ed_of (ev_var rfl) hv') ev_c rfl rfl)) (by rw [L.get, if_pos hyn])) (hL4 _ hyn) A.ex
            (fun j σ' H' => ∃ x1 x2 x3 x4 x8 x9, σ' = [some (.ref d), some (.ref D), x1, x2, x3, x4, some (.int (p.2.2 : Int)), some (.ref Ll), some v, x8, x9] ∧ Acc K (upd H3 d (.frz od3 (.dT kvs))) H' Ll (((sumTo kn ((kn.take i).map (·.2))) ++
              (sumIn kn p.2 ((byX kn p.2.1.y).take j))).map lnD))
            (fun H5 e5 => ⟨_, _, _, _, _, _, rfl, (A.on e5).is (by unfold sumIn; rw [List.take_zero, List.flatMap_nil, List.append_nil])⟩) (fun j σ' H' ⟨_, _, _, _, _, _, _, A⟩ => A.ex) ?_ ?_
          · rintro j x dd σ' H5 hj hx2 ⟨x1, x2, x3, x4, x8, x9, rfl, A5⟩
            rw [List.getElem?_map] at hj
            obtain ⟨sq, hsq, rfl⟩ := Option.map_eq_some_iff.mp hj
            obtain ⟨a2, v2, rfl, hs2, hv2⟩ := dp_ent hx2
            refine goes_tup2 hs2 _ _ A5.ex ?_
            have g1 := dp_ex A5.ex hv
            have g2 := dp_ex A5.ex hv2
            refine q_asgD (K := K) (d := optD (Cl.sumE ("" : Str) p.2.1 sq.1)) (ed_call (ea_cons (ev_var rfl) (ea_cons (ev_var rfl) ea_nil)) fun H6 e6 Q q E => ⟨v, v2, p.2.1, sq.1, rfl, dp_ex e6 g1, dp_ex e6 g2, q⟩) fun r H6 e6 hr => ?_
            have A6 := A5.on e6
            have step : ∀ ls, Cl.newsLn kn (Cl.sumE ("" : Str) p.2.1 sq.1) .sum [p.2.2, sq.2] = ls → sumIn kn p.2 ((byX kn p.2.1.y).take (j + 1)) = sumIn kn p.2 ((byX kn p.2.1.y).take j) ++ ls := fun ls e => by
              unfold sumIn
              rw [take_snoc hsq, List.flatMap_append, ← e]
              show _ ++ List.flatMap _ [sq] = _
              rw [List.flatMap_cons, List.flatMap_nil, List.append_nil]
            have sm := small j
            cases hse : Cl.sumE ("" : Str) p.2.1 sq.1 with
            | none =>
              rw [hse] at hr
              cases hr
              refine s_when (b := false) (et_is (et_and (et_test (ev_op (ev_var rfl) ev_c rv_notN)) (b := true) fun z => (nomatch z)) rfl) (fun z => nomatch z) fun _ H7 e7 => ⟨_, _, _, _, _, _, rfl, (A6.on e7).is ?_⟩
              rw [step [] (by rw [hse]; rfl), List.append_nil]
            | some ed =>
              rw [hse] at hr
              have hne : (!decide (r = .non)) = true := opt_notN (o := some ed) hr
              refine s_when (b := Cl.isNews kn ed) (et_is (et_and (et_test (ev_op (ev_var rfl) ev_c rv_notN)) fun _ => et_B (ev_call (ea_cons (ev_var rfl) (ea_cons (ev_var rfl) ea_nil)) fun H7 e7 Q q E => ⟨d, r, kn, ed, rfl, ⟨kvs, .inr ⟨od3, e7 _ _ (A6.ex _ _ upd_same)⟩, hA4.ex (A6.ex.trans e7)⟩, dp_ex e7 hr, q⟩)) (by rw [hne]; rfl)) (fun hb H7 e7 => ?_) fun hb H7 e7 => ⟨_, _, _, _, _, _, rfl, (A6.on e7).is ?_⟩
              · refine s_acc (d := lnD ⟨ed, .sum, [p.2.2, sq.2]⟩) (A6.on e7) (ev_var rfl) (ed_tup (eds_cons (ed_of (ev_var rfl) (dp_ex e7 hr)) (eds_cons (ed_str ev_c) (eds_cons (ed_tup (eds_cons (ed_int (ev_var rfl)) (eds_cons (ed_int (ev_var rfl)) eds_nil)) (by show 2 ≤ 100000; decide)) eds_nil))) (by show 3 ≤ 100000; decide)) (noL_ln _) (by rw [List.length_map]; exact sm) fun H8 _ A8 => ⟨_, _, _, _, _, _, rfl, A8.is ?_⟩
                rw [step [⟨ed, .sum, [p.2.2, sq.2]⟩] (by rw [hse]; unfold Cl.newsLn; dsimp only; rw [if_pos hb]), ← List.append_assoc, List.map_append (l₂ := [_])]
                rfl
              · rw [step [] (by rw [hse]; unfold Cl.newsLn; dsimp only; rw [if_neg (by rw [hb]; decide)]), List.append_nil]
          · rintro σ' H5 ⟨x1, x2, x3, x4, x8, x9, rfl, A5⟩
            rw [enx]
            refine ⟨_, _, _, _, _, _, _, _, rfl, A5.is ?_⟩
            rw [List.length_map, List.take_length, sumTo_snoc hi]
        · -- return lines
          rintro σ' H5 ⟨x1, x2, x3, x4, x5, x7, x8, x9, rfl, A⟩
          rw [List.take_length] at A
          obtain ⟨n, ex, xs, hx, hdx⟩ := A
          have e5 := lock_back ex hd3
          have hx5 : (upd H5 d (.dT kvs)) Ll = some (.lst xs) := by rw [upd_ne hLd.symm]; exact hx
          refine s_ret (ev_var rfl) fun H6 e6 => q Ll xs H6 (fresh_back e3 hLl) ((e3.trans e5).trans e6) (e6 _ _ hx5) (dpa_ex ?_ (dpa_butF (H := but H5 Ll) (p := d) (by unfold but; rw [if_neg hLd]; exact ex _ _ upd_same) free_fT (noLs_map noL_ln _) hdx))
          intro a o ha
          refine e6 a o ?_
          unfold but at ha
          split at ha
          · cases ha
          · rename_i n1
            split at ha
            · cases ha
            · rw [upd_ne n1]
              exact ha
end
end Vf
end
section
set_option Elab.async false
set_option linter.all false
set_option maxRecDepth 100000
set_option maxHeartbeats 8000000
namespace Vf
open PySem PySem.Spec PyProof.Rows L2 Evl
section
variable {K : PySem.W.Frag} {σ : L2.St} {H : Hp} {tl : TE} {D : Ends} {g : TG} {tu : TS}
/-- over a new tuple of data, made on the way -/
theorem s_forED {ds : List PyData} (h : EvD K tl σ H (.tuple ds)) (Bf : Hp → Hp) (hB : ∀ v H1, Ex H H1 → Dp K H1 v (.tuple ds) → Dp K (Bf H1) v (.tuple ds)) (hBe : ∀ H1, Ex (Bf H1) H1) (Pv : Hp → Nat → L2.St → Hp → Prop) (h0 : ∀ H1, Ex H H1 → Pv H1 0 σ H1) (hl : ∀ H1 i σ' H', Ex H H1 → Pv H1 i σ' H' → Ex (Bf H1) H')
    (hs : ∀ H1 i x d σ' H', Ex H H1 → ds[i]? = some d → Dp K (Bf H1) x d → Pv H1 i σ' H' → g x σ' H' fun σ2 H2 => tu { D with nx := Pv H1 (i + 1), ct := Pv H1 (i + 1), bk := D.nx } σ2 H2) (he : ∀ H1 σ' H', Ex H H1 → Pv H1 ds.length σ' H' → D.nx σ' H') : tFor (iTup K tl) g tu D σ H :=
  h H (Ex.refl H) _ fun v H1 e1 hv => by
    have hv2 := hB v H1 e1 hv
    cases hv2 with
    | @tup a xs _ hx ha =>
      have el := dpa_len ha
      refine ⟨a, rfl, ⟨xs, ex_t (hBe H1) hx⟩, for_tup (Pv H1) (h0 H1 e1) (fun i σ' H' _ p => ex_t (hl H1 i σ' H' e1 p) hx) (fun i x σ' H' hi p => ?_) (fun σ' H' p => he H1 σ' H' e1 (el ▸ p))⟩
      obtain ⟨d, h1, h2⟩ := dpa_get ha hi
      exact hs H1 i x d σ' H' e1 h1 h2 p
end
theorem q_asgCall {sp : Sp} {E : XK} {ta : TA} {i : Nat} {vs : List V} {tz : TS} {D : Ends} {σ : L2.St} {H : Hp} (h : EvA ta σ H vs) (k : ∀ H1, Ex H H1 → sp (vs ++ []) H1 (fun x H2 => tz D (σ.set i (some x)) H2) E) : tSeq (tAsg (tCall sp [] E ta) (gName i)) tz D σ H := h H (Ex.refl H) _ k
abbrev spTaskL (K : PySem.W.Frag) : Sp := fun vs H Q _ => ∃ v d p kn, vs = [v, .ref d] ∧ PlAt K H v p ∧ SmallP p ∧ KnW K H d kn ∧ kn.length ≤ 3000 ∧ (∀ a ∈ Cl.edges kn, a.e ≠ "" → (tFun p.ts a.e).isSome = true) ∧ RetN K ((Cl.taskLines ("" : Str) (tFun p.ts) kn).map lnD) H Q
abbrev spNextL (K : PySem.W.Frag) : Sp := fun vs H Q _ => ∃ v d p kn, vs = [v, .ref d] ∧ PlAt K H v p ∧ SmallP p ∧ KnW K H d kn ∧ kn.length ≤ 3000 ∧ Cl.OkK kn ∧ (∀ a ∈ Cl.edges kn, a.e ≠ "" → (tFun p.ts a.e).isSome = true) ∧ RetN K ((Cl.nextLn ("" : Str) (tFun p.ts) kn).map lnD) H Q
theorem KnW.ex {K : PySem.W.Frag} {H H' : Hp} {d : Addr} {kn : KnS} (h : KnW K H d kn) (e : Ex H H') : KnW K H' d kn := let ⟨kvs, h1, h2⟩ := h; ⟨kvs, e _ _ h1, h2.ex e⟩
/-- what comes of one edge -/
def taskOf (kn : KnS) (ts : List TkS) (q : EdS × Nat) : List LnS := Cl.newsLn kn (Cl.earlyE (tFun ts) q.1) .early [q.2] ++ Cl.newsLn kn (Cl.sureE ("" : Str) (tFun ts) q.1) .sure [q.2]
def taskTo (kn : KnS) (ts : List TkS) (l : List (EdS × Nat)) : List LnS := l.flatMap (taskOf kn ts)
theorem taskTo_snoc {kn : KnS} {ts : List TkS} {i : Nat} {p : (Str × Str × Str) × (EdS × Nat)} (h : kn[i]? = some p) : taskTo kn ts ((kn.take (i + 1)).map (·.2)) = taskTo kn ts ((kn.take i).map (·.2)) ++ taskOf kn ts p.2 := by
  unfold taskTo
  rw [take_snoc h, List.map_append, List.flatMap_append]
  show _ ++ List.flatMap _ [p.2] = _
  rw [List.flatMap_cons, List.flatMap_nil, List.append_nil]
/-- the two rules in turn -/
def rulesOf (kn : KnS) (ts : List TkS) (q : EdS × Nat) : List (Cl.Ru × Option EdS) := [(.early, Cl.earlyE (tFun ts) q.1), (.sure, Cl.sureE ("" : Str) (tFun ts) q.1)]
def ruleD (r : Cl.Ru × Option EdS) : PyData := .tuple [.str (ruS r.1), optD r.2]
def rulesTo (kn : KnS) (n : Nat) (l : List (Cl.Ru × Option EdS)) : List LnS := l.flatMap fun r => Cl.newsLn kn r.2 r.1 [n]
theorem rules_all (kn : KnS) (ts : List TkS) (q : EdS × Nat) : rulesTo kn q.2 (rulesOf kn ts q) = taskOf kn ts q := by
  unfold rulesTo rulesOf taskOf
  rw [List.flatMap_cons, List.flatMap_cons, List.flatMap_nil, List.append_nil]
theorem noL_opt (o : Option EdS) : noL (optD o) = true := by cases o <;> rfl
section
variable {P : Program} {w : World} {K : PySem.W.Frag} {mg : Str → Option Value} {base : Heap} {tg : Tok} {f : Addr} {fd : FuncData}
abbrev s_task_lines : Stmt := topS 44
theorem sc_task_lines : FnScope ["plan", "known", "tasks", "lines", "edge", "place", "rule", "news"] ["plan", "known"] (defScope s_task_lines) := ⟨rfl, rfl, rfl, by decide +kernel, rfl, by decide +kernel, by decide +kernel⟩
theorem ok_task_lines (F : Fun K "task_lines" "task_lines" s_task_lines f fd) (T : Txt mg tg) (C_tasks_by_end : Cal P w K mg base 1 "tasks_by_end" ["plan"] (spTk K)) (C_early_edge : Cal P w K mg base 2 "early_edge" ["tasks", "edge"] (spEarly K)) (C_sure_edge : Cal P w K mg base 2 "sure_edge" ["tasks", "edge"] (spSure K))
    (C_is_news : Cal P w K mg base 1 "is_news" ["known", "edge"] (spNews K)) : FnOk P w K mg base CX0 3 f fd ["plan", "known"] (spTaskL K) := by
  refine F.ok sc_task_lines (fun vs H Q E h => ?_) (fun cdv A outer s H vs Q E hr h => ?_)
  · obtain ⟨v, d, p, kn, rfl, _⟩ := h
    rfl
  · obtain ⟨v, d, p, kn, rfl, hP, hz, ⟨kvs, hd, hA⟩, hsz, hlab, q⟩ := h
    refine ⟨_, (pss_cons (ps_set (i := 2) sc_task_lines.nd rfl (Or.inl rfl) (pe_cal C_tasks_by_end (by first | exact hr | exact hr.mono (by decide)) (by rfl) (pa_cons (pv 0) pa_nil))) (pss_cons (ps_set (i := 3) sc_task_lines.nd rfl (Or.inl rfl) (pe_lst pa_nil)) (pss_cons (ps_lock (ps_for PassesOwn.never rfl (pi_valuesT (pv 1)) (pg_tupK (K := K) (n := 2) rfl rfl (pgs_cons (pg_name (i := 4) sc_task_lines.nd rfl (Or.inl rfl)) (pgs_cons (pg_name (i := 5) sc_task_lines.nd rfl (Or.inl rfl)) pgs_nil))) (pss_one (ps_for PassesOwn.never rfl (pi_tupK (K := K) rfl (pe_tup (pa_cons (pe_tup (pa_cons pe_str (pa_cons (pe_cal C_early_edge (by first | exact hr | exact hr.mono (by decide)) (by rfl) (pa_cons (pv 2) (pa_cons (pv 4) pa_nil))) pa_nil))) (pa_cons (pe_tup (pa_cons pe_str (pa_cons (pe_cal C_sure_edge (by first | exact hr | exact hr.mono (by decide)) (by rfl) (pa_cons (pv 2) (pa_cons (pv 4) pa_nil))) pa_nil))) pa_nil)))) (pg_tupK (K := K) (n := 2) rfl rfl (pgs_cons (pg_name (i := 6) sc_task_lines.nd rfl (Or.inl rfl)) (pgs_cons (pg_name (i := 7) sc_task_lines.nd rfl (Or.inl rfl)) pgs_nil))) (pss_one (ps_if (PW.pt (pw_and (pt_cmpR op_notN (pv 7) pe_non (nomark _)) (pw_and1 (pt_val (pe_cal C_is_news (by first | exact hr | exact hr.mono (by decide)) (by rfl) (pa_cons (pv 1) (pa_cons (pv 7) pa_nil))))))) (pss_one (ps_expr (pe_bm PySem.F.plainAttrs_list PySem.F.slot_list_append PySem.F.type_list_append mt_append (pv 3) (pa_cons (pe_tup (pa_cons (pv 7) (pa_cons (pv 6) (pa_cons (pe_tup (pa_cons (pv 5) pa_nil)) pa_nil)))) pa_nil)))) pss_nil)))))) (pss_one (ps_ret (pv 3)))))), ?_⟩
    refine q_asgCall (ea_cons (ev_var rfl) ea_nil) fun H1 e1 => ⟨v, p, rfl, hP.ex e1, hz, fun t H2 ht e2 hT => ?_⟩
    have e12 := e1.trans e2
    have hd2 := e12 _ _ hd
    have hA2 := hA.ex e12
    -- lines = []
    refine ⟨Nat.zero_le _, fun Ll hLl => ?_⟩
    have hLd : d ≠ Ll := ne_of_none hd2 hLl
    refine q_lockVals (K := K) (kn := kn) (kvs := kvs) (by rw [upd_ne hLd]; exact hd2) rfl fun od => ?_
    have hB4L : (upd H2 d (.frz od (.dT kvs))) Ll = none := by rw [upd_ne hLd.symm]; exact hLl
    have hA4 : AsD K (upd H2 d (.frz od (.dT kvs))) kvs (knD kn) := asd_lock hd2 free_dT (knD_noL kn) hA2
    have hT4 : TkR K (upd H2 d (.frz od (.dT kvs))) t p.ts := by
      obtain ⟨ks, g1, g2⟩ := hT
      refine ⟨ks, ?_, asd_lock hd2 free_dT (fun q hq => by
        obtain ⟨r, _, rfl⟩ := List.mem_map.mp hq
        rfl) g2⟩
      rcases g1 with g1 | ⟨o, g1⟩
      · exact .inl (by rw [upd_ne (fun z => by rw [z, hd2] at g1; cases g1)]; exact g1)
      · exact .inr ⟨o, by rw [upd_ne (fun z => by rw [z, hd2] at g1; cases g1)]; exact g1⟩
    refine ⟨upd H2 d (.frz od (.dT kvs)), fun i σ' H' => ∃ x4 x5 x6 x7, σ' = [some v, some (.ref d), some (.ref t), some (.ref Ll), x4, x5, x6, x7] ∧ Acc K (upd H2 d (.frz od (.dT kvs))) H' Ll ((taskTo kn p.ts ((kn.take i).map (·.2))).map lnD),
      upd_same, hA4, ⟨_, _, _, _, rfl, hB4L, ?_, [], by rw [upd_ne hLd.symm, upd_same], .nil⟩, fun i σ' H' ⟨_, _, _, _, _, A⟩ => A.ex, ?_, ?_⟩
    · intro a o ha
      by_cases z : a = d
      · rw [z] at ha ⊢
        rw [upd_same] at ha ⊢
        exact ha
      · rw [upd_ne z] at ha
        rw [upd_ne z, upd_ne (ne_of_none ha hLl)]
        exact ha
    · rintro i r x σ' H4 hi hx ⟨x4, x5, x6, x7, rfl, A⟩ E2 enx _
      obtain ⟨a, u, rfl, hs, hu⟩ := dp_ent hx
      have hin := hlab r.2.1 (List.mem_map.mpr ⟨r, List.mem_of_getElem? hi, rfl⟩)
      refine goes_tup2 hs _ _ A.ex ?_
      have hu' := dp_ex A.ex hu
      have hT' := hT4.ex A.ex
      have htw : EvD K (tTup (tCons (tTup (tCons (tC (.str "early")) (tCons (tCall (spEarly K) [] E0 (tCons (tVar 2) (tCons (tVar 4) tNil))) tNil))) (tCons (tTup (tCons (tC (.str "sure")) (tCons (tCall (spSure K) [] E0 (tCons (tVar 2) (tCons (tVar 4) tNil))) tNil))) tNil)))
          [some v, some (.ref d), some (.ref t), some (.ref Ll), some u, some (.int (r.2.2 : Int)), x6, x7] H4 (.tuple ((rulesOf kn p.ts r.2).map ruleD)) :=
        ed_tup (eds_cons (ed_tup (eds_cons (ed_str ev_c) (eds_cons (ed_call (ea_cons (ev_var rfl) (ea_cons (ev_var rfl) ea_nil)) fun H5 e5 Q q E => ⟨t, u, p.ts, r.2.1, rfl, hT'.ex e5, dp_ex e5 hu', q⟩) eds_nil)) (by show 2 ≤ 100000; decide))
          (eds_cons (ed_tup (eds_cons (ed_str ev_c) (eds_cons (ed_call (ea_cons (ev_var rfl) (ea_cons (ev_var rfl) ea_nil)) fun H5 e5 Q q E => ⟨t, u, p.ts, r.2.1, rfl, hT'.ex e5, dp_ex e5 hu', hin, q⟩) eds_nil)) (by show 2 ≤ 100000; decide)) eds_nil)) (by show 2 ≤ 100000; decide)
      have hLx : ∃ xs, H4 Ll = some (.lst xs) := let ⟨xs, h, _⟩ := A.at'; ⟨xs, h⟩
      obtain ⟨xs0, hx0⟩ := hLx
      have few : ∀ j, (taskTo kn p.ts ((kn.take i).map (·.2)) ++ rulesTo kn r.2.2 ((rulesOf kn p.ts r.2).take j)).length < 16000000 := fun j => by
        have h1 : (taskTo kn p.ts ((kn.take i).map (·.2))).length ≤ ((kn.take i).map (·.2)).length * 2 := Cl.flat_len (fun q => by
          unfold taskOf
          rw [List.length_append]
          exact Nat.add_le_add Cl.news_len Cl.news_len) _
        have h2 : (rulesTo kn r.2.2 ((rulesOf kn p.ts r.2).take j)).length ≤ ((rulesOf kn p.ts r.2).take j).length * 1 := Cl.flat_len (fun q => Cl.news_len) _
        have h3 : ((rulesOf kn p.ts r.2).take j).length ≤ 2 := by
          rw [List.length_take]
          show min j 2 ≤ 2
          omega
        have h4 : ((kn.take i).map (·.2)).length ≤ 3000 := by
          rw [List.length_map, List.length_take]
          omega
        rw [List.length_append]
        omega
      refine s_forED htw (fun H1 => but H1 Ll) (fun w' H1 e hw => dp_butF (e _ _ hx0) free_lst (by
        show noLs [ruleD _, ruleD _] = true
        unfold ruleD
        show (noL (.tuple [_, optD _]) && (noL (.tuple [_, optD _]) && true)) = true
        show ((true && (noL (optD _) && true)) && ((true && (noL (optD _) && true)) && true)) = true
        rw [noL_opt, noL_opt]
        rfl) hw) (fun H1 => but_ex _ _)
        (fun H1 j σ' H' => ∃ x6 x7, σ' = [some v, some (.ref d), some (.ref t), some (.ref Ll), some u, some (.int (r.2.2 : Int)), x6, x7] ∧ Ex (but H1 Ll) (but H' Ll) ∧ Acc K (upd H2 d (.frz od (.dT kvs))) H' Ll ((taskTo kn p.ts ((kn.take i).map (·.2)) ++ rulesTo kn r.2.2 ((rulesOf kn p.ts r.2).take j)).map lnD))
        (fun H1 e => ⟨_, _, rfl, Ex.refl _, (A.on e).is (by unfold rulesTo; rw [List.take_zero, List.flatMap_nil, List.append_nil])⟩) (fun H1 j σ' H' _ ⟨_, _, _, e, _⟩ => e.trans (but_ex _ _)) ?_ ?_
      · rintro H1 j x dd σ' H5 e1 hj hx2 ⟨x6, x7, rfl, eb, A5⟩
        rw [List.getElem?_map] at hj
        obtain ⟨ro, hro, rfl⟩ := Option.map_eq_some_iff.mp hj
        cases hx2 with
        | tup hs2 ha2 =>
          cases ha2 with
          | cons c1 ha2 => cases ha2 with
            | @cons nv _ _ _ c2 ha2 =>
              cases ha2
              cases c1
              refine goes_tup2 hs2 _ _ (eb.trans (but_ex _ _)) ?_
              have hr5 := dp_ex (eb.trans (but_ex _ _)) c2
              have step : ∀ ls, Cl.newsLn kn ro.2 ro.1 [r.2.2] = ls → rulesTo kn r.2.2 ((rulesOf kn p.ts r.2).take (j + 1)) = rulesTo kn r.2.2 ((rulesOf kn p.ts r.2).take j) ++ ls := fun ls e => by
                unfold rulesTo
                rw [take_snoc hro, List.flatMap_append, ← e]
                show _ ++ List.flatMap _ [ro] = _
                rw [List.flatMap_cons, List.flatMap_nil, List.append_nil]
              have sm := few j
              cases hse : ro.2 with
              | none =>
                rw [hse] at hr5
                cases hr5
                refine s_when (b := false) (et_is (et_and (et_test (ev_op (ev_var rfl) ev_c rv_notN)) (b := true) fun z => (nomatch z)) rfl) (fun z => nomatch z) fun _ H7 e7 => ⟨_, _, rfl, eb.trans (but_mono e7), (A5.on e7).is ?_⟩
                rw [step [] (by rw [hse]; rfl), List.append_nil]
              | some ed =>
                rw [hse] at hr5
                have hne : (!decide (nv = .non)) = true := opt_notN (o := some ed) hr5
                refine s_when (b := Cl.isNews kn ed) (et_is (et_and (et_test (ev_op (ev_var rfl) ev_c rv_notN)) fun _ => et_B (ev_call (ea_cons (ev_var rfl) (ea_cons (ev_var rfl) ea_nil)) fun H7 e7 Q q E => ⟨d, nv, kn, ed, rfl, ⟨kvs, .inr ⟨od, e7 _ _ (A5.ex _ _ upd_same)⟩, hA4.ex (A5.ex.trans e7)⟩, dp_ex e7 hr5, q⟩)) (by rw [hne]; rfl)) (fun hb H7 e7 => ?_) fun hb H7 e7 => ⟨_, _, rfl, eb.trans (but_mono e7), (A5.on e7).is ?_⟩
                · refine s_acc (d := lnD ⟨ed, ro.1, [r.2.2]⟩) (A5.on e7) (ev_var rfl) (ed_tup (eds_cons (ed_of (ev_var rfl) (dp_ex e7 hr5)) (eds_cons (ed_str (ev_var rfl)) (eds_cons (ed_tup (eds_cons (ed_int (ev_var rfl)) eds_nil) (by show 1 ≤ 100000; decide)) eds_nil))) (by show 3 ≤ 100000; decide)) (noL_ln _) (by rw [List.length_map]; exact sm) fun H8 e8 A8 => ⟨_, _, rfl, eb.trans ((but_mono e7).trans e8), A8.is ?_⟩
                  rw [step [⟨ed, ro.1, [r.2.2]⟩] (by rw [hse]; unfold Cl.newsLn; dsimp only; rw [if_pos hb]), ← List.append_assoc, List.map_append (l₂ := [_])]
                  rfl
                · rw [step [] (by rw [hse]; unfold Cl.newsLn; dsimp only; rw [if_neg (by rw [hb]; decide)]), List.append_nil]
      · rintro H1 σ' H5 e1 ⟨x6, x7, rfl, eb, A5⟩
        rw [enx]
        refine ⟨_, _, _, _, rfl, A5.is ?_⟩
        rw [List.length_map, List.take_length, rules_all, taskTo_snoc hi]
    · rintro σ' H5 ⟨x4, x5, x6, x7, rfl, A⟩
      rw [List.take_length] at A
      obtain ⟨n, ex, xs, hx, hdx⟩ := A
      have e5 := lock_back ex hd2
      have hx5 : (upd H5 d (.dT kvs)) Ll = some (.lst xs) := by rw [upd_ne hLd.symm]; exact hx
      refine s_ret (ev_var rfl) fun H6 e6 => q Ll xs H6 (fresh_back e12 hLl) ((e12.trans e5).trans e6) (e6 _ _ hx5) (dpa_ex ?_ (dpa_butF (H := but H5 Ll) (p := d) (by unfold but; rw [if_neg hLd]; exact ex _ _ upd_same) free_fT (noLs_map noL_ln _) hdx))
      intro a o ha
      refine e6 a o ?_
      unfold but at ha
      split at ha
      · cases ha
      · rename_i n1
        split at ha
        · cases ha
        · rw [upd_ne n1]
          exact ha
abbrev s_next_lines : Stmt := topS 45
theorem sc_next_lines : FnScope ["plan", "known"] ["plan", "known"] (defScope s_next_lines) := ⟨rfl, rfl, rfl, by decide +kernel, rfl, by decide +kernel, by decide +kernel⟩
theorem ok_next_lines (F : Fun K "next_lines" "next_lines" s_next_lines f fd) (T : Txt mg tg) (C_sum_lines : Cal P w K mg base 3 "sum_lines" ["known"] (spSumL K)) (C_task_lines : Cal P w K mg base 3 "task_lines" ["plan", "known"] (spTaskL K)) : FnOk P w K mg base CX0 4 f fd ["plan", "known"] (spNextL K) := by
  refine F.ok sc_next_lines (fun vs H Q E h => ?_) (fun cdv A outer s H vs Q E hr h => ?_)
  · obtain ⟨v, d, p, kn, rfl, _⟩ := h
    rfl
  · obtain ⟨v, d, p, kn, rfl, hP, hz, hK, hsz, ok, hlab, q⟩ := h
    refine ⟨_, (pss_one (ps_ret (pe_op op_cat (pe_cal C_sum_lines (by first | exact hr | exact hr.mono (by decide)) (by rfl) (pa_cons (pv 1) pa_nil)) (pe_cal C_task_lines (by first | exact hr | exact hr.mono (by decide)) (by rfl) (pa_cons (pv 0) (pa_cons (pv 1) pa_nil)))))), ?_⟩
    have h1 := Cl.sum_len ("" : Str) kn
    have h2 := Cl.task_len ("" : Str) (tFun p.ts) kn
    have h3 : kn.length * kn.length ≤ 3000 * 3000 := Nat.mul_le_mul hsz hsz
    refine s_retN (Ex.refl H) (en_is (en_cat (K := K) (en_call (ea_cons (ev_var rfl) ea_nil) fun H1 e Q q E => ⟨d, kn, rfl, hK.ex e, hsz, ok, q⟩) (en_call (ea_cons (ev_var rfl) (ea_cons (ev_var rfl) ea_nil)) fun H1 e Q q E => ⟨v, d, p, kn, rfl, hP.ex e, hz, hK.ex e, hsz, hlab, q⟩) (by rw [List.length_map, List.length_map]; omega) rCat fun p q xs ys H1 Q g1 g2 hl k => ⟨p, q, xs, ys, rfl, rfl, g1, g2, hl, k⟩) ?_) q
    unfold Cl.nextLn
    rw [List.map_append]
end
end Vf
end
section
set_option Elab.async false
set_option linter.all false
set_option maxRecDepth 100000
set_option maxHeartbeats 8000000
namespace Vf
open PySem PySem.Spec PyProof.Rows L2 Evl
/-! ### the way back to a ring -/
inductive IntoD (H : Hp) : List (Key × V) → List (Str × EdS) → Prop
  | nil : IntoD H [] []
  | cons {y : Str} {q : Addr} {a : EdS} {ws : List (Key × V)} {l : List (Str × EdS)} : H q = some (.tup ((keyL a.k).map kV)) → IntoD H ws l → IntoD H ((.inr y, .ref q) :: ws) ((y, a) :: l)
theorem IntoD.len {H : Hp} {ws : List (Key × V)} {l : List (Str × EdS)} (h : IntoD H ws l) : ws.length = l.length := by
  induction h with
  | nil => rfl
  | cons _ _ ih => rw [List.length_cons, List.length_cons, ih]
theorem IntoD.to {H H' : Hp} {ws : List (Key × V)} {l : List (Str × EdS)} (h : IntoD H ws l) (e : ∀ q xs, H q = some (.tup xs) → H' q = some (.tup xs)) : IntoD H' ws l := by
  induction h with
  | nil => exact .nil
  | cons q _ ih => exact .cons (e _ _ q) ih
theorem IntoD.look {H : Hp} {ws : List (Key × V)} {l : List (Str × EdS)} (h : IntoD H ws l) (x : Str) : (Cl.lookA l x = none ∧ valV ws (.inr x) = none) ∨ ∃ q a, Cl.lookA l x = some a ∧ valV ws (.inr x) = some (.ref q) ∧ H q = some (.tup ((keyL a.k).map kV)) := by
  induction h with
  | nil => exact .inl ⟨rfl, rfl⟩
  | @cons y q a ws l hq _ ih =>
    by_cases e : y = x
    · exact .inr ⟨q, a, Cl.lookA_pos (p := (y, a)) e, valV_pos (p := ((.inr y : Key), V.ref q)) (congrArg Sum.inr e), hq⟩
    · rw [Cl.lookA_neg (p := (y, a)) e, valV_neg (p := ((.inr y : Key), V.ref q)) (fun z => e (Sum.inr.inj z))]
      exact ih
theorem IntoD.put {H : Hp} {ws : List (Key × V)} {l : List (Str × EdS)} (h : IntoD H ws l) {x : Str} {q : Addr} {a : EdS} (hq : H q = some (.tup ((keyL a.k).map kV))) : IntoD H (putK ws (.inr x) (.ref q)) (Cl.putA l x a) := by
  have hm : ∀ {ws : List (Key × V)} {l : List (Str × EdS)}, IntoD H ws l → IntoD H (ws.map fun kv => if kv.1 = .inr x then (kv.1, .ref q) else kv) (l.map fun p => if p.1 = x then (p.1, a) else p) := by
    intro ws l h
    induction h with
    | nil => exact .nil
    | @cons y q' a' ws l h1 _ ih =>
      rw [List.map_cons, List.map_cons]
      by_cases e : y = x
      · rw [if_pos (show ((.inr y : Key), V.ref q').1 = .inr x from congrArg Sum.inr e), if_pos (show (y, a').1 = x from e)]
        exact .cons hq ih
      · rw [if_neg (show ¬ ((.inr y : Key), V.ref q').1 = .inr x from fun z => e (Sum.inr.inj z)), if_neg (show ¬ (y, a').1 = x from e)]
        exact .cons h1 ih
  have hs : ∀ {ws : List (Key × V)} {l : List (Str × EdS)}, IntoD H ws l → IntoD H (ws ++ [(.inr x, .ref q)]) (l ++ [(x, a)]) := by
    intro ws l h
    induction h with
    | nil => exact .cons hq .nil
    | cons h1 _ ih => exact .cons h1 ih
  have same : (valV ws (.inr x)).isSome = (Cl.lookA l x).isSome := by
    rcases h.look x with ⟨h1, h2⟩ | ⟨_, _, h1, h2, _⟩ <;> rw [h1, h2] <;> rfl
  unfold putK Cl.putA
  rw [valV_any, Cl.lookA_any, same]
  split
  · exact hm h
  · exact hs h
def plOf (kn : KnS) (a : EdS) : Nat := match Cl.lookA kn a.k with | none => 0 | some p => p.2
def natI (r : List Nat) : List PyData := r.map fun n : Nat => PyData.int (n : Int)
theorem dpa_natI {K : PySem.W.Frag} {H : Hp} : ∀ r : List Nat, DpAll K H (r.map fun n : Nat => V.int (n : Int)) (natI r)
  | [] => .nil
  | n :: r => .cons (.int _) (dpa_natI r)
abbrev spBack (K : PySem.W.Frag) : Sp := fun vs H Q _ => ∃ d i last kn ws into l, vs = [.ref d, .ref i, .str last] ∧ KnR K H d kn ∧ Cl.OkK kn ∧ H i = some (.dK ws) ∧ IntoD H ws into ∧ (∀ p ∈ into, p.2 ∈ Cl.edges kn) ∧ into.length ≤ 10000 ∧ Cl.ringB into last = some l ∧ RetN K (natI (l.map (plOf kn))) H Q
section
variable {K : PySem.W.Frag} {H : Hp}
/-- known[into[x]] -/
theorem ent_at {kn : KnS} (ok : Cl.OkK kn) {a : EdS} (ha : a ∈ Cl.edges kn) : Cl.lookA (knD kn) (keyL a.k) = some (entD (a, plOf kn a)) := by
  obtain ⟨p, hp, rfl⟩ := List.mem_map.mp ha
  have h := Cl.lookA_of ok.nd hp
  rw [ok.ky p hp] at h
  rw [look_knD]
  unfold plOf
  rw [h]
  rfl
theorem dp_key {q : Addr} {a : EdS} (h : H q = some (.tup ((keyL a.k).map kV))) : Dp K H (.ref q) (.tuple [.str a.x, .str a.y, .str a.e]) := .tup (st_of h) (.cons (.str _) (.cons (.str _) (.cons (.str _) .nil)))
end
section
variable {P : Program} {w : World} {K : PySem.W.Frag} {mg : Str → Option Value} {base : Heap} {tg : Tok} {f : Addr} {fd : FuncData}
abbrev s_ring_back : Stmt := topS 46
theorem sc_ring_back : FnScope ["known", "into", "last", "start", "_", "ring", "at"] ["known", "into", "last"] (defScope s_ring_back) := ⟨rfl, rfl, rfl, by decide +kernel, rfl, by decide +kernel, by decide +kernel⟩
theorem ok_ring_back (F : Fun K "ring_back" "ring_back" s_ring_back f fd) (T : Txt mg tg) : FnOk P w K mg base CX0 1 f fd ["known", "into", "last"] (spBack K) := by
  refine F.ok sc_ring_back (fun vs H Q E h => ?_) (fun cdv A outer s H vs Q E hr h => ?_)
  · obtain ⟨d, i, last, kn, ws, into, l, rfl, _⟩ := h
    rfl
  · obtain ⟨d, i, last, kn, ws, into, l, rfl, hK, ok, hi, hI, hin, hlen, hrb, q⟩ := h
    refine ⟨_, (pss_cons (ps_set (i := 3) sc_ring_back.nd rfl (Or.inl rfl) (pv 2)) (pss_cons (ps_for PassesOwn.never rfl (pi_range1 rfl T.range (pa_cons (pe_callB call_lenD (by rfl) T.len (by decide +kernel) (pa_cons (pv 1) pa_nil)) pa_nil)) (pg_name (i := 4) sc_ring_back.nd rfl (Or.inl rfl)) (pss_one (ps_set (i := 3) sc_ring_back.nd rfl (Or.inl rfl) (pe_ix (ix_tupK (K := K) rfl) (pe_dget (hu_of hr) (pv 1) (pv 3) (fun _ _ => rfl)) pe_int (fun _ _ => rfl))))) (pss_cons (ps_set (i := 5) sc_ring_back.nd rfl (Or.inl rfl) (pe_lst (pa_cons (pe_ix (ix_tupK (K := K) rfl) (pe_dget (hu_of hr) (pv 0) (pe_dget (hu_of hr) (pv 1) (pv 3) (fun _ _ => rfl)) (fun _ _ => rfl)) pe_int (fun _ _ => rfl)) pa_nil))) (pss_cons (ps_set (i := 6) sc_ring_back.nd rfl (Or.inl rfl) (pe_ix (ix_tupK (K := K) rfl) (pe_dget (hu_of hr) (pv 1) (pv 3) (fun _ _ => rfl)) pe_int (fun _ _ => rfl))) (pss_cons (ps_while PassesOwn.never (pt_cmpR op_ne (pv 6) (pv 3) (nomark _)) (pss_cons (ps_expr (pe_bm PySem.F.plainAttrs_list PySem.F.slot_list_append PySem.F.type_list_append mt_append (pv 5) (pa_cons (pe_ix (ix_tupK (K := K) rfl) (pe_dget (hu_of hr) (pv 0) (pe_dget (hu_of hr) (pv 1) (pv 6) (fun _ _ => rfl)) (fun _ _ => rfl)) pe_int (fun _ _ => rfl)) pa_nil))) (pss_one (ps_set (i := 6) sc_ring_back.nd rfl (Or.inl rfl) (pe_ix (ix_tupK (K := K) rfl) (pe_dget (hu_of hr) (pv 1) (pv 6) (fun _ _ => rfl)) pe_int (fun _ _ => rfl)))))) (pss_one (ps_ret (pe_revLK (K := K) rfl (pv 5))))))))), ?_⟩
    obtain ⟨kvs, hk, hA⟩ := hK
    unfold Cl.ringB at hrb
    cases hb : Cl.backN into into.length last with
    | none => rw [hb] at hrb; cases hrb
    | some s0 =>
      rw [hb] at hrb
      dsimp only at hrb
      cases hls : Cl.lookA into s0 with
      | none => rw [hls] at hrb; cases hrb
      | some a0 =>
        rw [hls] at hrb
        dsimp only at hrb
        obtain ⟨acc, hacc, rfl⟩ := Option.map_eq_some_iff.mp hrb
        have hl := hI.len
        have inE : ∀ {x a}, Cl.lookA into x = some a → a ∈ Cl.edges kn := fun {x a} h => hin _ (Cl.lookA_mem h)
        -- one step
        have stepV : ∀ {x : Str} {a : EdS} {H' : Hp} {σ : L2.St} {te : TE}, Cl.lookA into x = some a → Ex H H' → Ev te σ H' (.str x) → (∃ q, Ev (tDGet (tVar 1) te) σ H' (.ref q) ∧ H' q = some (.tup ((keyL a.k).map kV))) ∨ σ[1]? ≠ some (some (.ref i)) := fun {x a H' σ te} hx e hv => by
          by_cases z : σ[1]? = some (some (.ref i))
          · left
            rcases hI.look x with ⟨n, _⟩ | ⟨q, a', g1, g2, g3⟩
            · rw [hx] at n; cases n
            · rw [hx] at g1
              cases g1
              exact ⟨q, ev_dgetR (k := .inr x) (ev_var z) (.inl (e _ _ hi)) hv g2, e _ _ g3⟩
          · exact .inr z
        have ent : ∀ {x : Str} {a : EdS} {H' : Hp} {σ : L2.St} {te : TE}, Cl.lookA into x = some a → Ex H H' → Ev te σ H' (.str x) → σ[1]? = some (some (.ref i)) → σ[0]? = some (some (.ref d)) → Ev (tOp (rIxT K) (tDGet (tVar 0) (tDGet (tVar 1) te)) (tC (.int 1))) σ H' (.int (plOf kn a : Int)) := fun {x a H' σ te} hx e hv z1 z0 => by
          rcases stepV hx e hv with ⟨q', g1, g2⟩ | z
          · have hkn := ent_at ok (inE hx)
            rcases (hA.ex e).look (keyL a.k) with ⟨n, _⟩ | ⟨v, dd, h1, h2, h3⟩
            · rw [hkn] at n; cases n
            · rw [hkn] at h1
              cases h1
              exact ev_intD (ed_ixT 1 (ed_of (ev_dgetQ (ev_var z0) (ex_rd e hk) g1 g2 h2) h3) ev_c rfl rfl)
          · exact absurd z1 z
        have nxt : ∀ {x : Str} {a : EdS} {H' : Hp} {σ : L2.St} {te : TE}, Cl.lookA into x = some a → Ex H H' → Ev te σ H' (.str x) → σ[1]? = some (some (.ref i)) → Ev (tOp (rIxT K) (tDGet (tVar 1) te) (tC (.int 0))) σ H' (.str a.x) := fun {x a H' σ te} hx e hv z1 => by
          rcases stepV hx e hv with ⟨q', g1, g2⟩ | z
          · exact ev_strD (ed_ixT 0 (ed_of g1 (dp_key g2)) ev_c rfl rfl)
          · exact absurd z1 z
        -- start = last
        refine q_asg (v := .str last) (ev_var rfl) fun H1 e1 => ?_
        refine q_forR1 (n := (ws.length : Int)) (ea_cons (ev_cb (ea_cons (ev_var rfl) ea_nil) fun H3 e3 Q q => ⟨i, ws, rfl, e3 _ _ (e1 _ _ hi), q H3 (Ex.refl H3)⟩) ea_nil) (by omega)
          (fun j σ' H' => ∃ st x4, σ' = [some (.ref d), some (.ref i), some (.str last), some (.str st), x4, none, none] ∧ Ex H H' ∧ Cl.backN into (into.length - j) st = some s0) (fun H2 e2 => ⟨last, _, rfl, e1.trans e2, hb⟩) ?_ ?_
        · rintro j σ' H' hj ⟨st, x4, rfl, e, hbk⟩
          have hj' : into.length - j = (into.length - (j + 1)) + 1 := by omega
          rw [hj'] at hbk
          unfold Cl.backN at hbk
          cases hx : Cl.lookA into st with
          | none => rw [hx] at hbk; cases hbk
          | some a =>
            rw [hx] at hbk
            exact s_asg (nxt hx e (ev_var rfl) rfl) fun H2 e2 => ⟨a.x, _, rfl, e.trans e2, hbk⟩
        · rintro σ' H' ⟨st, x4, rfl, e, hbk⟩
          have h0 : into.length - ((ws.length : Int)).toNat = 0 := by omega
          rw [h0] at hbk
          cases hbk
          -- ring = [..]
          refine q_asgL (xs := [.int (plOf kn a0 : Int)]) (el_lst (ea_cons (ent hls e (ev_var rfl) rfl rfl) ea_nil) (by show 1 ≤ 100000; decide)) fun L H2 hL e2 h2 => ?_
          have eL := e.trans e2
          refine q_asg (v := .str a0.x) (nxt hls eL (ev_var rfl) rfl) fun H3 e3 => ?_
          have hL0 : H L = none := fresh_back e hL
          refine q_while (fun m σ' H' => ∃ at' ac, σ' = [some (.ref d), some (.ref i), some (.str last), some (.str s0), x4, some (.ref L), some (.str at')] ∧ Ex H H' ∧ H' L = some (.lst (ac.map fun a : EdS => V.int (plOf kn a : Int))) ∧ ac.length + m ≤ into.length + 2 ∧ Cl.rback into s0 m at' ac = some acc) (into.length + 1)
            ⟨a0.x, [a0], rfl, eL.trans e3, e3 _ _ h2, by show 1 + _ ≤ _; omega, hacc⟩ ?_
          rintro m σ' H' ⟨at', ac, rfl, e', hL', hm, hrb'⟩
          refine ⟨!decide (at' = s0), et_test (ev_opD (K := K) (ed_str (ev_var rfl)) (ed_str (ev_var rfl)) rd_neS), fun hb H4 e4 => ?_, fun hb H4 e4 => ?_⟩
          · have hne : at' ≠ s0 := by simpa using hb
            cases m with
            | zero => unfold Cl.rback at hrb'; cases hrb'
            | succ m =>
              unfold Cl.rback at hrb'
              rw [if_neg hne] at hrb'
              cases hx : Cl.lookA into at' with
              | none => rw [hx] at hrb'; cases hrb'
              | some a =>
                rw [hx] at hrb'
                dsimp only at hrb'
                have e5 := e'.trans e4
                refine ⟨fun σ2 H2 => ∃ at' ac, σ2 = [some (.ref d), some (.ref i), some (.str last), some (.str s0), x4, some (.ref L), some (.str at')] ∧ Ex H H2 ∧ H2 L = some (.lst (ac.map fun a : EdS => V.int (plOf kn a : Int))) ∧ ac.length + m ≤ into.length + 2 ∧ Cl.rback into s0 m at' ac = some acc, fun σ2 H2 h => ⟨m, Nat.lt_succ_self _, h⟩, ?_⟩
                refine q_app (K := K) (e4 _ _ hL') (ev_var rfl) (ent hx e5 (ev_var rfl) rfl rfl) (by rw [List.length_map]; omega) fun H6 e6 => ?_
                have e7 : Ex H (upd H6 L (.lst (ac.map (fun a : EdS => V.int (plOf kn a : Int)) ++ [.int (plOf kn a : Int)]))) := Ex.mut (e5.trans e6) hL0
                exact s_asg (nxt hx e7 (ev_var rfl) rfl) fun H8 e8 => ⟨a.x, ac ++ [a], rfl, e7.trans e8, e8 _ _ (by rw [upd_same, List.map_append]; rfl), by rw [List.length_append]; show _ + 1 + _ ≤ _; omega, hrb'⟩
          · have heq : at' = s0 := by simpa using hb
            have hacc2 : ac = acc := by
              cases m with
              | zero => unfold Cl.rback at hrb'; cases hrb'
              | succ m =>
                unfold Cl.rback at hrb'
                rw [if_pos heq] at hrb'
                exact Option.some.inj hrb'
            subst hacc2
            refine ⟨.ref L, rfl, L, _, rfl, sq_of (e4 _ _ hL'), fun p hp => ?_⟩
            have e5 := e'.trans e4
            refine q p _ _ (fresh_back e5 hp) (e5.trans (Ex.new hp)) upd_same ?_
            have : (ac.map fun a : EdS => V.int (plOf kn a : Int)).reverse = (ac.reverse.map (plOf kn)).map fun n : Nat => V.int (n : Int) := by
              rw [← List.map_reverse, List.map_map]
              rfl
            rw [this]
            exact dpa_natI _
end
end Vf
end
section
set_option Elab.async false
set_option linter.all false
set_option maxRecDepth 100000
set_option maxHeartbeats 8000000
namespace Vf
open PySem PySem.Spec PyProof.Rows L2 Evl
/-! ### a ring among what is known -/
def rV (r : List (Str × Int)) : List (Key × V) := r.map fun p => (.inr p.1, .int p.2)
theorem rV_look (r : List (Str × Int)) (x : Str) : valV (rV r) (.inr x) = (Cl.lookA r x).map V.int := by
  induction r with
  | nil => rfl
  | cons p r ih =>
    show valV ((.inr p.1, .int p.2) :: rV r) _ = _
    by_cases e : p.1 = x
    · rw [Cl.lookA_pos e, valV_pos (p := ((.inr p.1 : Key), V.int p.2)) (congrArg Sum.inr e)]; rfl
    · rw [Cl.lookA_neg e, valV_neg (p := ((.inr p.1 : Key), V.int p.2)) (fun z => e (Sum.inr.inj z)), ih]
theorem rV_put (r : List (Str × Int)) (x : Str) (i : Int) : putK (rV r) (.inr x) (.int i) = rV (Cl.putA r x i) := by
  have any : ((rV r).any fun kv => decide (kv.1 = (.inr x : Key))) = (r.any fun p => decide (p.1 = x)) := by
    rw [valV_any, Cl.lookA_any, rV_look]
    cases Cl.lookA r x <;> rfl
  unfold putK Cl.putA
  rw [any]
  split
  · unfold rV
    rw [List.map_map, List.map_map]
    refine List.map_congr_left fun p _ => ?_
    show (if (Sum.inr p.1 : Key) = .inr x then ((.inr p.1 : Key), V.int i) else (.inr p.1, .int p.2)) = ((.inr (if p.1 = x then (p.1, i) else p).1 : Key), V.int (if p.1 = x then (p.1, i) else p).2)
    by_cases e : p.1 = x
    · rw [if_pos (congrArg Sum.inr e), if_pos e]
    · rw [if_neg (fun z => e (Sum.inr.inj z)), if_neg e]
  · unfold rV
    rw [List.map_append]
    rfl
theorem rV_len (r : List (Str × Int)) : (rV r).length = r.length := List.length_map ..
def zeros (ns : List Str) : List (Str × Int) := ns.foldl (fun r x => Cl.putA r x 0) []
theorem zeros_len (ns : List Str) : (zeros ns).length ≤ ns.length := by
  have : ∀ (ns : List Str) (r : List (Str × Int)), (ns.foldl (fun r x => Cl.putA r x 0) r).length ≤ r.length + ns.length := by
    intro ns
    induction ns with
    | nil => exact fun r => Nat.le_refl _
    | cons x ns ih =>
      intro r
      have h1 := ih (Cl.putA r x 0)
      have h2 := Cl.putA_len (l := r) x (0 : Int)
      rw [List.foldl_cons, List.length_cons]
      split at h2 <;> omega
  have := this ns []
  unfold zeros
  simpa using this
theorem zeros_names {kn : KnS} (ok : Cl.OkK kn) : zeros (namesOf kn) = Cl.names0 (Cl.edges kn) := by
  unfold zeros namesOf Cl.names0 Cl.edges
  have : ∀ (l : KnS) (r : List (Str × Int)), (∀ p ∈ l, p.1 = p.2.1.k) → (l.flatMap fun p => [p.1.1, p.1.2.1]).foldl (fun r x => Cl.putA r x 0) r = (l.map (·.2.1)).foldl (fun r a => Cl.putA (Cl.putA r a.x 0) a.y 0) r := by
    intro l
    induction l with
    | nil => exact fun r _ => rfl
    | cons p l ih =>
      intro r h
      have hp := h p (List.mem_cons_self ..)
      have e : ((p :: l).flatMap fun p => [p.1.1, p.1.2.1]).foldl (fun r x => Cl.putA r x 0) r = (l.flatMap fun p => [p.1.1, p.1.2.1]).foldl (fun r x => Cl.putA r x 0) (Cl.putA (Cl.putA r p.2.1.x 0) p.2.1.y 0) := by
        rw [List.flatMap_cons, List.foldl_append, hp]
        rfl
      rw [e, ih _ fun q hq => h q (List.mem_cons_of_mem _ hq)]
      rfl
  exact this kn [] ok.ky
theorem bf_succ (es : List EdS) (n : Nat) (s : Cl.Bf Str) : Cl.bf es (n + 1) s = if (Cl.roundB es s).2.2 = none then none else Cl.bf es n (Cl.roundB es s) := rfl
theorem bf_zero (es : List EdS) (s : Cl.Bf Str) : Cl.bf es 0 s = s.2.2.map fun v => (s.2.1, v) := rfl
def lastV : Option Str → V | none => .non | some y => .str y
/-- the rounds one by one -/
def bfAt (es : List EdS) : Nat → Cl.Bf Str
  | 0 => (Cl.names0 es, [], none)
  | n + 1 => Cl.roundB es (bfAt es n)
theorem relax_keys (s : Cl.Bf Str) (a : EdS) (h : a.y ∈ s.1.map (·.1)) : (Cl.relax1 s a).1.map (·.1) = s.1.map (·.1) := by
  unfold Cl.relax1
  split
  · show (Cl.putA s.1 a.y _).map (·.1) = _
    cases e : Cl.lookA s.1 a.y with
    | none => exact absurd h (Cl.lookA_none.mp e)
    | some c => rw [Cl.putA_old _ e, Cl.keys_map]
  · rfl
/-- what holds of a state of the rounds -/
structure BfOk (es : List EdS) (s : Cl.Bf Str) : Prop where
  keys : s.1.map (·.1) = (Cl.names0 es).map (·.1)
  into : ∀ p ∈ s.2.1, p.2 ∈ es
  few : (s.2.1.map (·.1)).Nodup ∧ ∀ x ∈ s.2.1.map (·.1), x ∈ (Cl.names0 es).map (·.1)
theorem BfOk.relax {es : List EdS} {s : Cl.Bf Str} (h : BfOk es s) {a : EdS} (ha : a ∈ es) : BfOk es (Cl.relax1 s a) := by
  have hy : a.y ∈ s.1.map (·.1) := by rw [h.keys]; exact (Cl.names_in es a ha).2
  refine ⟨(relax_keys s a hy).trans h.keys, ?_, ?_⟩
  · unfold Cl.relax1
    split
    · intro p hp
      rcases Cl.mem_putA hp with rfl | hp
      · exact ha
      · exact h.into p hp
    · exact h.into
  · unfold Cl.relax1
    split
    · refine ⟨Cl.putA_nodup h.few.1 _ _, fun x hx => ?_⟩
      obtain ⟨p, hp, rfl⟩ := List.mem_map.mp hx
      rcases Cl.mem_putA hp with rfl | hp
      · exact (Cl.names_in es a ha).2
      · exact h.few.2 _ (List.mem_map_of_mem hp)
    · exact h.few
theorem BfOk.none' {es : List EdS} {s : Cl.Bf Str} (h : BfOk es s) (l : Option Str) : BfOk es (s.1, s.2.1, l) := ⟨h.keys, h.into, h.few⟩
theorem BfOk.look {es : List EdS} {s : Cl.Bf Str} (h : BfOk es s) {x : Str} (hx : x ∈ (Cl.names0 es).map (·.1)) : Cl.lookA s.1 x = some (Cl.gi s.1 x) := by
  unfold Cl.gi
  cases e : Cl.lookA s.1 x with
  | none => exact absurd (h.keys ▸ hx) (Cl.lookA_none.mp e)
  | some i => rfl
theorem foldl_snoc {α σ : Type} {f : σ → α → σ} {l : List α} {i : Nat} {a : α} (h : l[i]? = some a) (s : σ) : (l.take (i + 1)).foldl f s = f ((l.take i).foldl f s) a := by
  rw [take_snoc h, List.foldl_append]
  rfl
abbrev spRing (K : PySem.W.Frag) : Sp := fun vs H Q _ => ∃ d kn r, vs = [.ref d] ∧ KnW K H d kn ∧ Cl.OkK kn ∧ kn.length ≤ 3000 ∧ Cl.ringPl kn = some r ∧ RetN K (natI r) H Q
section
variable {K : PySem.W.Frag} {σ : L2.St} {H H' : Hp} {te : TE} {tz : TS} {D : Ends}
theorem q_unp2D {i j : Nat} {d1 d2 : PyData} (h : EvD K te σ H (.tuple [d1, d2])) (k : ∀ v1 v2 H1, Ex H H1 → Dp K H1 v1 d1 → Dp K H1 v2 d2 → tz D ((σ.set i (some v1)).set j (some v2)) H1) :
    tSeq (tAsg te (gTup K 2 (gCons (gName i) (gCons (gName j) gNil)))) tz D σ H := h H (Ex.refl H) _ fun v H1 e hd => by
  cases hd with
  | tup hs ha =>
    cases ha with
    | cons h1 ha => cases ha with
      | cons h2 ha => cases ha; exact goes_tup2 hs _ H1 (Ex.refl H1) (k _ _ H1 e h1 h2)
theorem rv_isN {x : V} {H : Hp} : RV (fun x y H Q => y = .non ∧ Q (.bl (decide (x = .non))) H) x .non H (.bl (decide (x = .non))) := fun H1 _ Q q => ⟨rfl, q H1 (Ex.refl H1)⟩
theorem lock_mono {d : Addr} {o : HO} (e : Ex H H') : Ex (upd H d o) (upd H' d o) := fun a u h => by
  by_cases z : a = d
  · rw [z, upd_same] at h ⊢; exact h
  · rw [upd_ne z] at h ⊢; exact e a u h
theorem tup_upd {l q : Addr} {o : HO} {xs ys : List V} {kvs : List (Key × V)} (hl : H l = some (.dK kvs)) (hq : H q = some (.tup xs)) : (upd H l o) q = some (.tup xs) := by
  rw [upd_ne (fun z => by rw [z, hl] at hq; cases hq)]
  exact hq
end
section
variable {P : Program} {w : World} {K : PySem.W.Frag} {mg : Str → Option Value} {base : Heap} {tg : Tok} {f : Addr} {fd : FuncData}
abbrev s_ring_among : Stmt := topS 47
theorem sc_ring_among : FnScope ["known", "key", "name", "reached", "into", "last", "_", "x", "y", "total"] ["known"] (defScope s_ring_among) := ⟨rfl, rfl, rfl, by decide +kernel, rfl, by decide +kernel, by decide +kernel⟩
theorem ok_ring_among (F : Fun K "ring_among" "ring_among" s_ring_among f fd) (T : Txt mg tg) (C_ring_back : Cal P w K mg base 1 "ring_back" ["known", "into", "last"] (spBack K)) : FnOk P w K mg base CX0 2 f fd ["known"] (spRing K) := by
  refine F.ok sc_ring_among (fun vs H Q E h => ?_) (fun cdv A outer s H vs Q E hr h => ?_)
  · obtain ⟨d, kn, r, rfl, _⟩ := h
    rfl
  · obtain ⟨d, kn, r, rfl, ⟨kvs, hd, hA⟩, ok, hsz, hr0, q⟩ := h
    refine ⟨_, (pss_cons (ps_lock (ps_setDc2 (i := 3) (own := [("key", 1), ("name", 2)]) (vs := [2]) rfl sc_ring_among.nd rfl rfl (sw_dc rfl rfl rfl (by decide +kernel)) (pi_keys (pv 0)) (blkOk_by (own := [("key", 1), ("name", 2)]) (N := ["known", "key", "name", "reached", "into", "last", "_", "x", "y", "total"]) (sc := defScope s_ring_among) (by decide +kernel)) (by decide) (fun _ _ _ _ _ => (pg_name (i := 1) sc_ring_among.nd rfl (Or.inl rfl))) (fun _ _ _ _ _ => (pi_tupK (K := K) rfl (pe_slice (sl_tupK (K := K) rfl) (pv 1) po_none (po_some pe_int)))) (fun _ _ _ _ _ => (pg_name (i := 2) sc_ring_among.nd rfl (Or.inl rfl))) (fun _ _ _ _ _ => (pv 2)) (fun _ _ _ _ _ => pe_int))) (pss_cons (ps_set (i := 4) sc_ring_among.nd rfl (Or.inl rfl) pe_dnewK) (pss_cons (ps_set (i := 5) sc_ring_among.nd rfl (Or.inl rfl) pe_non) (pss_cons (ps_for PassesOwn.never rfl (pi_range1 rfl T.range (pa_cons (pe_callB call_lenD (by rfl) T.len (by decide +kernel) (pa_cons (pv 3) pa_nil)) pa_nil)) (pg_name (i := 6) sc_ring_among.nd rfl (Or.inl rfl)) (pss_cons (ps_set (i := 5) sc_ring_among.nd rfl (Or.inl rfl) pe_non) (pss_cons (ps_lock (ps_for PassesOwn.never rfl (pi_keys (pv 0)) (pg_name (i := 1) sc_ring_among.nd rfl (Or.inl rfl)) (pss_cons (ps_asg (pe_slice (sl_tupK (K := K) rfl) (pv 1) po_none (po_some pe_int)) (pg_tupK (K := K) (n := 2) rfl rfl (pgs_cons (pg_name (i := 7) sc_ring_among.nd rfl (Or.inl rfl)) (pgs_cons (pg_name (i := 8) sc_ring_among.nd rfl (Or.inl rfl)) pgs_nil)))) (pss_cons (ps_set (i := 9) sc_ring_among.nd rfl (Or.inl rfl) (pe_op op_add (pe_dget (hu_of hr) (pv 3) (pv 7) (fun _ _ => rfl)) (pe_ix (ix_tupK (K := K) rfl) (pe_ix (ix_tupK (K := K) rfl) (pe_dget (hu_of hr) (pv 0) (pv 1) (fun _ _ => rfl)) pe_int (fun _ _ => rfl)) pe_int (fun _ _ => rfl)))) (pss_one (ps_if (pt_cmpR op_lt (pv 9) (pe_dget (hu_of hr) (pv 3) (pv 8) (fun _ _ => rfl)) (nomark _)) (pss_cons (ps_dput (hu_of hr) (pv 3) (pv 8) (pv 9) rfl) (pss_cons (ps_dput (hu_of hr) (pv 4) (pv 8) (pv 1) rfl) (pss_one (ps_set (i := 5) sc_ring_among.nd rfl (Or.inl rfl) (pv 8))))) pss_nil)))))) (pss_one (ps_if (pt_cmpR op_isN (pv 5) pe_non (nomark _)) (pss_one (ps_ret (pe_lst pa_nil))) pss_nil))))) (pss_one (ps_ret (pe_ifExp (pt_cmpR op_isN (pv 5) pe_non (nomark _)) (pe_lst pa_nil) (pe_cal C_ring_back (by first | exact hr | exact hr.mono (by decide)) (by rfl) (pa_cons (pv 0) (pa_cons (pv 4) (pa_cons (pv 5) pa_nil))))))))))), ?_⟩
    have hnl : (namesOf kn).length = 2 * kn.length := len_flat2 _ _ _
    -- reached = ..
    refine ⟨d, .dT kvs, hd, True.intro, fun od => ?_⟩
    have hAf : AsD K (upd H d (.frz od (.dT kvs))) kvs (knD kn) := asd_lock hd free_dT (knD_noL kn) hA
    refine dc2_names (od := od) upd_same hAf (fun D ns H' => Ex (upd H d (.frz od (.dT kvs))) H' ∧ (upd H d (.frz od (.dT kvs))) D = none ∧ H' D = some (.dK (rV (zeros ns)))) (fun D hD => ⟨Ex.new hD, hD, upd_same⟩) (fun D ns H' p => p.1) (fun D ns H1 H2 ⟨p1, p2, p3⟩ e => ⟨p1.trans e, p2, e _ _ p3⟩) (fun D ns H' ⟨_, _, p3⟩ => ⟨_, p3⟩) ?_ ?_
    · rintro D ns x qq H1 hlen ⟨p1, p2, p3⟩ Q' k
      refine k (.int 0) H1 _ p3 ?_ (Ex.refl _) ⟨Ex.mut p1 p2, p2, ?_⟩
      · rw [rV_len, sizeLine_eq]
        have := zeros_len ns
        omega
      · rw [upd_same, rV_put]
        unfold zeros
        rw [List.foldl_append]
        rfl
    · rintro R H1 hRn ⟨p1, _, p3⟩
      refine ⟨p1 _ _ upd_same, ?_⟩
      have eU : Ex H (upd H1 d (.dT kvs)) := lock_back p1 hd
      have hRd : R ≠ d := fun z => by rw [z, upd_same] at hRn; cases hRn
      have hRH : H R = none := by rw [upd_ne hRd] at hRn; exact hRn
      rw [zeros_names ok] at p3
      have hR : (upd H1 d (.dT kvs)) R = some (.dK (rV (Cl.names0 (Cl.edges kn)))) := by rw [upd_ne hRd]; exact p3
      generalize upd H1 d (.dT kvs) = Hu at eU hR
      -- into = {}, last = None
      refine fun I hI => ?_
      dsimp only [gName]
      have hIR : I ≠ R := (ne_of_none hR hI).symm
      have hIH : H I = none := fresh_back eU hI
      refine q_asg (v := .non) ev_c fun H2 e2 => ?_
      have eB : Ex H H2 := (eU.trans (Ex.new hI)).trans e2
      have hR2 : H2 R = some (.dK (rV (Cl.names0 (Cl.edges kn)))) := e2 _ _ (by rw [upd_ne hIR.symm]; exact hR)
      have hI2 : H2 I = some (.dK []) := e2 _ _ upd_same
      have hn0 : (rV (Cl.names0 (Cl.edges kn))).length ≤ 6000 := by
        rw [rV_len, ← zeros_names ok]
        have := zeros_len (namesOf kn)
        omega
      have hn1 : (Cl.names0 (Cl.edges kn)).length ≤ 6000 := by rw [← rV_len]; exact hn0
      -- what holds from one round to the next
      let Wd : Cl.Bf Str → Hp → Prop := fun s H' => Ex H H' ∧ H' R = some (.dK (rV s.1)) ∧ ∃ ws, H' I = some (.dK ws) ∧ IntoD H' ws s.2.1
      have fewI : ∀ s, BfOk (Cl.edges kn) s → s.2.1.length ≤ 6000 := fun s B => by
        have := Cl.sub_len _ _ B.few.1 B.few.2
        rw [List.length_map, List.length_map] at this
        omega
      have fewR : ∀ s, BfOk (Cl.edges kn) s → (rV s.1).length ≤ 6000 := fun s B => by
        have := congrArg List.length B.keys
        rw [List.length_map, List.length_map] at this
        rw [rV_len]
        omega
      refine q_forR1 (n := ((rV (Cl.names0 (Cl.edges kn))).length : Int)) ?_ (by omega)
        (fun j σ' H' => ∃ s x1 x2 x6 x7 x8 x9, σ' = [some (.ref d), x1, x2, some (.ref R), some (.ref I), some (lastV s.2.2), x6, x7, x8, x9] ∧ Wd s H' ∧ BfOk (Cl.edges kn) s ∧
          Cl.bf (Cl.edges kn) ((Cl.names0 (Cl.edges kn)).length - j) s = Cl.bf (Cl.edges kn) (Cl.names0 (Cl.edges kn)).length (Cl.names0 (Cl.edges kn), [], none))
        ?_ ?_ ?_
      · exact ea_cons (ev_cb (ea_cons (ev_var rfl) ea_nil) fun H3 e3 Q q => ⟨R, _, rfl, e3 _ _ hR2, q H3 (Ex.refl H3)⟩) ea_nil
      · exact fun H3 e3 => ⟨(Cl.names0 (Cl.edges kn), [], none), _, _, _, _, _, _, rfl, ⟨eB.trans e3, e3 _ _ hR2, [], e3 _ _ hI2, .nil⟩, ⟨rfl, fun p h => (nomatch h), by simp, fun x h => (nomatch h)⟩, rfl⟩
      · -- a round
        rintro j σ' H3 hj ⟨s, x1, x2, x6, x7, x8, x9, rfl, ⟨w1, w2, ws, w3, w4⟩, B, hbf⟩
        have hj' : (Cl.names0 (Cl.edges kn)).length - j = ((Cl.names0 (Cl.edges kn)).length - (j + 1)) + 1 := by rw [rV_len] at hj; omega
        rw [hj'] at hbf
        rw [bf_succ] at hbf
        refine q_asg (v := .non) ev_c fun H4 e4 => ?_
        have hd4 : H4 d = some (.dT kvs) := e4 _ _ (w1 _ _ hd)
        show tSeq _ _ _ _ _
        refine s_lockKeys (K := K) (kn := kn) (kvs := kvs) hd4 rfl fun od5 => ?_
        have hA5 : AsD K (upd H d (.frz od5 (.dT kvs))) kvs (knD kn) := asd_lock hd free_dT (knD_noL kn) hA
        have hRB : (upd H d (.frz od5 (.dT kvs))) R = none := by rw [upd_ne hRd]; exact hRH
        have hId : I ≠ d := fun z => by rw [z, hd] at hIH; cases hIH
        have hIB : (upd H d (.frz od5 (.dT kvs))) I = none := by rw [upd_ne hId]; exact hIH
        refine ⟨upd H d (.frz od5 (.dT kvs)), fun i σ' H' => ∃ t x1 x2 x6 x7 x8 x9, σ' = [some (.ref d), x1, x2, some (.ref R), some (.ref I), some (lastV t.2.2), x6, x7, x8, x9] ∧ (Ex (upd H d (.frz od5 (.dT kvs))) H' ∧ H' R = some (.dK (rV t.1)) ∧ ∃ ws, H' I = some (.dK ws) ∧ IntoD H' ws t.2.1) ∧
          t = ((Cl.edges kn).take i).foldl Cl.relax1 (s.1, s.2.1, none) ∧ BfOk (Cl.edges kn) t, upd_same, hA5, ⟨(s.1, s.2.1, none), _, _, _, _, _, _, rfl, ⟨lock_mono (w1.trans e4), ?_, ws, ?_, ?_⟩, rfl, B.none' none⟩, fun i σ' H' ⟨_, _, _, _, _, _, _, _, h, _⟩ => h.1, ?_, ?_⟩
        · rw [upd_ne hRd]; exact e4 _ _ w2
        · rw [upd_ne hId]; exact e4 _ _ w3
        · refine w4.to fun q xs hq => ?_
          rw [upd_ne (fun z => by
            have := e4 _ _ hq
            rw [z, hd4] at this
            cases this)]
          exact e4 _ _ hq
        · -- for key in known
          rintro i p qk σ' H5 hi hqk ⟨t, y1, y2, y6, y7, y8, y9, rfl, ⟨v1, v2, wt, v3, v4⟩, ht, Bt⟩ E2 enx _
          have hpm := List.mem_of_getElem? hi
          have hky := ok.ky p hpm
          have ha : p.2.1 ∈ Cl.edges kn := List.mem_map.mpr ⟨p, hpm, rfl⟩
          have hei : (Cl.edges kn)[i]? = some p.2.1 := by
            unfold Cl.edges
            rw [List.getElem?_map, hi]
            rfl
          have hnx := Cl.names_in (Cl.edges kn) p.2.1 ha
          rw [hky] at hqk
          refine q_unp2D (K := K) (d1 := .str p.2.1.x) (d2 := .str p.2.1.y) (ed_slT (K := K) (ed_of (ev_var rfl) (dp_key hqk)) eo_none (eo_some ev_c) (by show ¬ (0 = 0 ∧ 2 = 3); decide)) fun w1' w2' H6 e6 g1 g2 => ?_
          cases g1
          cases g2
          have lk := ent_at ok ha
          have v16 := v1.trans e6
          refine q_asg (v := .int (Cl.gi t.1 p.2.1.x + p.2.1.w)) (ev_op (ev_dgetR (k := .inr p.2.1.x) (ev_var rfl) (.inl (e6 _ _ v2)) (ev_var rfl) (by rw [rV_look, Bt.look hnx.1]; rfl)) (ev_intD (K := K) ?_) rv_I0) fun H7 e7 => ?_
          · rcases (hA5.ex v16).look (keyL p.2.1.k) with ⟨n, _⟩ | ⟨u, dd, h1, h2, h3⟩
            · rw [lk] at n; cases n
            · rw [lk] at h1
              cases h1
              exact ed_ixT 3 (ed_ixT 0 (ed_of (ev_dgetQ (ev_var rfl) (.inr ⟨od5, v16 _ _ upd_same⟩) (ev_var rfl) (e6 _ _ hqk) h2) h3) ev_c rfl rfl) ev_c rfl rfl
          have v17 := v16.trans e7
          have r7 : H7 R = some (.dK (rV t.1)) := e7 _ _ (e6 _ _ v2)
          have i7 : H7 I = some (.dK wt) := e7 _ _ (e6 _ _ v3)
          have d7 : IntoD H7 wt t.2.1 := v4.to fun q xs hq => e7 _ _ (e6 _ _ hq)
          have nxt : ∀ t', t' = Cl.relax1 t p.2.1 → t' = ((Cl.edges kn).take (i + 1)).foldl Cl.relax1 (s.1, s.2.1, none) ∧ BfOk (Cl.edges kn) t' := fun t' h => by
            rw [h, foldl_snoc hei, ← ht]
            exact ⟨rfl, Bt.relax ha⟩
          refine s_when (et_test (ev_op (ev_var rfl) (ev_dgetR (k := .inr p.2.1.y) (ev_var rfl) (.inl r7) (ev_var rfl) (by rw [rV_look, Bt.look hnx.2]; rfl)) rv_I0)) (fun hb H8 e8 => ?_) (fun hb H8 e8 => ?_)
          · have hlt : Cl.gi t.1 p.2.1.x + p.2.1.w < Cl.gi t.1 p.2.1.y := of_decide_eq_true hb
            have hrel : Cl.relax1 t p.2.1 = (Cl.putA t.1 p.2.1.y (Cl.gi t.1 p.2.1.x + p.2.1.w), Cl.putA t.2.1 p.2.1.y p.2.1, some p.2.1.y) := by
              unfold Cl.relax1
              rw [if_pos hlt]
            obtain ⟨n1, n2⟩ := nxt _ hrel.symm
            have hlR := fewR t Bt
            have hlI := fewI t Bt
            have hlW := v4.len
            refine q_dput (k := .inr p.2.1.y) (e8 _ _ r7) (ev_var rfl) (ev_var rfl) (ev_var rfl) (by omega) fun H9 e9 => ?_
            have i9 : (upd H9 R (.dK (putK (rV t.1) (.inr p.2.1.y) (.int (Cl.gi t.1 p.2.1.x + p.2.1.w))))) I = some (.dK wt) := by rw [upd_ne hIR]; exact e9 _ _ (e8 _ _ i7)
            refine q_dput (v := .ref qk) (k := .inr p.2.1.y) i9 (ev_var rfl) (ev_var rfl) (ev_var rfl) (by omega) fun H10 e10 => ?_
            refine s_asg (v := .str p.2.1.y) (ev_var rfl) fun H11 e11 => ?_
            rw [enx]
            have r9 : H9 R = some (.dK (rV t.1)) := e9 _ _ (e8 _ _ r7)
            have keepT : ∀ q xs, H7 q = some (.tup xs) → H11 q = some (.tup xs) := fun q xs hq => by
              have h9 := e9 _ _ (e8 _ _ hq)
              have h10 := e10 _ _ (tup_upd (ys := xs) r9 h9 (o := .dK (putK (rV t.1) (.inr p.2.1.y) (.int (Cl.gi t.1 p.2.1.x + p.2.1.w)))))
              refine e11 _ _ ?_
              rw [upd_ne (fun z => by
                rw [z, e10 _ _ i9] at h10
                cases h10)]
              exact h10
            refine ⟨_, _, _, _, _, _, _, rfl, ⟨?_, ?_, _, e11 _ _ upd_same, ?_⟩, n1, n2⟩
            · have h1 : Ex (upd H d (.frz od5 (.dT kvs))) (upd H9 R (.dK (putK (rV t.1) (.inr p.2.1.y) (.int (Cl.gi t.1 p.2.1.x + p.2.1.w))))) := Ex.mut ((v17.trans e8).trans e9) hRB
              exact (Ex.mut (h1.trans e10) hIB).trans e11
            · refine e11 _ _ ?_
              rw [upd_ne hIR.symm, e10 _ _ upd_same, rV_put]
            · exact (d7.to keepT).put (keepT _ _ (e7 _ _ (e6 _ _ hqk)))
          · have hge : ¬ Cl.gi t.1 p.2.1.x + p.2.1.w < Cl.gi t.1 p.2.1.y := of_decide_eq_false hb
            have hrel : Cl.relax1 t p.2.1 = t := by
              unfold Cl.relax1
              rw [if_neg hge]
            obtain ⟨n1, n2⟩ := nxt _ hrel.symm
            rw [enx]
            exact ⟨_, _, _, _, _, _, _, rfl, ⟨v17.trans e8, e8 _ _ r7, wt, e8 _ _ i7, d7.to fun q xs hq => e8 _ _ hq⟩, n1, n2⟩
        · -- behind the keys
          rintro σ' H5 ⟨t, y1, y2, y6, y7, y8, y9, rfl, ⟨v1, v2, wt, v3, v4⟩, ht, Bt⟩
          have hfull : (Cl.edges kn).take kn.length = Cl.edges kn := by
            have : kn.length = (Cl.edges kn).length := (List.length_map ..).symm
            rw [this, List.take_length]
          rw [hfull] at ht
          have hround : t = Cl.roundB (Cl.edges kn) s := ht
          have e6 := lock_back v1 hd
          have r6 : (upd H5 d (.dT kvs)) R = some (.dK (rV t.1)) := by rw [upd_ne hRd]; exact v2
          have i6 : (upd H5 d (.dT kvs)) I = some (.dK wt) := by rw [upd_ne hId]; exact v3
          have d6 : IntoD (upd H5 d (.dT kvs)) wt t.2.1 := v4.to fun q xs hq => by
            rw [upd_ne (fun z => by
              rw [z, v1 _ _ upd_same] at hq
              cases hq)]
            exact hq
          rw [← hround] at hbf
          refine s_when (et_test (ev_op (ev_var rfl) ev_c (rv_isN (x := lastV t.2.2)))) (fun hb H7 e7 => ?_) (fun hb H7 e7 => ?_)
          · have hn : t.2.2 = none := by
              cases h : t.2.2 with
              | none => rfl
              | some y => rw [h] at hb; cases hb
            rw [if_pos hn] at hbf
            have hrp : r = [] := by
              unfold Cl.ringPl Cl.ringOf at hr0
              rw [← hbf] at hr0
              exact (Option.some.inj hr0).symm
            subst hrp
            exact s_retL (el_lst ea_nil (Nat.zero_le _)) fun p H8 hp e8 h8 => q p [] H8 (fresh_back (e6.trans e7) hp) ((e6.trans e7).trans e8) h8 .nil
          · have hn : t.2.2 ≠ none := fun h => by rw [h] at hb; cases hb
            rw [if_neg hn] at hbf
            exact ⟨t, _, _, _, _, _, _, rfl, ⟨e6.trans e7, e7 _ _ r6, wt, e7 _ _ i6, d6.to fun q xs hq => e7 _ _ hq⟩, Bt, hbf⟩
      · -- return ..
        rintro σ' H3 ⟨s, x1, x2, x6, x7, x8, x9, rfl, ⟨w1, w2, ws, w3, w4⟩, B, hbf⟩
        have h0 : (Cl.names0 (Cl.edges kn)).length - (((rV (Cl.names0 (Cl.edges kn))).length : Int)).toNat = 0 := by rw [rV_len]; omega
        rw [h0, bf_zero] at hbf
        have fin : ∀ b, (decide (lastV s.2.2 = .non)) = b → EvN K (tIf (tTest (tOp (fun x y H Q => y = .non ∧ Q (.bl (decide (x = .non))) H) (tVar 5) (tC .non))) (tLst tNil) (tCall (spBack K) [] E0 (tCons (tVar 0) (tCons (tVar 4) (tCons (tVar 5) tNil)))))
            [some (.ref d), x1, x2, some (.ref R), some (.ref I), some (lastV s.2.2), x6, x7, x8, x9] H3 (natI r) := fun b hb H4 e4 Q' q' => by
          refine et_test (ev_op (ev_var (v := lastV s.2.2) rfl) ev_c rv_isN) H4 e4 _ fun H5 e5 => ?_
          cases hs : s.2.2 with
          | none =>
            rw [hs] at hbf
            have hrp : r = [] := by
              unfold Cl.ringPl Cl.ringOf at hr0
              rw [← hbf] at hr0
              exact (Option.some.inj hr0).symm
            subst hrp
            rw [if_pos (by rfl)]
            exact el_lst ea_nil (Nat.zero_le _) H5 (Ex.refl _) _ fun p H6 hp e6 h6 => q' p [] H6 (fresh_back e5 hp) (e5.trans e6) h6 .nil
          | some y =>
            rw [hs] at hbf
            have hrb : ∃ l, Cl.ringB s.2.1 y = some l ∧ r = l.map (plOf kn) := by
              unfold Cl.ringPl Cl.ringOf at hr0
              rw [← hbf] at hr0
              obtain ⟨l, h1, h2⟩ := Option.map_eq_some_iff.mp hr0
              exact ⟨l, h1, h2.symm.trans (List.map_congr_left fun a _ => by
                unfold plOf
                cases Cl.lookA kn a.k <;> rfl)⟩
            obtain ⟨l, hl, rfl⟩ := hrb
            rw [if_neg (by show ¬ (decide (V.str y = .non) = true); simp)]
            have fewI2 := fewI s B
            exact en_call (K := K) (vs := [.ref d, .ref I, .str y]) (ea_cons (ev_var rfl) (ea_cons (ev_var rfl) (ea_cons (ev_var rfl) ea_nil))) (fun H6 e6 Q q E => ⟨d, I, y, kn, ws, s.2.1, l, rfl, ⟨kvs, .inl (e6 _ _ (w1 _ _ hd)), hA.ex (w1.trans e6)⟩, ok, e6 _ _ w3, w4.to fun q xs hq => e6 _ _ hq, B.into, by omega, hl, q⟩) H5 (e4.trans e5) _ fun p xs H6 hp e6 h6 d6 => q' p xs H6 (fresh_back e5 hp) (e5.trans e6) h6 d6
        exact s_retN w1 (fin _ rfl) q
end
end Vf
end
section
set_option Elab.async false
set_option linter.all false
set_option maxRecDepth 100000
set_option maxHeartbeats 8000000
namespace Vf
open PySem PySem.Spec PyProof.Rows L2 Evl
/-! ### all that comes -/
structure FnP (p : PlanL) (s : Cl.Sta Str) (c : List LnS) : Prop where
  ok : Cl.OkK s.1
  len : s.1.length ≤ 3000
  len2 : (Cl.addAll s c).1.length ≤ 3000
  many : s.2.length + c.length ≤ 15999990
  lab : ∀ a ∈ Cl.edges s.1, a.e ≠ "" → (tFun p.ts a.e).isSome = true
  labc : ∀ l ∈ c, l.ed.e ≠ "" → (tFun p.ts l.ed.e).isSome = true
abbrev RunsP (p : PlanL) (n : Nat) (s : Cl.Sta Str) (c : List LnS) (q : Cl.Sta Str × List Nat) : Prop := Cl.Runs ("" : Str) (tFun p.ts) (FnP p) n s c q
theorem RunsP.f {p : PlanL} {n : Nat} {s : Cl.Sta Str} {c : List LnS} {q : Cl.Sta Str × List Nat} (r : RunsP p n s c q) : FnP p s c := by
  cases r with
  | stop f => exact f
  | ring f _ _ _ => exact f
  | more f _ _ _ => exact f
abbrev spSettle (K : PySem.W.Frag) : Sp := fun vs H Q _ => ∃ v p n q, vs = [v] ∧ PlAt K H v p ∧ SmallP p ∧ RunsP p n ([], []) (firstL p) q ∧
  ∀ (t a b c : Addr) (xs rs : List V) H2, H t = none → Ex H H2 → H2 t = some (.tup [.ref a, .ref b, .ref c]) → H2 a = some (.lst xs) → DpAll K H2 xs (q.1.2.map lnD) → KnW K H2 b q.1.1 → H2 c = some (.lst rs) → DpAll K H2 rs (natI q.2) → Q (.ref t) H2
section
variable {K : PySem.W.Frag} {σ : L2.St} {H H' : Hp} {te ta tk tv : TE} {tz : TS} {D : Ends} {a : Addr}
theorem s_asgCall {sp : Sp} {E : XK} {ta : TA} {i : Nat} {vs : List V} {D : Ends} (h : EvA ta σ H vs) (k : ∀ H1, Ex H H1 → sp (vs ++ []) H1 (fun x H2 => D.nx (σ.set i (some x)) H2) E) : tAsg (tCall sp [] E ta) (gName i) D σ H := h H (Ex.refl H) _ k
/-- t[a:b], a new tuple -/
theorem eu_slT {lo hi : Option Int} {to th : TO} {xs : List V} (h : Ev te σ H (.ref a)) (hs : SqT K H a xs) (h1 : EvO to σ H lo) (h2 : EvO th σ H hi) (hn : ¬ (HT.sIx xs.length 0 lo = 0 ∧ HT.sIx xs.length xs.length hi = xs.length)) : EvU (tSl (rSlT K) te to th) σ H (cutV xs lo hi) := fun H0 e Q q =>
  h H0 e _ fun H1 e1 => h1 H1 (e.trans e1) _ fun H2 e2 => h2 H2 ((e.trans e1).trans e2) _ fun H3 e3 => ⟨a, xs, rfl, ex_t (((e.trans e1).trans e2).trans e3) hs, hn, fun p hp => q p _ (fresh_back ((e1.trans e2).trans e3) hp) (((e1.trans e2).trans e3).trans (Ex.new hp)) upd_same⟩
/-- d[k] = v, k a new tuple, v a datum -/
theorem q_dputT {kvs : List (List Key × V)} {k : List Key} {d : PyData} (hd : H a = some (.dT kvs)) (hv : EvD K tv σ H d) (ha : Ev ta σ H (.ref a)) (hk : EvU tk σ H (k.map kV)) (hl : kvs.length < sizeLine)
    (q : ∀ v H1, Ex H H1 → Dp K H1 v d → tz D σ (upd H1 a (.dT (putK kvs k v)))) : tSeq (sDPut ta tk tv) tz D σ H :=
  hv H (Ex.refl H) _ fun v H1 e1 hv1 => ha H1 e1 _ fun H2 e2 => hk H2 (e1.trans e2) _ fun p H3 _ e3 hp => ⟨a, _, rfl, DPut.t (((e1.trans e2).trans e3) a _ hd) hp hl, q v H3 ((e1.trans e2).trans e3) (dp_ex (e2.trans e3) hv1)⟩
/-- while, where the test's truth is a list's -/
theorem et_lst {xs : List V} {i : Nat} (hv : σ[i]? = some (some (.ref a))) (h : SqL K H a xs) : EvT (fun σ H Q => tVar i σ H fun x H' => ∃ k, TruV K x H' k ∧ Q k H') σ H (!xs.isEmpty) := fun H1 e Q q => ⟨.ref a, hv, _, .inl ⟨xs, ex_l e h, rfl⟩, q H1 (Ex.refl H1)⟩
end
theorem put_knD (kn : KnS) (k : Str × Str × Str) (q : EdS × Nat) : Cl.putA (knD kn) (keyL k) (entD q) = knD (Cl.putA kn k q) := by
  unfold knD
  cases h : Cl.lookA kn k with
  | some c =>
    have h2 : Cl.lookA (kn.map fun p => (keyL p.1, entD p.2)) (keyL k) = some (entD c) := by
      have := look_knD kn k
      unfold knD at this
      rw [this, h]
      rfl
    rw [Cl.putA_old _ h, Cl.putA_old _ h2, List.map_map, List.map_map]
    refine List.map_congr_left fun p _ => ?_
    show (if keyL p.1 = keyL k then (keyL p.1, entD q) else (keyL p.1, entD p.2)) = (keyL (if p.1 = k then (p.1, q) else p).1, entD (if p.1 = k then (p.1, q) else p).2)
    by_cases e : p.1 = k
    · rw [if_pos (congrArg keyL e), if_pos e]
    · rw [if_neg (fun z => e (keyL_inj _ _ z)), if_neg e]
  | none =>
    have h2 : Cl.lookA (kn.map fun p => (keyL p.1, entD p.2)) (keyL k) = none := by
      have := look_knD kn k
      unfold knD at this
      rw [this, h]
      rfl
    rw [Cl.putA_new _ h, Cl.putA_new _ h2, List.map_append]
    rfl
/-- the lists and the dict that grow -/
structure Sst (K : PySem.W.Frag) (H H' : Hp) (L D : Addr) (s : Cl.Sta Str) : Prop where
  ex : Ex H H'
  ls : ∃ xs, H' L = some (.lst xs) ∧ DpAll K (buts H' (fun a => a = L ∨ a = D)) xs (s.2.map lnD)
  kn : ∃ kvs, H' D = some (.dT kvs) ∧ AsD K (buts H' (fun a => a = L ∨ a = D)) kvs (knD s.1)
theorem Sst.on {K : PySem.W.Frag} {H H' H'' : Hp} {L D : Addr} {s : Cl.Sta Str} (S : Sst K H H' L D s) (e : Ex H' H'') : Sst K H H'' L D s := by
  obtain ⟨x, ⟨xs, h1, h2⟩, kvs, h3, h4⟩ := S
  exact ⟨x.trans e, ⟨xs, e _ _ h1, dpa_ex (buts_mono e) h2⟩, kvs, e _ _ h3, h4.ex (buts_mono e)⟩
theorem Sst.free {K : PySem.W.Frag} {H H' : Hp} {L D : Addr} {s : Cl.Sta Str} (S : Sst K H H' L D s) : ∀ b, (b = L ∨ b = D) → ∀ o, H' b = some o → Free o := by
  obtain ⟨x, ⟨xs, h1, h2⟩, kvs, h3, h4⟩ := S
  rintro b (rfl | rfl) o ho
  · rw [h1] at ho; cases ho; exact free_lst
  · rw [h3] at ho; cases ho; exact free_dT
section
variable {P : Program} {w : World} {K : PySem.W.Frag} {mg : Str → Option Value} {base : Heap} {tg : Tok} {f : Addr} {fd : FuncData}
abbrev s_settle : Stmt := topS 48
theorem sc_settle : FnScope ["plan", "lines", "known", "coming", "line", "edge", "ring"] ["plan"] (defScope s_settle) := ⟨rfl, rfl, rfl, by decide +kernel, rfl, by decide +kernel, by decide +kernel⟩
theorem ok_settle (F : Fun K "settle" "settle" s_settle f fd) (T : Txt mg tg) (C_first_lines : Cal P w K mg base 2 "first_lines" ["plan"] (spFirst K)) (C_is_news : Cal P w K mg base 1 "is_news" ["known", "edge"] (spNews K)) (C_ring_among : Cal P w K mg base 2 "ring_among" ["known"] (spRing K))
    (C_next_lines : Cal P w K mg base 4 "next_lines" ["plan", "known"] (spNextL K)) : FnOk P w K mg base CX0 5 f fd ["plan"] (spSettle K) := by
  refine F.ok sc_settle (fun vs H Q E h => ?_) (fun cdv A outer s H vs Q E hr h => ?_)
  · obtain ⟨v, p, n, q, rfl, _⟩ := h
    rfl
  · obtain ⟨v, p, n, qq, rfl, hP, hz, hruns, q⟩ := h
    refine ⟨_, (pss_cons (ps_set (i := 1) sc_settle.nd rfl (Or.inl rfl) (pe_lst pa_nil)) (pss_cons (ps_set (i := 2) sc_settle.nd rfl (Or.inl rfl) pe_dnewT) (pss_cons (ps_set (i := 3) sc_settle.nd rfl (Or.inl rfl) (pe_cal C_first_lines (by first | exact hr | exact hr.mono (by decide)) (by rfl) (pa_cons (pv 0) pa_nil))) (pss_cons (ps_while PassesOwn.never (pt_truth (pv 3) (by intro _; rfl)) (pss_cons (ps_for PassesOwn.never rfl (pi_listK (K := K) rfl (pv 3)) (pg_name (i := 4) sc_settle.nd rfl (Or.inl rfl)) (pss_cons (ps_set (i := 5) sc_settle.nd rfl (Or.inl rfl) (pe_ix (ix_tupK (K := K) rfl) (pv 4) pe_int (fun _ _ => rfl))) (pss_one (ps_if (pt_val (pe_cal C_is_news (by first | exact hr | exact hr.mono (by decide)) (by rfl) (pa_cons (pv 2) (pa_cons (pv 5) pa_nil)))) (pss_cons (ps_dput (hu_of hr) (pv 2) (pe_slice (sl_tupK (K := K) rfl) (pv 5) po_none (po_some pe_int)) (pe_tup (pa_cons (pv 5) (pa_cons (pe_callB (call_len_seqK (K := K) rfl) (by rfl) T.len (by decide +kernel) (pa_cons (pv 1) pa_nil)) pa_nil))) rfl) (pss_one (ps_expr (pe_bm PySem.F.plainAttrs_list PySem.F.slot_list_append PySem.F.type_list_append mt_append (pv 1) (pa_cons (pv 4) pa_nil))))) pss_nil)))) (pss_cons (ps_set (i := 6) sc_settle.nd rfl (Or.inl rfl) (pe_cal C_ring_among (by first | exact hr | exact hr.mono (by decide)) (by rfl) (pa_cons (pv 2) pa_nil))) (pss_cons (ps_if (pt_truth (pv 6) (by intro _; rfl)) (pss_one (ps_ret (pe_tup (pa_cons (pv 1) (pa_cons (pv 2) (pa_cons (pv 6) pa_nil)))))) pss_nil) (pss_one (ps_set (i := 3) sc_settle.nd rfl (Or.inl rfl) (pe_cal C_next_lines (by first | exact hr | exact hr.mono (by decide)) (by rfl) (pa_cons (pv 0) (pa_cons (pv 2) pa_nil))))))))) (pss_one (ps_ret (pe_tup (pa_cons (pv 1) (pa_cons (pv 2) (pa_cons (pe_lst pa_nil) pa_nil)))))))))), ?_⟩
    -- lines = [], known = {}
    refine ⟨Nat.zero_le _, fun L hL => ?_⟩
    dsimp only [gName]
    refine fun D hD => ?_
    dsimp only [gName]
    have hDL : D ≠ L := (ne_of_none (H := upd H L (.lst [])) upd_same hD).symm
    have hDH : H D = none := by rw [upd_ne hDL] at hD; exact hD
    have e0 : Ex H (upd (upd H L (.lst [])) D (.dT [])) := (Ex.new hL).trans (Ex.new hD)
    have S0 : Sst K H (upd (upd H L (.lst [])) D (.dT [])) L D ([], []) := ⟨e0, ⟨[], by rw [upd_ne hDL.symm, upd_same], .nil⟩, [], upd_same, .nil⟩
    generalize upd (upd H L (.lst [])) D (.dT []) = H0 at e0 S0
    -- coming = first_lines(plan)
    refine q_asgCall (ea_cons (ev_var rfl) ea_nil) fun H1 e1 => ⟨v, p, rfl, hP.ex (e0.trans e1), hz, fun C cs H2 hC e2 h2 d2 => ?_⟩
    have S2 := (S0.on e1).on e2
    -- a list that is new leans on neither
    have coming : ∀ {s : Cl.Sta Str} {H1 H2 : Hp} {C : Addr} {cs : List V} {c : List LnS}, Sst K H H1 L D s → H1 C = none → Ex H1 H2 → H2 C = some (.lst cs) → DpAll K H2 cs (c.map lnD) → Dp K (buts H2 (fun a => a = L ∨ a = D)) (.ref C) (.list (c.map lnD)) := fun {s H1 H2 C cs c} S hC e h d => by
      have S2 := S.on e
      have hCS : ¬ (C = L ∨ C = D) := by
        rintro (rfl | rfl)
        · obtain ⟨xs, h1, _⟩ := S.ls
          rw [hC] at h1
          cases h1
        · obtain ⟨xs, h1, _⟩ := S.kn
          rw [hC] at h1
          cases h1
      exact .lst (sq_of (by rw [buts_no hCS]; exact h)) (dpa_buts S2.free (noLs_map noL_ln _) d)
    refine q_while (fun m σ' H' => ∃ s c C x4 x5 x6, σ' = [some v, some (.ref L), some (.ref D), some (.ref C), x4, x5, x6] ∧ Sst K H H' L D s ∧ Dp K (buts H' (fun a => a = L ∨ a = D)) (.ref C) (.list (c.map lnD)) ∧ RunsP p m s c qq) n ⟨([], []), firstL p, C, _, _, _, rfl, S2, coming (S0.on e1) hC e2 h2 d2, hruns⟩ ?_
    rintro m σ' H3 ⟨s, c, C, x4, x5, x6, rfl, S3, hC3, hR⟩
    have F3 := hR.f
    cases hC3 with
    | @lst C cs _ hCs hCd =>
      have hlen := dpa_len hCd
      rw [List.length_map] at hlen
      have hemp : (!cs.isEmpty) = !c.isEmpty := by
        cases cs <;> cases c <;> simp_all
      refine ⟨!c.isEmpty, et_is (et_lst (K := K) rfl (ex_l buts_ex hCs)) hemp, fun hb H4 e4 => ?_, fun hb H4 e4 => ?_⟩
      · -- a round
        have hne : c ≠ [] := fun z => by rw [z] at hb; cases hb
        refine ⟨fun σ2 H2 => ∃ m', m' < m ∧ ∃ s c C x4 x5 x6, σ2 = [some v, some (.ref L), some (.ref D), some (.ref C), x4, x5, x6] ∧ Sst K H H2 L D s ∧ Dp K (buts H2 (fun a => a = L ∨ a = D)) (.ref C) (.list (c.map lnD)) ∧ RunsP p m' s c qq, fun σ2 H2 h => h, ?_⟩
        have S4 := S3.on e4
        have hC4 : Dp K (buts H4 (fun a => a = L ∨ a = D)) (.ref C) (.list (c.map lnD)) := dp_ex (buts_mono e4) (.lst hCs hCd)
        show tSeq _ _ _ _ _
        refine s_forLD (B := buts H4 (fun a => a = L ∨ a = D)) (ev_var rfl) hC4 buts_ex (fun i σ' H' => ∃ x4 x5 x6, σ' = [some v, some (.ref L), some (.ref D), some (.ref C), x4, x5, x6] ∧ Ex (buts H4 (fun a => a = L ∨ a = D)) H' ∧ Sst K H H' L D (Cl.addAll s (c.take i)))
          (fun H5 e5 => ⟨_, _, _, rfl, buts_ex.trans e5, S4.on e5⟩) (fun i σ' H' ⟨_, _, _, _, e, _⟩ => e) ?_ ?_
        · rintro i x dd σ' H5 hi hx ⟨y4, y5, y6, rfl, eB, S5⟩
          rw [List.getElem?_map] at hi
          obtain ⟨l, hli, rfl⟩ := Option.map_eq_some_iff.mp hi
          have hadd : Cl.addAll s (c.take (i + 1)) = Cl.add1 (Cl.addAll s (c.take i)) l := foldl_snoc hli s
          have hlt : i < c.length := (List.getElem?_eq_some_iff.mp hli).1
          have al := Cl.add_len (c := c.take i) (s := s)
          have tk : (c.take i).length ≤ i := by rw [List.length_take]; omega
          have hm := F3.many
          have hn3 := F3.len
          refine q_asgD (K := K) (d := edD l.ed) (ed_ixT 0 (ed_of (ev_var rfl) (dp_ex eB hx)) ev_c rfl rfl) fun ve H6 e6 he => ?_
          have S6 := S5.on e6
          obtain ⟨kvs, k1, k2⟩ := S6.kn
          obtain ⟨xs, l1, l2⟩ := S6.ls
          refine s_when (et_B (ev_call (ea_cons (ev_var rfl) (ea_cons (ev_var rfl) ea_nil)) fun H7 e7 Q q E => ⟨D, ve, (Cl.addAll s (c.take i)).1, l.ed, rfl, ⟨kvs, .inl (e7 _ _ k1), k2.ex (buts_ex.trans e7)⟩, dp_ex e7 he, q⟩)) (fun hb H7 e7 => ?_) (fun hb H7 e7 => ?_)
          · have S7 := S6.on e7
            have he7 := dp_ex e7 he
            cases he7 with
            | @tup ae es _ hse hde =>
              cases hde with
              | cons c1 hde => cases hde with
                | cons c2 hde => cases hde with
                  | cons c3 hde => cases hde with
                    | cons c4 hde =>
                      cases hde
                      cases c1; cases c2; cases c3; cases c4
                      have l17 := e7 _ _ l1
                      have k17 := e7 _ _ k1
                      have hxl : xs.length = (Cl.addAll s (c.take i)).2.length := by rw [dpa_len l2, List.length_map]
                      have hkl : kvs.length = (Cl.addAll s (c.take i)).1.length := by rw [k2.len]; unfold knD; rw [List.length_map]
                      refine q_dputT (K := K) (k := keyL l.ed.k) (d := entD (l.ed, (Cl.addAll s (c.take i)).2.length)) k17 (ed_tup (eds_cons (ed_of (ev_var rfl) (dp_ex e7 he)) (eds_cons (ed_int (ev_is (ev_len (K := K) (ev_var rfl) (sq_of l17)) (by rw [hxl]))) eds_nil)) (by show 2 ≤ 100000; decide)) (ev_var rfl) (eu_slT (K := K) (ev_var rfl) hse eo_none (eo_some ev_c) (by show ¬ (0 = 0 ∧ 3 = 4); decide)) (by rw [hkl, sizeLine_eq]; omega) fun vv H8 e8 hvv => ?_
                      have l18 := e8 _ _ l17
                      have hx8 : (upd H8 D (.dT (putK kvs (keyL l.ed.k) vv))) L = some (.lst xs) := by rw [upd_ne hDL.symm]; exact l18
                      have S8 := S7.on e8
                      -- lines.append(line)
                      obtain ⟨H9, e9, hH9⟩ : ∃ H9, Ex (upd H8 D (.dT (putK kvs (keyL l.ed.k) vv))) H9 ∧ H9 = upd H8 D (.dT (putK kvs (keyL l.ed.k) vv)) := ⟨_, Ex.refl _, rfl⟩
                      refine ⟨.ref L, rfl, ?_⟩
                      rw [← hH9]
                      refine ⟨Or.inl ⟨rfl, xs, sq_of (e9 _ _ hx8)⟩, x, rfl, L, xs, x, rfl, rfl, e9 _ _ hx8, by rw [hxl, sizeLine_eq]; omega, ?_⟩
                      have eS8 : Ex (buts H8 (fun a => a = L ∨ a = D)) (buts H9 (fun a => a = L ∨ a = D)) := by
                        have h := buts_mono (S := fun a => a = L ∨ a = D) e9
                        rw [buts_upd (S := fun a => a = L ∨ a = D) (.inr rfl)] at h
                        exact h
                      have eS : Ex (buts H6 (fun a => a = L ∨ a = D)) (buts H9 (fun a => a = L ∨ a = D)) := (buts_mono (e7.trans e8)).trans eS8
                      have hBut : buts (upd H9 L (.lst (xs ++ [x]))) (fun a => a = L ∨ a = D) = buts H9 (fun a => a = L ∨ a = D) := buts_upd (.inl rfl)
                      have hnews : Cl.add1 (Cl.addAll s (c.take i)) l = (Cl.putA (Cl.addAll s (c.take i)).1 l.ed.k (l.ed, (Cl.addAll s (c.take i)).2.length), (Cl.addAll s (c.take i)).2 ++ [l]) := by
                        unfold Cl.add1
                        rw [if_pos hb]
                      refine ⟨_, _, _, rfl, ?_, ?_⟩
                      · refine Ex.mut (Ex.trans (Ex.mut (((eB.trans e6).trans e7).trans e8) (buts_none (.inr rfl))) e9) (buts_none (.inl rfl))
                      · rw [hadd, hnews]
                        refine ⟨?_, ⟨_, upd_same, ?_⟩, putK kvs (keyL l.ed.k) vv, ?_, ?_⟩
                        · exact Ex.mut (Ex.trans (Ex.mut ((S6.ex.trans e7).trans e8) hDH) e9) hL
                        · rw [hBut, List.map_append]
                          exact dpa_snoc (dpa_ex eS l2) (dp_ex (ex_buts (Ex.trans (Ex.mut (((eB.trans e6).trans e7).trans e8) (buts_none (.inr rfl))) e9)) hx)
                        · rw [upd_ne hDL]
                          exact e9 _ _ upd_same
                        · rw [hBut, ← put_knD]
                          exact (k2.ex eS).put (dp_ex eS8 (dp_buts S8.free (noL_ent _) hvv))
          · have hnews : Cl.add1 (Cl.addAll s (c.take i)) l = Cl.addAll s (c.take i) := by
              unfold Cl.add1
              rw [if_neg (by rw [hb]; decide)]
            refine ⟨_, _, _, rfl, (eB.trans e6).trans e7, ?_⟩
            rw [hadd, hnews]
            exact S6.on e7
        · -- ring = ring_among(known)
          rintro σ' H5 ⟨y4, y5, y6, rfl, eB, S5⟩
          rw [List.length_map, List.take_length] at S5
          have ok2 : Cl.OkK (Cl.addAll s c).1 := Cl.ok_add F3.ok
          have lab2 : ∀ a ∈ Cl.edges (Cl.addAll s c).1, a.e ≠ "" → (tFun p.ts a.e).isSome = true := fun a ha => by
            rcases Cl.mem_add ha with h | ⟨l, hl, rfl⟩
            · exact F3.lab a h
            · exact F3.labc l hl
          have next : ∀ r, Cl.ringPl (Cl.addAll s c).1 = some r → ((r = [] → ∃ m', m' < m ∧ RunsP p m' (Cl.addAll s c) (Cl.nextLn ("" : Str) (tFun p.ts) (Cl.addAll s c).1) qq) ∧ (r ≠ [] → qq = (Cl.addAll s c, r))) := fun r hr => by
            cases hR with
            | stop _ => exact absurd rfl hne
            | ring _ _ h1 h2 =>
              rw [h1] at hr
              cases hr
              exact ⟨fun z => absurd z h2, fun _ => rfl⟩
            | more _ _ h1 h2 =>
              rw [h1] at hr
              cases hr
              exact ⟨fun _ => ⟨_, Nat.lt_succ_self _, h2⟩, fun z => absurd rfl z⟩
          have hex : ∃ r, Cl.ringPl (Cl.addAll s c).1 = some r := by
            cases hR with
            | stop _ => exact absurd rfl hne
            | ring _ _ h1 _ => exact ⟨_, h1⟩
            | more _ _ h1 _ => exact ⟨_, h1⟩
          obtain ⟨r, hr⟩ := hex
          have nx := next r hr
          obtain ⟨kvs, k1, k2⟩ := S5.kn
          refine q_asgCall (ea_cons (ev_var rfl) ea_nil) fun H6 e6 => ⟨D, (Cl.addAll s c).1, r, rfl, ⟨kvs, e6 _ _ k1, k2.ex (buts_ex.trans e6)⟩, ok2, F3.len2, hr, fun Rg rs H7 hRg e7 h7 d7 => ?_⟩
          have S7 := (S5.on e6).on e7
          have hrl := dpa_len d7
          have hremp : (!rs.isEmpty) = !r.isEmpty := by
            unfold natI at hrl
            rw [List.length_map] at hrl
            cases rs <;> cases r <;> simp_all
          refine q_when (et_is (et_lst (K := K) rfl (sq_of h7)) hremp) (fun hb H8 e8 => ?_) (fun hb H8 e8 => ?_)
          · have hrn : r ≠ [] := fun z => by rw [z] at hb; cases hb
            have hq := nx.2 hrn
            have S8 := S7.on e8
            obtain ⟨xs, g1, g2⟩ := S8.ls
            obtain ⟨ks, g3, g4⟩ := S8.kn
            refine s_retU (xs := [.ref L, .ref D, .ref Rg]) (eu_tup (ea_cons (ev_var rfl) (ea_cons (ev_var rfl) (ea_cons (ev_var rfl) ea_nil))) (by show 3 ≤ 100000; decide)) fun t H9 ht e9 h9 => ?_
            refine q t L D Rg xs rs H9 (fresh_back S8.ex ht) (S8.ex.trans e9) h9 (e9 _ _ g1) ?_ ⟨ks, e9 _ _ g3, ?_⟩ (e9 _ _ (e8 _ _ h7)) ?_
            · rw [hq]; exact dpa_ex (buts_ex.trans e9) g2
            · rw [hq]; exact g4.ex (buts_ex.trans e9)
            · rw [hq]; exact dpa_ex (e8.trans e9) d7
          · have hrn : r = [] := by
              cases r with
              | nil => rfl
              | cons _ _ => cases hb
            obtain ⟨m', hm', hR'⟩ := nx.1 hrn
            have S8 := S7.on e8
            obtain ⟨ks, g3, g4⟩ := S8.kn
            refine s_asgCall (ea_cons (ev_var rfl) (ea_cons (ev_var rfl) ea_nil)) fun H9 e9 => ⟨v, D, p, (Cl.addAll s c).1, rfl, (hP.ex S8.ex).ex e9, hz, ⟨ks, e9 _ _ g3, g4.ex (buts_ex.trans e9)⟩, F3.len2, ok2, lab2, fun C2 cs2 H10 hC2 e10 h10 d10 => ?_⟩
            exact ⟨m', hm', _, _, C2, _, _, _, rfl, (S8.on e9).on e10, coming (S8.on e9) hC2 e10 h10 d10, hR'⟩
      · -- return lines, known, []
        have hce : c = [] := by
          cases c with
          | nil => rfl
          | cons _ _ => cases hb
        subst hce
        have hq : qq = (s, []) := by
          cases hR with
          | stop _ => rfl
          | ring _ h _ _ => exact absurd rfl h
          | more _ h _ _ => exact absurd rfl h
        have S4 := S3.on e4
        obtain ⟨xs, g1, g2⟩ := S4.ls
        obtain ⟨ks, g3, g4⟩ := S4.kn
        refine ⟨.ref L, rfl, .ref D, rfl, Nat.zero_le _, fun Rg hRg => ⟨by show 3 ≤ sizeLine; decide, fun t ht => ?_⟩⟩
        have hRt : Rg ≠ t := ne_of_none (H := upd H4 Rg (.lst [])) upd_same ht
        have e9 : Ex H4 (upd (upd H4 Rg (.lst [])) t (.tup [.ref L, .ref D, .ref Rg])) := (Ex.new hRg).trans (Ex.new ht)
        have htH : H4 t = none := by rw [upd_ne hRt.symm] at ht; exact ht
        refine q t L D Rg xs [] _ (fresh_back S4.ex htH) (S4.ex.trans e9) upd_same (e9 _ _ g1) ?_ ⟨ks, e9 _ _ g3, ?_⟩ (by rw [upd_ne hRt, upd_same]) ?_
        · rw [hq]; exact dpa_ex (buts_ex.trans e9) g2
        · rw [hq]; exact g4.ex (buts_ex.trans e9)
        · rw [hq]; exact .nil
abbrev spKeep0 (K : PySem.W.Frag) : Sp := fun vs H Q _ => ∃ v p n q, vs = [v] ∧ PlAt K H v p ∧ SmallP p ∧ RunsP p n ([], []) (firstL p) q ∧ RetV (.bl q.2.isEmpty) H Q
abbrev s_is_keepable : Stmt := topS 49
theorem sc_is_keepable : FnScope ["plan"] ["plan"] (defScope s_is_keepable) := ⟨rfl, rfl, rfl, by decide +kernel, rfl, by decide +kernel, by decide +kernel⟩
theorem ok_is_keepable (F : Fun K "is_keepable" "is_keepable" s_is_keepable f fd) (T : Txt mg tg) (C_settle : Cal P w K mg base 5 "settle" ["plan"] (spSettle K)) : FnOk P w K mg base CX0 6 f fd ["plan"] (spKeep0 K) := by
  refine F.ok sc_is_keepable (fun vs H Q E h => ?_) (fun cdv A outer s H vs Q E hr h => ?_)
  · obtain ⟨v, p, n, q, rfl, _⟩ := h
    rfl
  · obtain ⟨v, p, n, qq, rfl, hP, hz, hruns, q⟩ := h
    refine ⟨_, (pss_one (ps_ret (pe_notT (pe_ix (ix_tupK (K := K) rfl) (pe_cal C_settle (by first | exact hr | exact hr.mono (by decide)) (by rfl) (pa_cons (pv 0) pa_nil)) pe_int (fun _ _ => rfl))))), ?_⟩
    refine (ev_var (v := v) rfl : Ev (tVar 0) _ _ _) H (Ex.refl _) _ fun H1 e1 => ⟨v, p, n, qq, rfl, hP.ex e1, hz, hruns, fun t a b c xs rs H2 ht e2 h2 _ _ _ hc hd => ?_⟩
    refine ⟨t, _, 2, .ref c, rfl, rfl, st_of h2, rfl, !rs.isEmpty, .inl ⟨rs, sq_of hc, rfl⟩, ?_⟩
    have hl := dpa_len hd
    have : (!(!rs.isEmpty)) = qq.2.isEmpty := by
      unfold natI at hl
      rw [List.length_map] at hl
      cases rs <;> cases h : qq.2 <;> simp_all
    rw [this]
    exact q H2 (e1.trans e2)
end
end Vf
end
section
set_option Elab.async false
set_option linter.all false
set_option maxRecDepth 100000
set_option maxHeartbeats 8000000
namespace Vf
open PySem PySem.Spec PyProof.Rows L2 Evl
/-! ### whether a ring comes from a plan -/
structure PlanG (p : PlanL) (G : Nat) : Prop where
  ngo : ("go" : Str) ∉ p.evs
  nem : ("" : Str) ∉ p.evs
  lat0 : 0 ≤ p.lat
  lat1 : p.lat ≤ G
  bs : ∀ b ∈ p.bs, b.1 ≠ b.2.1 ∧ b.1 ∈ ("go" : Str) :: p.evs ∧ b.2.1 ∈ ("go" : Str) :: p.evs ∧ b.2.2 ≤ G
  ts : ∀ t ∈ p.ts, t.b ∈ p.evs ∧ t.e ∈ p.evs ∧ t.b ≠ t.e ∧ 1 ≤ t.lo ∧ t.lo ≤ t.hi ∧ t.hi ≤ G
  ne : p.evs.length ≤ 7
  nt : p.ts.length ≤ 3
  nb : p.bs.length ≤ 200
  nG : G ≤ 200
def edsP (p : PlanL) : List EdS := givenE p ++ longE p
theorem first_eds (p : PlanL) : (firstL p).map (·.ed) = edsP p := by
  unfold firstL edsP
  rw [List.map_append, List.map_map, List.map_map]
  congr 1
  · exact List.map_id' _
  · exact List.map_id' _
def Kept (p : PlanL) : Prop := ¬ Cl.Ring (Cl.Der ("" : Str) (tFun p.ts) (· ∈ edsP p))
theorem tMap_mem (ts : List TkS) {x : Str} {t : TkS} (h : tFun ts x = some t) : t ∈ ts ∧ t.e = x := by
  have : ∀ (ts l0 : List TkS) (l : List (Str × TkS)), (∀ q ∈ l, q.2 ∈ l0 ∧ q.2.e = q.1) → ∀ q ∈ ts.foldl (fun l t => Cl.putA l t.e t) l, q.2 ∈ l0 ++ ts ∧ q.2.e = q.1 := by
    intro ts
    induction ts with
    | nil => intro l0 l h; rw [List.append_nil]; exact h
    | cons t ts ih =>
      intro l0 l h
      have := ih (l0 ++ [t]) (Cl.putA l t.e t) (fun q hq => by
        rcases Cl.mem_putA hq with rfl | hq
        · exact ⟨List.mem_append_right _ (List.mem_singleton.mpr rfl), rfl⟩
        · exact ⟨List.mem_append_left _ (h q hq).1, (h q hq).2⟩)
      rw [List.append_assoc, List.singleton_append] at this
      exact this
  exact this ts [] [] (fun q h => (nomatch h)) _ (Cl.lookA_mem h)
theorem tMap_some (ts : List TkS) {t : TkS} (h : t ∈ ts) : (tFun ts t.e).isSome = true := by
  have stay : ∀ (ts : List TkS) (l : List (Str × TkS)) (x : Str), (Cl.lookA l x).isSome = true → (Cl.lookA (ts.foldl (fun l t => Cl.putA l t.e t) l) x).isSome = true := by
    intro ts
    induction ts with
    | nil => exact fun l x h => h
    | cons u ts ih =>
      intro l x h
      refine ih _ x ?_
      rw [Cl.lookA_put]
      split
      · rfl
      · exact h
  have : ∀ (ts : List TkS) (l : List (Str × TkS)), t ∈ ts → (Cl.lookA (ts.foldl (fun l t => Cl.putA l t.e t) l) t.e).isSome = true := by
    intro ts
    induction ts with
    | nil => exact fun l h => (nomatch h)
    | cons u ts ih =>
      intro l h
      rcases List.mem_cons.mp h with rfl | h
      · refine stay ts _ _ ?_
        rw [Cl.lookA_put, if_pos rfl]
        rfl
      · exact ih _ h
  exact this ts [] h
section
variable {p : PlanL} {G : Nat}
theorem PlanG.small (g : PlanG p G) : SmallP p := ⟨by have := g.nb; omega, by have := g.ne; omega, by have := g.nt; omega⟩
theorem PlanG.gogo (g : PlanG p G) {e : Str} (h : e ∈ p.evs) : e ≠ "go" := fun z => g.ngo (z ▸ h)
theorem eds_in : ∀ a, a ∈ edsP p ↔ (∃ b ∈ p.bs, a = ⟨b.1, b.2.1, "", b.2.2⟩) ∨ (∃ e ∈ p.evs, a = ⟨"go", e, "", p.lat⟩ ∨ a = ⟨e, "go", "", 0⟩) ∨ ∃ t ∈ p.ts, a = ⟨t.b, t.e, "", t.hi⟩ ∨ a = ⟨t.e, t.b, "", -t.lo⟩ ∨ a = ⟨t.e, t.b, t.e, -t.hi⟩ := by
  intro a
  unfold edsP givenE longE
  simp only [List.mem_append, List.mem_map, List.mem_flatMap, List.mem_cons, List.not_mem_nil, or_false]
  constructor
  · rintro (((⟨b, hb, rfl⟩ | ⟨e, he, h⟩) | ⟨t, ht, h⟩) | ⟨t, ht, rfl⟩)
    · exact .inl ⟨b, hb, rfl⟩
    · exact .inr (.inl ⟨e, he, h⟩)
    · exact .inr (.inr ⟨t, ht, h.elim .inl fun h => .inr (.inl h)⟩)
    · exact .inr (.inr ⟨t, ht, .inr (.inr rfl)⟩)
  · rintro (⟨b, hb, rfl⟩ | ⟨e, he, h⟩ | ⟨t, ht, h | h | h⟩)
    · exact .inl (.inl (.inl ⟨b, hb, rfl⟩))
    · exact .inl (.inl (.inr ⟨e, he, h⟩))
    · exact .inl (.inr ⟨t, ht, .inl h⟩)
    · exact .inl (.inr ⟨t, ht, .inr h⟩)
    · exact .inr ⟨t, ht, h.symm⟩
abbrev nsP (p : PlanL) : List Str := "go" :: p.evs
abbrev esP (p : PlanL) : List Str := "" :: p.ts.map (·.e)
theorem PlanG.base (g : PlanG p G) : Cl.Base ("" : Str) (tFun p.ts) (edsP p) (nsP p) (esP p) p.lat.toNat := by
  refine ⟨fun a ha => ?_, fun a ha => ?_, fun v t h => List.mem_cons_of_mem _ (g.ts t (tMap_mem p.ts h).1).1, List.mem_cons_self .., fun x hx y hy hxy => ?_⟩
  · rcases (eds_in a).mp ha with ⟨b, hb, rfl⟩ | ⟨e, he, rfl | rfl⟩ | ⟨t, ht, rfl | rfl | rfl⟩
    · exact (g.bs b hb).1
    · exact fun z => g.gogo he z.symm
    · exact g.gogo he
    · exact (g.ts t ht).2.2.1
    · exact fun z => (g.ts t ht).2.2.1 z.symm
    · exact fun z => (g.ts t ht).2.2.1 z.symm
  · have e0 : ("" : Str) ∈ esP p := List.mem_cons_self ..
    have g0 : ("go" : Str) ∈ nsP p := List.mem_cons_self ..
    rcases (eds_in a).mp ha with ⟨b, hb, rfl⟩ | ⟨e, he, rfl | rfl⟩ | ⟨t, ht, rfl | rfl | rfl⟩
    · exact ⟨(g.bs b hb).2.1, (g.bs b hb).2.2.1, e0⟩
    · exact ⟨g0, List.mem_cons_of_mem _ he, e0⟩
    · exact ⟨List.mem_cons_of_mem _ he, g0, e0⟩
    · exact ⟨List.mem_cons_of_mem _ (g.ts t ht).1, List.mem_cons_of_mem _ (g.ts t ht).2.1, e0⟩
    · exact ⟨List.mem_cons_of_mem _ (g.ts t ht).2.1, List.mem_cons_of_mem _ (g.ts t ht).1, e0⟩
    · exact ⟨List.mem_cons_of_mem _ (g.ts t ht).2.1, List.mem_cons_of_mem _ (g.ts t ht).1, List.mem_cons_of_mem _ (List.mem_map_of_mem ht)⟩
  · have l0 := g.lat0
    have w1 : ∀ e ∈ p.evs, Cl.Way (· ∈ edsP p) e "go" 0 := fun e he => .one (a := (⟨e, "go", "", 0⟩ : EdS)) ((eds_in _).mpr (.inr (.inl ⟨e, he, .inr rfl⟩)))
    have w2 : ∀ e ∈ p.evs, Cl.Way (· ∈ edsP p) "go" e p.lat := fun e he => .one (a := (⟨"go", e, "", p.lat⟩ : EdS)) ((eds_in _).mpr (.inr (.inl ⟨e, he, .inl rfl⟩)))
    rcases List.mem_cons.mp hx with rfl | hx
    · rcases List.mem_cons.mp hy with rfl | hy
      · exact absurd rfl hxy
      · exact ⟨0, w1 y hy, by omega⟩
    · rcases List.mem_cons.mp hy with rfl | hy
      · exact ⟨_, w2 x hx, by omega⟩
      · exact ⟨_, (w1 y hy).trans (w2 x hx), by omega⟩
theorem PlanG.grow (g : PlanG p G) : Cl.Grow ("" : Str) (tFun p.ts) (edsP p) (nsP p) (esP p) "go" p.lat G := by
  refine ⟨fun x hx hg => ?_, g.lat0, g.lat1, fun a ha => ?_, fun v t h => ?_, fun e he hne => ?_⟩
  · have hx : x ∈ p.evs := by
      rcases List.mem_cons.mp hx with h | h
      · exact absurd h hg
      · exact h
    exact ⟨(eds_in _).mpr (.inr (.inl ⟨x, hx, .inr rfl⟩)), (eds_in _).mpr (.inr (.inl ⟨x, hx, .inl rfl⟩))⟩
  · rcases (eds_in a).mp ha with ⟨b, hb, rfl⟩ | ⟨e, he, rfl | rfl⟩ | ⟨t, ht, rfl | rfl | rfl⟩
    · exact (g.bs b hb).2.2.2
    · exact g.lat1
    · exact Int.natCast_nonneg _
    · exact (g.ts t ht).2.2.2.2.2
    · have := g.ts t ht
      show -t.lo ≤ _
      omega
    · have := g.ts t ht
      show -t.hi ≤ _
      omega
  · have := g.ts t (tMap_mem p.ts h).1
    omega
  · rcases List.mem_cons.mp he with h | h
    · exact absurd h hne
    · obtain ⟨t, ht, rfl⟩ := List.mem_map.mp h
      exact tMap_some p.ts ht
theorem univ_le (g : PlanG p G) : (Cl.univ (nsP p) (esP p)).length ≤ 256 := by
  unfold Cl.univ
  have h1 : (nsP p).length ≤ 8 := by
    rw [List.length_cons]
    have := g.ne
    omega
  have h2 : (esP p).length ≤ 4 := by
    rw [List.length_cons, List.length_map]
    have := g.nt
    omega
  have h3 : ∀ x : Str, ((nsP p).flatMap fun y => (esP p).map fun e => (x, y, e)).length ≤ 32 := fun x => by
    refine Nat.le_trans (Cl.flat_len (m := 4) (fun y => by rw [List.length_map]; exact h2) _) ?_
    omega
  refine Nat.le_trans (Cl.flat_len (m := 32) h3 _) ?_
  omega
theorem eds_few (g : PlanG p G) : (edsP p).length ≤ 300 := by
  unfold edsP givenE longE
  rw [List.length_append, List.length_append, List.length_append, List.length_map, len_flat2, len_flat2, List.length_map]
  have := g.nb
  have := g.ne
  have := g.nt
  omega
theorem most_le (g : PlanG p G) : Cl.most (Cl.univ (nsP p) (esP p)).length G p.lat.toNat (edsP p).length ≤ 15999990 := by
  have hU := univ_le g
  have hm := eds_few g
  have hG := g.nG
  have hb : p.lat.toNat ≤ 200 := by
    have := g.lat0
    have := g.lat1
    omega
  unfold Cl.most
  generalize (Cl.univ (nsP p) (esP p)).length = U at *
  have h1 : G * (U + 2) ≤ 200 * 258 := Nat.mul_le_mul hG (by omega)
  have h2 : U * (G * (U + 2) + 1 + p.lat.toNat) ≤ 256 * (200 * 258 + 1 + 200) := Nat.mul_le_mul hU (by omega)
  have h3 : U * U ≤ 256 * 256 := Nat.mul_le_mul hU hU
  omega
/-- the program's rounds end, and tell it -/
theorem keep_ok (g : PlanG p G) : ∃ n q, RunsP p n ([], []) (firstL p) q ∧ (q.2.isEmpty = true ↔ Kept p) ∧ Cl.End ("" : Str) (tFun p.ts) (edsP p) q := by
  obtain ⟨n, q, r, E⟩ := Cl.settle_runs g.base g.grow (firstL p) (first_eds p)
  have hU := univ_le g
  have hM := most_le g
  refine ⟨n, q, r.mono fun s c f => ⟨f.ok, Nat.le_trans f.len (by omega), Nat.le_trans f.len2 (by omega), Nat.le_trans f.many hM, f.lab, f.labc⟩, ?_, E⟩
  rw [List.isEmpty_iff]
  exact ⟨fun h => (E.non h).2, fun h => Classical.byContradiction fun z => h (E.some z)⟩
end
abbrev spKeep (K : PySem.W.Frag) : Sp := fun vs H Q _ => ∃ v p G, vs = [v] ∧ PlAt K H v p ∧ PlanG p G ∧ ∀ b : Bool, (b = true ↔ Kept p) → RetV (.bl b) H Q
theorem keep_of {K : PySem.W.Frag} {vs : List V} {H : Hp} {Q : VK} {E : XK} (h : spKeep K vs H Q E) : spKeep0 K vs H Q E := by
  obtain ⟨v, p, G, rfl, hP, g, q⟩ := h
  obtain ⟨n, qq, hr, hb, _⟩ := keep_ok g
  exact ⟨v, p, n, qq, rfl, hP, g.small, hr, q _ hb⟩
abbrev plT (p : PlanL) : PyData := plD false false false p
end Vf
end
section
set_option Elab.async false
set_option linter.all false
set_option maxRecDepth 100000
set_option maxHeartbeats 4000000
namespace Vf
open PySem PySem.Spec PyProof.Rows L2 Evl
/-! ### the sack: three numbers; n: no more dips than that so far -/
def LIM : Nat := 100000
def SackAt (H : Hp) (p : Addr) (n : Nat) : Prop := ∃ x y z : Int, H p = some (.lst [.int x, .int y, .int z]) ∧ 0 ≤ x ∧ 0 ≤ y ∧ y < 2 ^ 150 ∧ 0 ≤ z ∧ z ≤ (n : Int)
theorem SackAt.ex {H H' : Hp} {p : Addr} {n : Nat} (h : SackAt H p n) (e : Ex H H') : SackAt H' p n := by
  obtain ⟨x, y, z, h1, h2⟩ := h
  exact ⟨x, y, z, e _ _ h1, h2⟩
theorem SackAt.mono {H : Hp} {p : Addr} {n m : Nat} (h : SackAt H p n) (e : n ≤ m) : SackAt H p m := by
  obtain ⟨x, y, z, h1, h2, h3, h4, h5, h6⟩ := h
  exact ⟨x, y, z, h1, h2, h3, h4, h5, by omega⟩
/-- what stands in B stands, and beside it the sack at p -/
structure Run (p : Addr) (n : Nat) (B H : Hp) : Prop where
  ex : Ex B (but H p)
  sk : SackAt H p n
theorem Run.on {p : Addr} {n : Nat} {B H H' : Hp} (r : Run p n B H) (e : Ex H H') : Run p n B H' := ⟨r.ex.trans (but_mono e), r.sk.ex e⟩
theorem Run.base {p : Addr} {n : Nat} {B H : Hp} (r : Run p n B H) : Ex B H := r.ex.trans (but_ex H p)
theorem Run.new {p : Addr} {n : Nat} {B H : Hp} (r : Run p n B H) : Run p n (but H p) H := ⟨Ex.refl _, r.sk⟩
theorem Run.from {p : Addr} {n : Nat} {B B' H : Hp} (r : Run p n B' H) (e : Ex B B') : Run p n B H := ⟨e.trans r.ex, r.sk⟩
theorem Run.mono {p : Addr} {n m : Nat} {B H : Hp} (r : Run p n B H) (e : n ≤ m) : Run p m B H := ⟨r.ex, r.sk.mono e⟩
theorem Run.no {p : Addr} {n : Nat} {B H : Hp} (r : Run p n B H) : B p = none := by
  cases h : B p with
  | none => rfl
  | some o =>
    have := r.ex p o h
    rw [but_same] at this
    cases this
abbrev spDip : Sp := fun vs H Q _ => ∃ (p : Addr) (b : Int) (n : Nat), vs = [.ref p, .int b] ∧ 1 ≤ b ∧ b ≤ 1000 ∧ SackAt H p n ∧ n < LIM ∧ ∀ (r : Int) (H' : Hp), 0 ≤ r → r < b → Ex (but H p) (but H' p) → SackAt H' p (n + 1) → Q (.int r) H'
/-- one dip within an expression -/
theorem st_dip {σ : L2.St} {H B : Hp} {p : Addr} {n i : Nat} {tb : TE} {b : Int} {E : XK} {Q : VK} (hi : σ[i]? = some (some (.ref p))) (hb : Ev tb σ H (.int b)) (h1 : 1 ≤ b) (h2 : b ≤ 1000) (R : Run p n B H) (hn : n < LIM)
    (k : ∀ (r : Int) (H' : Hp), 0 ≤ r → r < b → Run p (n + 1) B H' → Ex (but H p) (but H' p) → Q (.int r) H') : tCall spDip [] E (tCons (tVar i) (tCons tb tNil)) σ H Q :=
  ⟨.ref p, hi, hb H (Ex.refl H) _ fun H1 e1 => ⟨p, b, n, rfl, h1, h2, R.sk.ex e1, hn, fun r H' r1 r2 e2 sk => k r H' r1 r2 ⟨(R.on e1).ex.trans e2, sk⟩ ((but_mono e1).trans e2)⟩⟩
abbrev spSack (K : PySem.W.Frag) : Sp := fun vs H Q _ => ∃ (a : Addr) (ns : List Int) (i : Int), vs = [.ref a, .int i] ∧ SqL K H a (ns.map V.int) ∧ ns.length ≤ 1000 ∧ 0 ≤ i ∧ i ≤ 1000 ∧ ∀ (p : Addr) (H' : Hp), H p = none → Ex H H' → SackAt H' p 0 → Q (.ref p) H'
theorem ev_callB {σ : L2.St} {H : Hp} {ta : TA} {r : List V → Hp → VK → Prop} {vs : List V} {z : V} (h : EvA ta σ H vs) (hr : ∀ H1, ∀ Q : VK, Q z H1 → r vs H1 Q) : Ev (tCB r ta) σ H z := ev_cb h fun H1 _ Q q => hr H1 Q (q H1 (Ex.refl H1))
theorem ev_int {σ : L2.St} {H : Hp} {ta : TE} {i : Int} (h : Ev ta σ H (.int i)) : Ev (tCB (fun xs H Q => (∃ i, xs = [.int i] ∧ Q (.int i) H) ∨ ∃ k, xs = [.bl k] ∧ Q (.int (if k then 1 else 0)) H) (tCons ta tNil)) σ H (.int i) :=
  ev_callB (ea_cons h ea_nil) fun _ _ q => .inl ⟨i, rfl, q⟩
theorem ev_mod {σ : L2.St} {H : Hp} {ta tb : TE} {i j : Int} (h1 : Ev ta σ H (.int i)) (h2 : Ev tb σ H (.int j)) (hj : 0 < j) : Ev (tOp (rI (fun _ j => 0 < j) fun i j => .int (i % j)) ta tb) σ H (.int (i % j)) := ev_op h1 h2 (rv_I hj)
theorem ev_div {σ : L2.St} {H : Hp} {ta tb : TE} {i j : Int} (h1 : Ev ta σ H (.int i)) (h2 : Ev tb σ H (.int j)) (hj : 0 < j) (hk : j < 1073741824) : Ev (tOp (rI CDiv fun i j => .int (i / j)) ta tb) σ H (.int (i / j)) := ev_op h1 h2 (rv_I ⟨hj, hk⟩)
theorem ev_mulR {σ : L2.St} {H : Hp} {ta tb : TE} {i j : Int} (h1 : Ev ta σ H (.int i)) (h2 : Ev tb σ H (.int j)) (hj : -(2 ^ 64) < j ∧ j < 2 ^ 64) : Ev (tOp (rI CMul fun i j => .int (i * j)) ta tb) σ H (.int (i * j)) := ev_op h1 h2 (rv_I (.inr hj))
theorem ev_mulL {σ : L2.St} {H : Hp} {ta tb : TE} {i j : Int} (h1 : Ev ta σ H (.int i)) (h2 : Ev tb σ H (.int j)) (hj : -(2 ^ 64) < i ∧ i < 2 ^ 64) : Ev (tOp (rI CMul fun i j => .int (i * j)) ta tb) σ H (.int (i * j)) := ev_op h1 h2 (rv_I (.inl hj))
theorem ev_pow {σ : L2.St} {H : Hp} {ta tb : TE} {i j : Int} (k : Nat) (h1 : Ev ta σ H (.int i)) (h2 : Ev tb σ H (.int j)) (hi : i.natAbs < 2 ^ k) (hj : 0 ≤ j) (hk : (k : Int) * j ≤ 2 ^ 27) : Ev (tOp (rI CPowW fun i j => .int (i ^ j.toNat)) ta tb) σ H (.int (i ^ j.toNat)) := by
  refine ev_op h1 h2 (rv_I ⟨hj, Int.le_trans ?_ hk⟩)
  exact Int.mul_le_mul_of_nonneg_right (by exact_mod_cast PyProof.Rows.intBits_le hi) hj
theorem ev_add {σ : L2.St} {H : Hp} {ta tb : TE} {i j : Int} (h1 : Ev ta σ H (.int i)) (h2 : Ev tb σ H (.int j)) : Ev (tOp (rI0 fun i j => .int (i + j)) ta tb) σ H (.int (i + j)) := ev_op h1 h2 rv_I0
theorem ev_sub {σ : L2.St} {H : Hp} {ta tb : TE} {i j : Int} (h1 : Ev ta σ H (.int i)) (h2 : Ev tb σ H (.int j)) : Ev (tOp (rI0 fun i j => .int (i - j)) ta tb) σ H (.int (i - j)) := ev_op h1 h2 rv_I0
theorem ev_ixLi {K : PySem.W.Frag} {σ : L2.St} {H : Hp} {ta tb : TE} {a : Addr} {xs : List V} {i : Int} (j : Nat) {v : V} (h1 : Ev ta σ H (.ref a)) (h2 : Ev tb σ H (.int i)) (hs : SqL K H a xs) (hi : i = (j : Int)) (hv : xs[j]? = some v) : Ev (tOp (rIxL K) ta tb) σ H v := ev_op h1 h2 (rv_ixL hs (at_of hi hv))
section
variable {P : Program} {w : World} {K : PySem.W.Frag} {mg : Str → Option Value} {base : Heap} {tg : Tok} {f : Addr} {fd : FuncData}
abbrev s_law_dip : Stmt := topS 77
theorem sc_law_dip : FnScope ["sack", "below", "digit", "stir"] ["sack", "below"] (defScope s_law_dip) := ⟨rfl, rfl, rfl, by decide +kernel, rfl, by decide +kernel, by decide +kernel⟩
theorem ok_law_dip (F : Fun K "_law_dip" "_law_dip" s_law_dip f fd) (T : Txt mg tg) : FnOk P w K mg base CX0 1 f fd ["sack", "below"] spDip := by
  refine F.ok sc_law_dip (fun vs H Q E h => ?_) (fun cdv A outer s H vs Q E hr h => ?_)
  · obtain ⟨p, b, n, rfl, _⟩ := h
    rfl
  · obtain ⟨p, b, n, rfl, b1, b2, ⟨x, y, z, hp, x0, y0, y1, z0, z1⟩, hn, q⟩ := h
    have hn' : (n : Int) < 100000 := by
      have : n < 100000 := hn
      omega
    refine ⟨_, (pss_cons (ps_if (pt_cmpR op_gt (pe_ix (ix_listK (K := K) rfl) (pv 0) pe_int (fun _ _ => rfl)) pe_int (nomark _)) (pss_cons (ps_set (i := 2) sc_law_dip.nd rfl (Or.inl rfl) (pe_op op_mod (pe_callTy call_int1 (by rfl) T.int (by decide +kernel) (pa_cons (pe_ix (ix_listK (K := K) rfl) (pv 0) pe_int (fun _ _ => rfl)) pa_nil)) (pv 1))) (pss_cons (ps_asg (pe_op op_fdiv (pe_ix (ix_listK (K := K) rfl) (pv 0) pe_int (fun _ _ => rfl)) (pv 1)) (pg_sub (pv 0) pe_int set_list)) (pss_one (ps_ret (pv 2))))) pss_nil) (pss_cons (ps_asg (pe_op op_add (pe_ix (ix_listK (K := K) rfl) (pv 0) pe_int (fun _ _ => rfl)) pe_int) (pg_sub (pv 0) pe_int set_list)) (pss_cons (ps_set (i := 3) sc_law_dip.nd rfl (Or.inl rfl) (pe_op op_mod (pe_op op_powW (pe_callTy call_int1 (by rfl) T.int (by decide +kernel) (pa_cons (pe_op op_add (pe_ix (ix_listK (K := K) rfl) (pv 0) pe_int (fun _ _ => rfl)) (pe_op op_mul pe_int (pe_ix (ix_listK (K := K) rfl) (pv 0) pe_int (fun _ _ => rfl)))) pa_nil)) pe_int) (pe_op op_add (pe_op op_powW pe_int pe_int) pe_int))) (pss_cons (ps_set (i := 3) sc_law_dip.nd rfl (Or.inl rfl) (pe_op op_mod (pe_op op_powW (pe_callTy call_int1 (by rfl) T.int (by decide +kernel) (pa_cons (pe_op op_add (pv 3) (pe_op op_mul pe_int (pe_ix (ix_listK (K := K) rfl) (pv 0) pe_int (fun _ _ => rfl)))) pa_nil)) pe_int) (pe_op op_add (pe_op op_powW pe_int pe_int) pe_int))) (pss_one (ps_ret (pe_op op_mod (pe_op op_fdiv (pv 3) pe_int) (pv 1)))))))), ?_⟩
    refine q_when (b := decide (0 < x)) (et_test (ev_op (ev_ixLi 0 (ev_var rfl) ev_c (sq_of hp) rfl rfl) ev_c rv_I0)) (fun hx H1 e1 => ?_) (fun hx H1 e1 => ?_)
    · have g1 := e1 _ _ hp
      refine q_asg (ev_mod (ev_int (ev_ixLi 0 (ev_var rfl) ev_c (sq_of g1) rfl rfl)) (ev_var rfl) (by omega)) fun H2 e2 => ?_
      have g2 := e2 _ _ g1
      refine q_setL (j := 0) g2 (ev_div (ev_ixLi 0 (ev_var rfl) ev_c (sq_of g2) rfl rfl) (ev_var rfl) (by omega) (by omega)) (ev_var rfl) ev_c (by show 0 < 3; decide) fun H3 e3 => ?_
      refine s_ret (ev_var rfl) fun H4 e4 => q _ H4 (Int.emod_nonneg _ (by omega)) (Int.emod_lt_of_pos _ (by omega)) ?_ ?_
      · exact (but_mono (((e1.trans e2).trans e3))).trans ((by rw [but_put]; exact Ex.refl _ : Ex (but H3 p) (but (upd H3 p (.lst (List.set [V.int x, V.int y, V.int z] 0 (V.int (x / b))))) p)).trans (but_mono e4))
      · exact ⟨x / b, y, z, e4 _ _ upd_same, Int.ediv_nonneg x0 (by omega), y0, y1, z0, by omega⟩
    · have g1 := e1 _ _ hp
      refine q_setL (j := 2) g1 (ev_add (ev_ixLi 2 (ev_var rfl) ev_c (sq_of g1) rfl rfl) ev_c) (ev_var rfl) ev_c (by show 2 < 3; decide) fun H2 e2 => ?_
      have g2 : upd H2 p (.lst (List.set [V.int x, V.int y, V.int z] 2 (V.int (z + 1)))) p = some (.lst [.int x, .int y, .int (z + 1)]) := upd_same
      have s1 : (y + 60013 * (z + 1)).natAbs < 2 ^ 151 := by omega
      refine q_asg (ev_mod (ev_pow 151 (ev_int (ev_add (ev_ixLi 1 (ev_var rfl) ev_c (sq_of g2) rfl rfl) (ev_mulL ev_c (ev_ixLi 2 (ev_var rfl) ev_c (sq_of g2) rfl rfl) ⟨by decide, by decide⟩))) ev_c s1 (by decide) (by decide)) (ev_add (ev_pow 4 ev_c ev_c (by decide) (by decide) (by decide)) ev_c) (by decide)) fun H3 e3 => ?_
      have g3 := e3 _ _ g2
      have d1 := Int.emod_nonneg ((y + 60013 * (z + 1)) ^ (2 : Int).toNat) (show ((10 : Int) ^ (37 : Int).toNat + 43) ≠ 0 by decide)
      have d2 := Int.emod_lt_of_pos ((y + 60013 * (z + 1)) ^ (2 : Int).toNat) (show (0 : Int) < ((10 : Int) ^ (37 : Int).toNat + 43) by decide)
      have c1 : ((10 : Int) ^ (37 : Int).toNat + 43) = 10000000000000000000000000000000000043 := by decide
      have s2 : ((y + 60013 * (z + 1)) ^ (2 : Int).toNat % ((10 : Int) ^ (37 : Int).toNat + 43) + 1300021 * (z + 1)).natAbs < 2 ^ 151 := by
        rw [c1] at d1 d2 ⊢
        generalize (y + 60013 * (z + 1)) ^ (2 : Int).toNat % 10000000000000000000000000000000000043 = t at d1 d2 ⊢
        omega
      refine q_asg (ev_mod (ev_pow 151 (ev_int (ev_add (ev_var rfl) (ev_mulL ev_c (ev_ixLi 2 (ev_var rfl) ev_c (sq_of g3) rfl rfl) ⟨by decide, by decide⟩))) ev_c s2 (by decide) (by decide)) (ev_add (ev_pow 4 ev_c ev_c (by decide) (by decide) (by decide)) ev_c) (by decide)) fun H4 e4 => ?_
      refine s_ret (ev_mod (ev_div (ev_var rfl) ev_c (by decide) (by decide)) (ev_var rfl) (by omega)) fun H5 e5 => q _ H5 (Int.emod_nonneg _ (by omega)) (Int.emod_lt_of_pos _ (by omega)) ?_ ?_
      · exact (but_mono (e1.trans e2)).trans ((by rw [but_put]; exact Ex.refl _ : Ex (but H2 p) (but (upd H2 p (.lst (List.set [V.int x, V.int y, V.int z] 2 (V.int (z + 1))))) p)).trans (but_mono ((e3.trans e4).trans e5)))
      · exact ⟨x, y, z + 1, e5 _ _ (e4 _ _ g3), x0, y0, y1, by omega, by omega⟩
abbrev s_law_sack : Stmt := topS 76
theorem sc_law_sack : FnScope ["script", "at", "cell"] ["script", "at"] (defScope s_law_sack) := ⟨rfl, rfl, rfl, by decide +kernel, rfl, by decide +kernel, by decide +kernel⟩
theorem ok_law_sack (F : Fun K "_law_sack" "_law_sack" s_law_sack f fd) (T : Txt mg tg) : FnOk P w K mg base CX0 1 f fd ["script", "at"] (spSack K) := by
  refine F.ok sc_law_sack (fun vs H Q E h => ?_) (fun cdv A outer s H vs Q E hr h => ?_)
  · obtain ⟨a, ns, i, rfl, _⟩ := h
    rfl
  · obtain ⟨a, ns, i, rfl, hS, hz, i0, i1, q⟩ := h
    refine ⟨_, (pss_cons (ps_set (i := 2) sc_law_sack.nd rfl (Or.inl rfl) (pe_ifExp (pt_cmpR op_lt (pv 1) (pe_callB (call_len_seqK (K := K) rfl) (by rfl) T.len (by decide +kernel) (pa_cons (pv 0) pa_nil)) (nomark _)) (pe_ix (ix_listK (K := K) rfl) (pv 0) (pv 1) (fun _ _ => rfl)) pe_int)) (pss_one (ps_ret (pe_lst (pa_cons (pe_callB (call_max2 rfl) (by rfl) T.max (by decide +kernel) (pa_cons pe_int (pa_cons (pe_op op_sub (pe_callB call_abs (by rfl) T.abs (by decide +kernel) (pa_cons (pv 2) pa_nil)) (pe_op op_powW pe_int pe_int)) pa_nil))) (pa_cons (pe_op op_add (pe_op op_add (pe_op op_mul (pe_op op_mod (pe_callTy call_int1 (by rfl) T.int (by decide +kernel) (pa_cons (pv 2) pa_nil)) (pe_op op_add (pe_op op_powW pe_int pe_int) pe_int)) pe_int) (pe_op op_mul pe_int (pv 1))) pe_int) (pa_cons pe_int pa_nil))))))), ?_⟩
    have hlen : (ns.map V.int).length = ns.length := List.length_map ..
    have cell : ∃ c : Int, Ev (tIf (tTest (tOp (rI0 fun i j => .bl (decide (i < j))) (tVar 1) (tCB (rLenS K) (tCons (tVar 0) tNil)))) (tOp (rIxL K) (tVar 0) (tVar 1)) (tC (.int 0))) (L2.start ["script", "at", "cell"] [.ref a, .int i]) H (.int c) := by
      by_cases h : i < (ns.length : Int)
      · have hj : i.toNat < ns.length := by omega
        refine ⟨ns[i.toNat], ev_if (b := true) (et_is (et_test (ev_op (ev_var rfl) (ev_len (ev_var rfl) hS) rv_I0)) (by rw [hlen]; exact decide_eq_true h)) (fun _ => ev_ixLi i.toNat (ev_var rfl) (ev_var rfl) hS (by omega) (by rw [List.getElem?_map, List.getElem?_eq_getElem hj]; rfl)) (fun z => nomatch z)⟩
      · exact ⟨0, ev_if (b := false) (et_is (et_test (ev_op (ev_var rfl) (ev_len (ev_var rfl) hS) rv_I0)) (by rw [hlen]; exact decide_eq_false h)) (fun z => nomatch z) (fun _ => ev_c)⟩
    obtain ⟨c, hc⟩ := cell
    refine q_asg hc fun H1 e1 => ?_
    have d1 := Int.emod_nonneg c (show ((10 : Int) ^ (39 : Int).toNat + 3) ≠ 0 by decide)
    have d2 := Int.emod_lt_of_pos c (show (0 : Int) < ((10 : Int) ^ (39 : Int).toNat + 3) by decide)
    have c1 : ((10 : Int) ^ (39 : Int).toNat + 3) = 1000000000000000000000000000000000000003 := by decide
    refine s_retL (el_lst (ea_cons (ev_callB (z := .int (if (if c < 0 then -c else c) - (10 : Int) ^ (18 : Int).toNat > 0 then (if c < 0 then -c else c) - (10 : Int) ^ (18 : Int).toNat else 0)) (ea_cons ev_c (ea_cons (ev_sub (ev_callB (ea_cons (ev_var rfl) ea_nil) fun _ _ q => ⟨c, rfl, q⟩) (ev_pow 4 ev_c ev_c (by decide) (by decide) (by decide))) ea_nil)) fun _ _ q => ⟨0, _, rfl, q⟩)
      (ea_cons (ev_add (ev_add (ev_mulR (ev_mod (ev_int (ev_var rfl)) (ev_add (ev_pow 4 ev_c ev_c (by decide) (by decide) (by decide)) ev_c) (by decide)) ev_c ⟨by decide, by decide⟩) (ev_mulL ev_c (ev_var rfl) ⟨by decide, by decide⟩)) ev_c) (ea_cons ev_c ea_nil))) (by show 3 ≤ 100000; decide)) fun p H2 hp e2 h2 => ?_
    refine q p H2 (fresh_back e1 hp) (e1.trans e2) ⟨_, _, 0, h2, ?_, ?_, ?_, Int.le_refl _, Int.le_refl _⟩
    · split <;> omega
    · rw [c1] at d1 ⊢
      generalize c % 1000000000000000000000000000000000000003 = t at d1 ⊢
      omega
    · rw [c1] at d2 ⊢
      generalize c % 1000000000000000000000000000000000000003 = t at d2 ⊢
      omega
end
end Vf
end
section
set_option Elab.async false
set_option linter.all false
set_option maxRecDepth 100000
set_option maxHeartbeats 4000000
namespace Vf
open PySem PySem.Spec PyProof.Rows L2 Evl
/-! ### texts as rows of signs -/
abbrev cp (s : Str) : List Nat := s.cps.toList
theorem cp_app (a b : Str) : cp (a ++ b) = cp a ++ cp b := by
  show (a.cps ++ b.cps).toList = _
  simp
theorem cp_len (a : Str) : (cp a).length = a.length := by
  show a.cps.toList.length = a.cps.size
  simp
theorem cp_inj {a b : Str} (h : cp a = cp b) : a = b := PySem.W.str_of_cps h
def lets (l : List Nat) : Bool := l.all fun c => decide (97 ≤ c) && decide (c ≤ 122)
theorem lets_app (a b : List Nat) : lets (a ++ b) = (lets a && lets b) := List.all_append
theorem letters_cp (a : Str) : letters a = lets (cp a) := rfl
abbrev AL : Str := "abcdefghijklmnopqrstuvwxyz"
theorem cp_AL : cp AL = (List.range 26).map (97 + ·) := by decide +kernel
theorem len_AL : AL.length = 26 := by decide +kernel
theorem at_AL {i : Int} (h0 : 0 ≤ i) (h1 : i < 26) : atI (cp AL) i = some (97 + i.toNat) := by
  have h : (cp AL)[i.toNat]? = some (97 + i.toNat) := by
    rw [cp_AL, List.getElem?_map, List.getElem?_range (by omega)]
    rfl
  have h2 := atI_nat h
  rw [show ((i.toNat : Nat) : Int) = i by omega] at h2
  exact h2
theorem dpa_strs {K : PySem.W.Frag} {H : Hp} : ∀ es : List Str, DpAll K H (es.map V.str) (es.map PyData.str)
  | [] => .nil
  | e :: r => .cons (.str e) (dpa_strs r)
theorem dpa_strs_inv {K : PySem.W.Frag} {H : Hp} : ∀ {es : List Str} {xs : List V}, DpAll K H xs (es.map PyData.str) → xs = es.map V.str
  | [], xs, h => by cases h; rfl
  | e :: r, xs, h => by
    cases h with
    | cons h1 h2 =>
      cases h1
      rw [dpa_strs_inv h2]
      rfl
/-! ### the run goes on -/
theorem Run.upd {p l : Addr} {n : Nat} {B H : Hp} {o : HO} (r : Run p n B H) (hb : B l = none) (hl : l ≠ p) : Run p n B (upd H l o) := by
  refine ⟨fun a u h => ?_, ?_⟩
  · have hal : a ≠ l := fun z => by subst z; rw [hb] at h; cases h
    have h2 := r.ex a u h
    unfold but at h2 ⊢
    split
    · rename_i hap
      rw [if_pos hap] at h2
      cases h2
    · rename_i hap
      rw [if_neg hap] at h2
      rw [upd_ne hal]
      exact h2
  · obtain ⟨x, y, z, h1, h2⟩ := r.sk
    exact ⟨x, y, z, by rw [upd_ne hl.symm]; exact h1, h2⟩
theorem but_ne {H : Hp} {p a : Addr} (h : a ≠ p) : but H p a = H a := by unfold but; rw [if_neg h]
theorem kept {p a : Addr} {H H' : Hp} {o : HO} (e : Ex (but H p) (but H' p)) (h : H a = some o) (ha : a ≠ p) : H' a = some o := by
  have h2 := e a o (by rw [but_ne ha]; exact h)
  rw [but_ne ha] at h2
  exact h2
/-- [letters[dip 26] for turn in range(size)], joined -/
theorem st_word {K : PySem.W.Frag} {σ : L2.St} {H B : Hp} {p : Addr} {n z il isk isz it : Nat} {E : XK} {Q : VK} (hl : σ[il]? = some (some (.str AL))) (hs : σ[isk]? = some (some (.ref p))) (hz : σ[isz]? = some (some (.int (z : Int)))) (h7 : z ≤ 7)
    (e1 : il ≠ it) (e2 : isk ≠ it) (hw : ∀ x, wipe ((wipe σ [it]).set it (some x)) [it] = wipe σ [it]) (R : Run p n B H) (hn : n + 8 < LIM)
    (k : ∀ (s : Str) (H' : Hp), (cp s).length = z → lets (cp s) = true → Run p (n + z) B H' → Ex (but H p) (but H' p) → Q (.str s) H') :
    tM1 (fun x xs H Q => ∃ a p, ∃ ys : List Str, x = .str a ∧ xs = [.ref p] ∧ (SqL K H p (ys.map V.str) ∨ SqT K H p (ys.map V.str)) ∧ (ys.map (·.length)).sum + ys.length * a.length ≤ 16777216 ∧ Q (.str (Txt.join a ys)) H)
      (tC (.str "")) (tLc (iRng1 (tCons (tVar isz) tNil)) (gName it) tYes (tOp rIxS (tVar il) (tCall spDip [] E (tCons (tVar isk) (tCons (tC (.int 26)) tNil)))) [it]) σ H Q := by
  refine ⟨⟨"", rfl⟩, .int z, hz, z, rfl, by omega, by omega, fun Dl hD => ?_⟩
  have hDp : Dl ≠ p := fun e => by
    subst e
    obtain ⟨_, _, _, h, _⟩ := R.sk
    rw [h] at hD
    cases hD
  have hBD : (but H p) Dl = none := by rw [but_ne hDp]; exact hD
  have g1 : ∀ x, ((wipe σ [it]).set it (some x))[il]? = some (some (.str AL)) := fun x => by
    show ((σ.set it none).set it (some x))[il]? = _
    rw [List.getElem?_set_ne (Ne.symm e1), List.getElem?_set_ne (Ne.symm e1)]
    exact hl
  have g2 : ∀ x, ((wipe σ [it]).set it (some x))[isk]? = some (some (.ref p)) := fun x => by
    show ((σ.set it none).set it (some x))[isk]? = _
    rw [List.getElem?_set_ne (Ne.symm e2), List.getElem?_set_ne (Ne.symm e2)]
    exact hs
  have ez : (z : Int).toNat = z := by omega
  rw [ez]
  refine lc_range (lo := 0) (n := z) (fun i H' => Run p (n + i) (but H p) H' ∧ ∃ ys : List Str, H' Dl = some (.lst (ys.map V.str)) ∧ ys.length = i ∧ ∀ y ∈ ys, ∃ c, cp y = [c] ∧ 97 ≤ c ∧ c ≤ 122)
    ⟨R.new.upd hBD hDp, [], upd_same, rfl, fun y hy => by cases hy⟩ (fun i H' hi ⟨R', ys, hys, hl', hc⟩ => ⟨hw _, ?_⟩) (fun H' ⟨R', ys, hys, hl', hc⟩ => ?_)
  · show tOp rIxS (tVar il) _ _ H' _
    refine ⟨.str AL, g1 _, ?_⟩
    refine st_dip (B := but H p) (n := n + i) (b := 26) (g2 _) ev_c (by decide) (by decide) R' (by unfold LIM at hn ⊢; omega) fun r H2 r0 r1 R2 e3 => ?_
    refine ⟨AL, r, _, rfl, rfl, by rw [len_AL]; decide, at_AL r0 r1, ys.map V.str, kept e3 hys hDp, ?_, R2.upd hBD hDp, ys ++ [⟨#[97 + r.toNat]⟩], ?_, ?_, ?_⟩
    · rw [List.length_map, hl']
      exact sz_lt (by omega)
    · rw [upd_same, List.map_append]
      rfl
    · rw [List.length_append, hl']
      rfl
    · intro y hy
      rcases List.mem_append.mp hy with hy | hy
      · exact hc y hy
      · cases List.mem_singleton.mp hy
        exact ⟨97 + r.toNat, rfl, by omega, by omega⟩
  · have one : ∀ y ∈ ys, y.length = 1 := fun y hy => by
      obtain ⟨c, e, _⟩ := hc y hy
      rw [← cp_len, e]
      rfl
    have sum1 : ∀ zs : List Str, (∀ y ∈ zs, y.length = 1) → (zs.map (·.length)).sum = zs.length := by
      intro zs
      induction zs with
      | nil => exact fun _ => rfl
      | cons y r ih =>
        intro h
        rw [List.map_cons, List.sum_cons, ih fun a ha => h a (List.mem_cons_of_mem _ ha), h y List.mem_cons_self, List.length_cons]
        omega
    refine ⟨"", Dl, ys, rfl, rfl, .inl (sq_of hys), ?_, ?_⟩
    · rw [sum1 ys one, hl']
      show z + z * 0 ≤ 16777216
      omega
    · have ej : cp (Txt.join "" ys) = (ys.map cp).flatten := by
        have h := TL.tl_join "" ys
        have h2 : ∀ ps : List (List Nat), TL.joinL [] ps = ps.flatten := by
          intro ps
          induction ps with
          | nil => rfl
          | cons a r ih =>
            cases r with
            | nil => simp [TL.joinL]
            | cons b r => rw [TL.joinL, ih]; simp
        have h3 : TL.tl (Str.join "" ys) = TL.joinL [] (ys.map TL.tl) := h
        rw [h2] at h3
        show cp (Builtin.Str.glued "" ys) = _
        rw [StrLaws.glued_eq_join]
        exact h3
      have fl : ∀ zs : List Str, (∀ y ∈ zs, ∃ c, cp y = [c] ∧ 97 ≤ c ∧ c ≤ 122) → (zs.map cp).flatten.length = zs.length ∧ lets (zs.map cp).flatten = true := by
        intro zs
        induction zs with
        | nil => exact fun _ => ⟨rfl, rfl⟩
        | cons y r ih =>
          intro h
          obtain ⟨i1, i2⟩ := ih fun a ha => h a (List.mem_cons_of_mem _ ha)
          obtain ⟨c, ec, c1, c2⟩ := h y List.mem_cons_self
          rw [List.map_cons, List.flatten_cons, ec]
          refine ⟨by simp [i1], ?_⟩
          rw [lets_app, i2]
          simp [lets, c1, c2]
      obtain ⟨f1, f2⟩ := fl ys hc
      exact k _ H' (by rw [ej, f1, hl']) (by rw [ej]; exact f2) (R'.from R.ex) R'.ex
/-! ### a tuple whose object is known: it has no dict of its own -/
section
variable {X : Cx}
def rTupF (K : PySem.W.Frag) : List V → Hp → VK → Prop := fun xs H Q => ∃ p ys, xs = [.ref p] ∧ SqL K H p ys ∧ ∀ (l : Addr) (o : Obj), H l = none → o.dict = none → Q (.ref l) (upd H l (.frz o (.tup ys)))
theorem call_tupleF : CallR X (.type "tuple") (rTupF X.K) := by
  intro pins s σ H xs us Q I r h
  obtain ⟨p, ys, rfl, hq, q⟩ := h
  obtain ⟨u, rfl, rx⟩ := vals1 r
  cases rx
  obtain ⟨its, rv, pl, hz⟩ := I.list hq
  have hn := rv.length
  refine call_tuple_list pl.isList (fun h' kp => ?_) (by simp only [List.size_toArray] <;> omega)
  have J : Inv X pins σ H { s with heap := h' } := I.kept (t' := s.toks) kp
  have hnew : ObjOk X.prog X.w (upd H h'.objs.size (.frz { cls := .type "tuple", data := .seq its.toArray } (.tup ys))) (h'.push { cls := .type "tuple", data := .seq its.toArray }) h'.objs.size (.frz { cls := .type "tuple", data := .seq its.toArray } (.tup ys)) :=
    ⟨Heap.get?_push_size _ rfl, hz, its, rv, IsTup.new _ _⟩
  exact ⟨.ref h'.objs.size, _, J.laid (t' := s.toks) (fun b o e => Heap.get?_push_of_some _ e) (Nat.le_refl _) hnew, rfl, q _ _ (J.hok.fresh (Nat.le_refl _)) rfl⟩
/-- the value is such a tuple -/
def tyF (x : V) (H : Hp) : Prop := ∃ u o xs, x = .ref u ∧ H u = some (.frz o (.tup xs)) ∧ o.dict = none
def tBMF (r : V → List V → Hp → VK → Prop) (to : TE) (t : TA) : TE := fun σ H Q => to σ H fun x H1 => tyF x H1 ∧ t σ H1 fun xs H2 => r x xs H2 Q
variable {o e : Expr} {es : List Expr} {to : TE} {t : TA} {name : Str} {apos cpos : Pos} {id : String} {r : V → List V → Hp → VK → Prop}
theorem pe_bmF (pa : PlainAttrs "tuple") (slot : Slot "tuple" name id) (hty : typeOf (.builtin id) = pure (.type "method_descriptor")) (hm : MtR X id r) (ho : PE X o to) (ha : PA X (e :: es) t)
    (h1 : attributeBase o name X.env (eval o X.env) = eval o X.env := by rfl)
    (h2 : ((backTo cpos (starEach (e :: es) X.env)).all (fun x => !x.1) && (backToKw cpos (keywordEach [] X.env)).all (fun x => x.1.isSome) && decide ((e :: es).length + ([] : List Keyword).length + (if ([] : List Keyword).isEmpty then 0 else 1) < 30)) = true := by rfl)
    (h3 : (apos.endLine == cpos.line) = true := by rfl) (h4 : starEach (e :: es) X.env = (false, eval e X.env) :: starEach es X.env := by rfl) (h5 : (backTo cpos (starEach es X.env)).any (·.1) = false := by rfl) :
    PE X (.Call (.Attribute o name apos) (e :: es) [] cpos) (tBMF r to t) := by
  refine ⟨fun pins s σ H Q I h => ?_⟩
  refine wpAny_Call_method_late h1 h2 h3 rfl (thn (ho.run pins s σ H _ I h) fun v s1 ⟨x, H1, I1, r1, ty, q1⟩ => ?_)
  obtain ⟨u, ob, ys, rfl, hu, hd⟩ := ty
  cases r1
  obtain ⟨g1, z, its, rv, o2, g2, gc, gn⟩ := (show ObjOk X.prog X.w H1 s1.heap u (.frz ob (.tup ys)) from I1.hok u _ hu)
  have hA := ha.run cpos pins s1 σ H1 _ I1 q1
  rw [h4] at hA ⊢
  refine ⟨"tuple", id, pa, slot, hty, ⟨o2, g2, gc⟩, fun a ea => ?_, Calls.callWith_builtin (by show (false || (backTo cpos (starEach es X.env)).any (·.1)) = false; rw [h5] <;> rfl) (Calls.evalArgs_plain (thn hA fun us s2 ⟨vs, H2, I2, r2, q2⟩ => hm pins s2 σ H2 (.ref u) vs _ us Q I2 rfl r2 q2))⟩
  cases ea
  exact ⟨ob, g1, hd⟩
end
theorem sf_of {K : PySem.W.Frag} {H : Hp} {a : Addr} {o : Obj} {xs : List V} (h : H a = some (.frz o (.tup xs))) : SqT K H a xs := .inl (.inr ⟨o, h⟩)
end Vf
end
section
set_option Elab.async false
set_option linter.all false
set_option maxRecDepth 100000
set_option maxHeartbeats 4000000
namespace Vf
open PySem PySem.Spec PyProof.Rows L2 Evl
/-! ### the order of rows of signs -/
theorem lt_first {a b : Nat} {r s : List Nat} (h : a < b) : (a :: r) < (b :: s) := List.Lex.rel h
theorem lt_more : ∀ (l : List Nat) (c : Nat) (r : List Nat), l < l ++ c :: r
  | [], _, _ => List.Lex.nil
  | _ :: l, c, r => List.Lex.cons (lt_more l c r)
theorem lt_mid : ∀ (p : List Nat) {c d : Nat} {r s : List Nat}, c < d → p ++ c :: r < p ++ d :: s
  | [], _, _, _, _, h => List.Lex.rel h
  | _ :: p, _, _, _, _, h => List.Lex.cons (lt_mid p h)
theorem ascD_snoc : ∀ (ds : List PyData) (b : PyData), ascD ds = true → (∀ a, ds.getLast? = some a → PySem.W.dataLt a b = true) → ascD (ds ++ [b]) = true
  | [], _, _, _ => rfl
  | [a], b, _, h => by
    show (PySem.W.dataLt a b && true) = true
    rw [h a rfl]
    rfl
  | a :: c :: r, b, h1, h2 => by
    have h3 : (PySem.W.dataLt a c && ascD (c :: r)) = true := h1
    rw [Bool.and_eq_true] at h3
    show (PySem.W.dataLt a c && ascD ((c :: r) ++ [b])) = true
    rw [h3.1, ascD_snoc (c :: r) b h3.2 (fun x hx => h2 x (by rw [List.getLast?_cons_cons]; exact hx))]
    rfl
/-! ### names that are drawn -/
structure Names (first : Int) (es : List Str) : Prop where
  nam : ∀ e ∈ es, isName (.str e) = true
  asc : ascD (es.map .str) = true
  top : ∀ e, es.getLast? = some e → ∃ c r, cp e = c :: r ∧ (c : Int) ≤ 96 + first + 3 * es.length
structure Cand (first : Int) (es : List Str) (y : Str) : Prop where
  let_ : lets (cp y) = true
  lo : 1 ≤ (cp y).length
  hi : (cp y).length ≤ 8
  lt : ∀ e, es.getLast? = some e → cp e < cp y
  top : ∃ c r, cp y = c :: r ∧ (c : Int) ≤ 99 + first + 3 * es.length
theorem isName_of {y : Str} (h0 : y ≠ "go") (h1 : lets (cp y) = true) (h2 : 1 ≤ (cp y).length) (h3 : (cp y).length ≤ 8) : isName (.str y) = true := by
  rw [cp_len] at h2 h3
  show (!decide (y = "go") && ((decide (1 ≤ (y.length : Int)) && decide ((y.length : Int) ≤ 8)) && letters y)) = true
  rw [decide_eq_false h0, decide_eq_true (show 1 ≤ (y.length : Int) by omega), decide_eq_true (show (y.length : Int) ≤ 8 by omega), letters_cp, h1]
  rfl
theorem of_isName {y : Str} (h : isName (.str y) = true) : y ≠ "go" ∧ lets (cp y) = true ∧ 1 ≤ (cp y).length ∧ (cp y).length ≤ 8 := by
  have h' : (!decide (y = "go") && ((decide (1 ≤ (y.length : Int)) && decide ((y.length : Int) ≤ 8)) && letters y)) = true := h
  rw [Bool.and_eq_true, Bool.and_eq_true, Bool.and_eq_true, decide_eq_true_eq, decide_eq_true_eq] at h'
  obtain ⟨h0, ⟨h1, h2⟩, h3⟩ := h'
  rw [cp_len]
  refine ⟨fun z => ?_, h3, by omega, by omega⟩
  subst z
  rw [decide_eq_true rfl] at h0
  cases h0
theorem cp_go : cp "go" = [103, 111] := by decide +kernel
theorem cp_gone : cp "gone" = [103, 111, 110, 101] := by decide +kernel
abbrev noGo (y : Str) : Str := if y = "go" then "gone" else y
theorem Cand.fix {first : Int} {es : List Str} {y : Str} (c : Cand first es y) : Cand first es (noGo y) ∧ isName (.str (noGo y)) = true := by
  by_cases h : y = "go"
  · subst h
    have e : noGo "go" = "gone" := if_pos rfl
    rw [e]
    refine ⟨⟨by rw [cp_gone]; rfl, by rw [cp_gone]; decide, by rw [cp_gone]; decide, fun e he => ?_, ?_⟩, by decide +kernel⟩
    · have h1 := c.lt e he
      rw [cp_go] at h1
      rw [cp_gone]
      exact List.lt_trans h1 (lt_more [103, 111] 110 [101])
    · obtain ⟨a, r, e1, e2⟩ := c.top
      rw [cp_go] at e1
      cases e1
      exact ⟨103, _, cp_gone, e2⟩
  · have e : noGo y = y := if_neg h
    rw [e]
    exact ⟨c, isName_of h c.let_ c.lo c.hi⟩
theorem Names.snoc {first : Int} {es : List Str} {y : Str} (N : Names first es) (c : Cand first es y) (hn : isName (.str y) = true) : Names first (es ++ [y]) := by
  refine ⟨fun e he => ?_, ?_, fun e he => ?_⟩
  · rcases List.mem_append.mp he with he | he
    · exact N.nam e he
    · cases List.mem_singleton.mp he
      exact hn
  · rw [List.map_append]
    refine ascD_snoc _ _ N.asc fun a ha => ?_
    rw [List.getLast?_map] at ha
    cases h : es.getLast? with
    | none => rw [h] at ha; cases ha
    | some e =>
      rw [h] at ha
      cases ha
      rw [PySem.W.dataLt_str]
      exact decide_eq_true (c.lt e h)
  · rw [List.getLast?_append] at he
    cases he
    obtain ⟨a, r, e1, e2⟩ := c.top
    refine ⟨a, r, e1, ?_⟩
    rw [List.length_append]
    have : (([y] : List Str).length : Int) = 1 := rfl
    push_cast
    omega
theorem Names.nil (first : Int) : Names first [] := ⟨fun e he => (by cases he), rfl, fun e he => (by cases he)⟩
/-- a letter of its own, and some more -/
theorem cand_new {first : Int} {es : List Str} {c : Nat} {y rest : Str} (N : Names first es) (ey : cp y = c :: cp rest) (h1 : 97 + first + 3 * es.length ≤ c) (h2 : (c : Int) ≤ 99 + first + 3 * es.length) (h3 : 97 ≤ c) (h4 : c ≤ 122)
    (hr : lets (cp rest) = true) (hz : (cp rest).length ≤ 7) : Cand first es y := by
  refine ⟨?_, by rw [ey, List.length_cons]; omega, by rw [ey, List.length_cons]; omega, fun e he => ?_, c, _, ey, h2⟩
  · rw [ey]
    show ((decide (97 ≤ c) && decide (c ≤ 122)) && lets (cp rest)) = true
    rw [hr, decide_eq_true h3, decide_eq_true h4]
    rfl
  · obtain ⟨a, r, e1, e2⟩ := N.top e he
    rw [e1, ey]
    exact lt_first (by omega)
/-- the last one, and a letter more -/
theorem cand_more {first : Int} {es : List Str} {e y : Str} {c : Nat} (N : Names first es) (he : es.getLast? = some e) (ey : cp y = cp e ++ [c]) (h3 : 97 ≤ c) (h4 : c ≤ 122) (hz : (cp e).length < 8) : Cand first es y := by
  have hm := List.mem_of_getLast? he
  obtain ⟨_, n2, n3, n4⟩ := of_isName (N.nam e hm)
  refine ⟨?_, by rw [ey, List.length_append]; omega, by rw [ey, List.length_append]; show _ + 1 ≤ 8; omega, fun e' he' => ?_, ?_⟩
  · rw [ey, lets_app, n2]
    simp [lets, h3, h4]
  · rw [he] at he'
    cases he'
    rw [ey]
    exact lt_more _ _ _
  · obtain ⟨a, r, e1, e2⟩ := N.top e he
    exact ⟨a, r ++ [c], by rw [ey, e1]; rfl, by omega⟩
/-- the last one, a letter of it greater by one -/
theorem cand_up {first : Int} {es : List Str} {e y : Str} {p r s : List Nat} {c : Nat} (N : Names first es) (he : es.getLast? = some e) (ee : cp e = p ++ c :: r) (ey : cp y = p ++ (c + 1) :: s) (hc : c + 1 ≤ 122) (hs : lets s = true) (hz : p.length + 1 + s.length ≤ 8) : Cand first es y := by
  have hm := List.mem_of_getLast? he
  obtain ⟨_, n2, n3, n4⟩ := of_isName (N.nam e hm)
  rw [ee, lets_app, Bool.and_eq_true] at n2
  have h97 : 97 ≤ c := by
    have h := n2.2
    have h' : ((decide (97 ≤ c) && decide (c ≤ 122)) && lets r) = true := h
    rw [Bool.and_eq_true, Bool.and_eq_true, decide_eq_true_eq] at h'
    exact h'.1.1
  refine ⟨?_, by rw [ey, List.length_append, List.length_cons]; omega, by rw [ey, List.length_append, List.length_cons]; omega, fun e' he' => ?_, ?_⟩
  · rw [ey, lets_app, n2.1]
    show (true && ((decide (97 ≤ c + 1) && decide (c + 1 ≤ 122)) && lets s)) = true
    rw [decide_eq_true (show 97 ≤ c + 1 by omega), decide_eq_true hc, hs]
    rfl
  · rw [he] at he'
    cases he'
    rw [ee, ey]
    exact lt_mid p (Nat.lt_succ_self c)
  · obtain ⟨a, t, e1, e2⟩ := N.top e he
    cases p with
    | nil =>
      rw [ee] at e1
      cases e1
      exact ⟨c + 1, s, ey, by push_cast; omega⟩
    | cons x q =>
      rw [ee] at e1
      cases e1
      exact ⟨_, _, ey, by omega⟩
/-! ### cutting and picking -/
theorem cp_cut (z : Str) (lo hi : Option Int) : cp (cutS z lo hi) = ((cp z).drop (HT.sIx z.length 0 lo)).take (HT.sIx z.length z.length hi - HT.sIx z.length 0 lo) := rfl
theorem cp_from (z : Str) (j : Nat) : cp (cutS z (some (j : Int)) none) = (cp z).drop j := by
  rw [cp_cut, HT.sIx_nat, HT.sIx_none]
  have e : (cp z).length = z.length := cp_len z
  by_cases h : j ≤ z.length
  · rw [Nat.min_eq_left h]
    refine List.take_of_length_le ?_
    rw [List.length_drop]
    omega
  · rw [Nat.min_eq_right (by omega)]
    rw [List.drop_of_length_le (show (cp z).length ≤ z.length by omega), List.drop_of_length_le (show (cp z).length ≤ j by omega)]
    simp
theorem cp_to (z : Str) (j : Nat) : cp (cutS z none (some (j : Int))) = (cp z).take j := by
  rw [cp_cut, HT.sIx_none, HT.sIx_nat, List.drop_zero, Nat.sub_zero]
  have e : (cp z).length = z.length := cp_len z
  by_cases h : j ≤ z.length
  · rw [Nat.min_eq_left h]
  · rw [Nat.min_eq_right (by omega), List.take_of_length_le (by omega), List.take_of_length_le (by omega)]
theorem lets_take {l : List Nat} (j : Nat) (h : lets l = true) : lets (l.take j) = true := by
  unfold lets at h ⊢
  rw [List.all_eq_true] at h ⊢
  exact fun c hc => h c (List.mem_of_mem_take hc)
theorem lets_drop {l : List Nat} (j : Nat) (h : lets l = true) : lets (l.drop j) = true := by
  unfold lets at h ⊢
  rw [List.all_eq_true] at h ⊢
  exact fun c hc => h c (List.mem_of_mem_drop hc)
theorem pick26 {c : Nat} (h1 : 97 ≤ c) (h2 : c ≤ 122) : (givenD 26 (fun i => decide (97 + i = c)) fun i => .int (i : Int))[0]? = some (.int ((c - 97 : Nat) : Int)) := by
  have hm : PyData.int ((c - 97 : Nat) : Int) ∈ givenD 26 (fun i => decide (97 + i = c)) fun i => .int (i : Int) := by
    unfold givenD
    refine List.mem_map.mpr ⟨c - 97, List.mem_filter.mpr ⟨List.mem_range.mpr (by omega), decide_eq_true (by omega)⟩, rfl⟩
  have hall : ∀ d ∈ givenD 26 (fun i => decide (97 + i = c)) fun i => PyData.int (i : Int), d = .int ((c - 97 : Nat) : Int) := by
    intro d hd
    unfold givenD at hd
    obtain ⟨i, hi, rfl⟩ := List.mem_map.mp hd
    have h3 : 97 + i = c := of_decide_eq_true (List.mem_filter.mp hi).2
    have h4 : i = c - 97 := by omega
    rw [h4]
  cases e : givenD 26 (fun i => decide (97 + i = c)) fun i => PyData.int (i : Int) with
  | nil => rw [e] at hm; cases hm
  | cons d r =>
    have h := hall d (by rw [e]; exact List.mem_cons_self)
    rw [h]
    rfl
theorem one_eq {a b : Nat} : decide ((⟨#[a]⟩ : Str) = ⟨#[b]⟩) = decide (a = b) := by
  by_cases h : a = b
  · subst h; simp
  · rw [decide_eq_false h]
    refine decide_eq_false fun z => h ?_
    have h2 : cp (⟨#[a]⟩ : Str) = cp ⟨#[b]⟩ := by rw [z]
    cases h2
    rfl
/-! ### readings of texts -/
section
variable {K : PySem.W.Frag} {σ : L2.St} {H : Hp} {ta tb te : TE} {to th : TO} {lo hi : Option Int} {z : Str}
theorem ev_slS (h : Ev te σ H (.str z)) (h1 : EvO to σ H lo) (h2 : EvO th σ H hi) (hz : z.length ≤ 100000) : Ev (tSl rSlS te to th) σ H (.str (cutS z lo hi)) := fun H1 e Q q =>
  h H1 e _ fun H2 e2 => h1 H2 (e.trans e2) _ fun H3 e3 => h2 H3 ((e.trans e2).trans e3) _ fun H4 e4 => ⟨z, rfl, sz_of hz, q H4 ((e2.trans e3).trans e4)⟩
def rAddS : R2 := fun x y H Q => ∃ i j, x = .str i ∧ y = .str j ∧ i.length + j.length ≤ sizeLine ∧ Q (.str (i ++ j)) H
theorem ev_addS {a b : Str} (h1 : Ev ta σ H (.str a)) (h2 : Ev tb σ H (.str b)) (hz : a.length + b.length ≤ 100000) : Ev (tOp rAddS ta tb) σ H (.str (a ++ b)) := ev_op h1 h2 fun H1 _ Q q => ⟨a, b, rfl, rfl, sz_of hz, q H1 (Ex.refl H1)⟩
theorem ev_ixS {i : Int} {c : Nat} (j : Nat) (h1 : Ev ta σ H (.str z)) (h2 : Ev tb σ H (.int i)) (hz : z.length ≤ 100000) (hi : i = (j : Int)) (hc : (cp z)[j]? = some c) : Ev (tOp rIxS ta tb) σ H (.str ⟨#[c]⟩) := by
  refine ev_op h1 h2 (rv_ixS hz ?_)
  rw [hi]
  exact atI_nat hc
end
end Vf
end
section
set_option Elab.async false
set_option linter.all false
set_option maxRecDepth 100000
set_option maxHeartbeats 8000000
namespace Vf
open PySem PySem.Spec PyProof.Rows L2 Evl
theorem op_addS {X : Cx} : OpR X (binaryOp .Add) rAddS := op_add_str
theorem Run.fresh {p a : Addr} {n : Nat} {B H : Hp} (R : Run p n B H) (h : H a = none) : B a = none ∧ a ≠ p := by
  refine ⟨?_, fun e => ?_⟩
  · cases q : B a with
    | none => rfl
    | some o =>
      have := R.base a o q
      rw [h] at this
      cases this
  · subst e
    obtain ⟨_, _, _, h2, _⟩ := R.sk
    rw [h] at h2
    cases h2
theorem eqvAll_nil : ∀ es : List Str, PyData.eqvAll (es.map PyData.str) [] = decide (es = [])
  | [] => rfl
  | e :: r => by
    rw [decide_eq_false (show ¬ (e :: r = []) by simp)]
    rfl
theorem shaped_strs {es : List Str} (h : ∀ e ∈ es, lets (cp e) = true) : SeqAt.shaped (.list (es.map .str)) = true := by
  have h1 : ∀ es : List Str, (∀ e ∈ es, lets (cp e) = true) → PyData.canLayAll0 (es.map .str) = true ∧ PyData.depthAll (es.map .str) = 0 := by
    intro es
    induction es with
    | nil => exact fun _ => ⟨rfl, rfl⟩
    | cons e r ih =>
      intro h
      obtain ⟨i1, i2⟩ := ih fun a ha => h a (List.mem_cons_of_mem _ ha)
      have he := h e List.mem_cons_self
      rw [List.map_cons]
      refine ⟨?_, ?_⟩
      · rw [PyData.canLayAll0, i1, PyData.canLay0]
        rw [Bool.and_true]
        unfold PyData.strOk
        rw [Array.all_eq_true']
        intro c hc
        unfold lets at he
        rw [List.all_eq_true] at he
        have h2 := he c (Array.mem_toList_iff.mpr hc)
        rw [Bool.and_eq_true, decide_eq_true_eq, decide_eq_true_eq] at h2
        exact decide_eq_true (by omega)
      · rw [PyData.depthAll, i2, PyData.depth]
        rfl
  obtain ⟨g1, g2⟩ := h1 es h
  unfold SeqAt.shaped
  rw [PyData.canLay0, g1, PyData.depth, g2]
  rfl
/-- xs != [] -/
theorem ev_neNil {K : PySem.W.Frag} {σ : L2.St} {H : Hp} {ta : TE} {l : Addr} {es : List Str} (ha : Ev ta σ H (.ref l)) (hl : H l = some (.lst (es.map V.str))) (hn : ∀ e ∈ es, lets (cp e) = true) : Ev (tOp (rNeD K) ta (tLst tNil)) σ H (.bl (!decide (es = []))) := by
  have h := ev_opD (ed_of ha (Dp.lst (K := K) (sq_of hl) (dpa_strs es))) (ed_n (en_lst (K := K) (σ := σ) (H := H) eds_nil (by decide))) (rd_neD (K := K) (H := H) (shaped_strs hn) (d' := .list []) rfl)
  have e : PyData.eqv (.list (es.map .str)) (.list []) = decide (es = []) := by rw [PyData.eqv, eqvAll_nil]
  rw [e] at h
  exact h
theorem last_of {es : List Str} (h : es ≠ []) : ∃ e, es.getLast? = some e ∧ atI (es.map V.str) (-1) = some (.str e) := by
  refine ⟨es.getLast h, List.getLast?_eq_getLast h, ?_⟩
  have e1 : es.map V.str = es.dropLast.map V.str ++ [.str (es.getLast h)] := by rw [← List.map_singleton, ← List.map_append, List.dropLast_concat_getLast]
  rw [e1]
  exact atI_last _ _
theorem ev_last {K : PySem.W.Frag} {σ : L2.St} {H : Hp} {ta : TE} {l : Addr} {es : List Str} {e : Str} (ha : Ev ta σ H (.ref l)) (hl : H l = some (.lst (es.map V.str))) (he : atI (es.map V.str) (-1) = some (.str e)) : Ev (tOp (rIxL K) ta (tUn (rU fun i => .int (-i)) (tC (.int 1)))) σ H (.str e) :=
  ev_op ha (ev_un ev_c ru_neg) (rv_ixL (sq_of hl) he)
theorem q_any {te : TE} {tz : TS} {D : Ends} {σ : L2.St} {H : Hp} {i : Nat} (h : te σ H fun x H1 => tz D (σ.set i (some x)) H1) : tSeq (tAsg te (gName i)) tz D σ H := h
end Vf
end
section
set_option Elab.async false
set_option linter.all false
set_option maxRecDepth 100000
set_option maxHeartbeats 4000000
namespace Vf
open PySem PySem.Spec PyProof.Rows L2 Evl
/-! ### sorted(..) of data that are alike -/
def rSortedD (K : PySem.W.Frag) : List V → Hp → VK → Prop := fun vs H Q => ∃ (a : Addr) (xs : List V) (ds : List PyData), vs = [.ref a] ∧ SqL K H a xs ∧ DpAll K H xs ds ∧ PySem.W.AllAlike ds ∧ PySem.W.Sortable ds ∧ (∀ d ∈ ds, d.depth ≤ 64) ∧ ds.length ≤ 10000 ∧
  ∀ (p : Addr) (qs : List (V × PyData)), qs.Perm (xs.zip ds) → (qs.map (·.2)).Pairwise (fun a b => PySem.W.dataLt b a = false) → DpAll K H (qs.map (·.1)) (qs.map (·.2)) → H p = none → Q (.ref p) (upd H p (.lst (qs.map (·.1))))
theorem each_of {K : PySem.W.Frag} {H : Hp} {h : Heap} : ∀ {xs : List V} {ds : List PyData} {us : List Value} {as : List Addr}, DpAll K H xs ds → Vals xs us → ReadsAll h us ds as →
    PySem.W.EachIs (fun (u : Value) (b : V × PyData) => RelV b.1 u ∧ Dp K H b.1 b.2) us (xs.zip ds) ∧ PySem.W.EachIs (fun (u : Value) (b : V × PyData) => ∃ as, Reads h u b.2 as) us (xs.zip ds)
  | _, _, _, _, .nil, .nil, _ => ⟨.nil, .nil⟩
  | _, _, _, _, .cons hd ha, .cons r rr, q => by
    cases q with
    | cons q1 q2 =>
      obtain ⟨i1, i2⟩ := each_of ha rr q2
      exact ⟨.cons ⟨r, hd⟩ i1, .cons ⟨_, q1⟩ i2⟩
theorem each_back {K : PySem.W.Frag} {H : Hp} : ∀ {us : List Value} {qs : List (V × PyData)}, PySem.W.EachIs (fun (u : Value) (b : V × PyData) => RelV b.1 u ∧ Dp K H b.1 b.2) us qs → Vals (qs.map (·.1)) us ∧ DpAll K H (qs.map (·.1)) (qs.map (·.2))
  | _, _, .nil => ⟨.nil, .nil⟩
  | _, _, .cons r t => by
    obtain ⟨i1, i2⟩ := each_back t
    exact ⟨.cons r.1 i1, .cons r.2 i2⟩
theorem zip_snd {α β : Type} : ∀ {xs : List α} {ys : List β}, xs.length = ys.length → (xs.zip ys).map (·.2) = ys
  | [], [], _ => rfl
  | _ :: xs, _ :: ys, h => by
    rw [List.zip_cons_cons, List.map_cons, zip_snd (Nat.succ.inj h)]
theorem cr_sortedD {X : Cx} (hu : X.A.units + 100 < cLine) : CallR X (.builtin "sorted") (rSortedD X.K) := by
  intro pins s σ H vs us Q I r h
  obtain ⟨a, xs, ds, rfl, hs, hall, hal, hk, hdep, hz, q⟩ := h
  obtain ⟨its, rv, hl, _⟩ := I.list hs
  rw [Vals.ref1 r]
  obtain ⟨as, hr⟩ := Dp.readsAll I ds xs its hall rv
  obtain ⟨g1, g2⟩ := each_of hall rv hr
  have hlen := dpa_len hall
  have ez := zip_snd hlen
  have lz : (xs.zip ds).length = ds.length := by rw [← List.length_map (f := fun b : V × PyData => b.2), ez]
  refine PySem.W.sorted_data (enc := fun b : V × PyData => b.2) hl.isList g1 g2 (by rw [ez]; exact hal) (by rw [ez]; exact hk) (by rw [lz]; exact sz_of (by omega)) (fun b hb => ?_) fun out lo ho => ?_
  · have hm : b.2 ∈ ds := by rw [← ez]; exact List.mem_map.mpr ⟨b, hb, rfl⟩
    have := hdep _ hm
    omega
  · obtain ⟨v1, v2⟩ := each_back ho
    have pm : ((xs.zip ds).mergeSort (PySem.W.dataLe false fun b : V × PyData => b.2)).Perm (xs.zip ds) := List.mergeSort_perm _ _
    have pw := PySem.W.sort_pairwise (PySem.W.sortLe_total (listOrd itemOrd) false fun b : V × PyData => PySem.W.keyToks b.2) (xs.zip ds)
    obtain ⟨ep, he'⟩ := PyProof.Rows.sortedAll_at s.heap its out.toArray
    have hle : (((xs.zip ds).mergeSort (PySem.W.dataLe false fun b : V × PyData => b.2)).map (·.1)).length ≤ sizeLine := by
      rw [List.length_map, pm.length_eq, lz]
      exact sz_of (by omega)
    refine ⟨.ref _, upd H (s.heap.objs.size + 1) (.lst (((xs.zip ds).mergeSort (PySem.W.dataLe false fun b : V × PyData => b.2)).map (·.1))), I.laid (t' := s.toks) (fun _ _ => PyProof.Rows.sortedAll_old) (Nat.le_succ _) ⟨hle, out, ep, v1, he'⟩, rfl, ?_⟩
    refine q _ ((xs.zip ds).mergeSort (PySem.W.dataLe false fun b : V × PyData => b.2)) pm ?_ v2 (I.hok.fresh (Nat.le_succ _))
    · rw [List.pairwise_map]
      refine pw.imp fun {x y} h => ?_
      have h' : (!PySem.W.dataLt y.2 x.2) = true := h
      cases e : PySem.W.dataLt y.2 x.2 with
      | false => rfl
      | true => rw [e] at h'; cases h'
theorem data_total {a b : PyData} (h1 : PySem.W.dataLt a b = false) (h2 : PySem.W.dataLt b a = false) : PySem.W.keyToks a = PySem.W.keyToks b := (listOrd itemOrd).total _ _ h1 h2
/-- rows that ascend, none twice -/
theorem asc_of : ∀ ds : List PyData, ds.Pairwise (fun a b => PySem.W.dataLt b a = false) → ds.Pairwise (fun a b => PySem.W.keyToks a ≠ PySem.W.keyToks b) → ascD ds = true
  | [], _, _ => rfl
  | [_], _, _ => rfl
  | a :: b :: r, h1, h2 => by
    rw [List.pairwise_cons] at h1 h2
    have h3 : PySem.W.dataLt a b = true := by
      cases e : PySem.W.dataLt a b with
      | true => rfl
      | false => exact absurd (data_total e (h1.1 b List.mem_cons_self)) (h2.1 b List.mem_cons_self)
    show (PySem.W.dataLt a b && ascD (b :: r)) = true
    rw [h3, asc_of (b :: r) h1.2 h2.2]
    rfl
end Vf
end
section
set_option Elab.async false
set_option linter.all false
set_option maxRecDepth 100000
set_option maxHeartbeats 4000000
namespace Vf
open PySem PySem.Spec PyProof.Rows L2 Evl
/-! ### tasks that are drawn -/
abbrev Job := Str × Str × Int × Int
/-- the greatest time is at most 200 -/
def spanOk : PyData → Prop | .tuple [_, _, .int _, .int g] => g ≤ 40 | _ => False
def jobD (j : Job) : PyData := .tuple [.str j.1, .str j.2.1, .int j.2.2.1, .int j.2.2.2]
structure Jobs (es : List Str) (js : List Job) (sp : List Str) : Prop where
  ok : ∀ j ∈ js, j.1 ∈ es ∧ j.2.1 ∈ es ∧ 1 ≤ j.2.2.1 ∧ j.2.2.1 ≤ j.2.2.2 ∧ j.2.2.2 ≤ 40
  sp : ∀ x, x ∈ sp ↔ x ∈ es ∧ x ∉ js.map (·.2.1)
  uniq : (js.map (·.2.1)).Nodup
  back : js.Pairwise fun i j => j.1 ≠ i.2.1
  own : ∀ j ∈ js, j.1 ≠ j.2.1
theorem Jobs.nil (es : List Str) : Jobs es [] es := ⟨fun j h => (by cases h), fun x => by simp, List.nodup_nil, List.Pairwise.nil, fun j h => (by cases h)⟩
theorem Jobs.snoc {es : List Str} {js : List Job} {sp : List Str} (J : Jobs es js sp) {b e : Str} {l g : Int} (he : e ∈ sp) (hb : b ∈ sp.filter fun x => !decide (x = e)) (hl : 1 ≤ l) (hg : l ≤ g) (hs : g ≤ 40) : Jobs es (js ++ [(b, e, l, g)]) (sp.filter fun x => !decide (x = e)) := by
  have hb1 := List.mem_filter.mp hb
  have hbe : b ≠ e := by simpa using hb1.2
  have e1 := (J.sp e).mp he
  have b1 := (J.sp b).mp hb1.1
  refine ⟨fun j hj => ?_, fun x => ?_, ?_, ?_, fun j hj => ?_⟩
  · rcases List.mem_append.mp hj with hj | hj
    · exact J.ok j hj
    · cases List.mem_singleton.mp hj
      exact ⟨b1.1, e1.1, hl, hg, hs⟩
  · rw [List.mem_filter, J.sp, List.map_append, List.mem_append]
    simp only [List.map_cons, List.map_nil, List.mem_singleton, Bool.not_eq_true', decide_eq_false_iff_not]
    constructor
    · rintro ⟨⟨h1, h2⟩, h3⟩
      exact ⟨h1, fun h => h.elim h2 h3⟩
    · rintro ⟨h1, h2⟩
      exact ⟨⟨h1, fun h => h2 (.inl h)⟩, fun h => h2 (.inr h)⟩
  · rw [List.map_append, List.nodup_append]
    refine ⟨J.uniq, by simp, fun a ha c hc => ?_⟩
    have : c = e := by simpa using hc
    subst this
    exact fun z => e1.2 (z ▸ ha)
  · rw [List.pairwise_append]
    refine ⟨J.back, List.pairwise_singleton _ _, fun i hi j hj => ?_⟩
    cases List.mem_singleton.mp hj
    exact fun z => b1.2 (List.mem_map.mpr ⟨i, hi, z.symm⟩)
  · rcases List.mem_append.mp hj with hj | hj
    · exact J.own j hj
    · cases List.mem_singleton.mp hj
      exact hbe
theorem putAll_val {k : Nat → Key} {u : Nat → V} {x : Key} {v : V} : ∀ n, valV (putAll n k u) x = some v → ∃ i, i < n ∧ k i = x ∧ u i = v
  | 0, h => by cases h
  | n + 1, h => by
    rw [putAll_succ, valV_put] at h
    split at h
    · rename_i e
      cases h
      exact ⟨n, Nat.lt_succ_self _, e.symm, rfl⟩
    · obtain ⟨i, hi, h1, h2⟩ := putAll_val n h
      exact ⟨i, Nat.lt_succ_of_lt hi, h1, h2⟩
theorem putAll_full {k : Nat → Key} {u : Nat → V} : ∀ n, (∀ i j, i < n → j < n → k i = k j → i = j) → (putAll n k u).length = n
  | 0, _ => rfl
  | n + 1, h => by
    rw [putAll_succ, putK_new]
    · rw [List.length_append, putAll_full n fun i j hi hj => h i j (Nat.lt_succ_of_lt hi) (Nat.lt_succ_of_lt hj)]
      rfl
    · have e := putAll_some (k := k) (u := u) (x := k n) n
      have hf : ¬ ∃ i, i < n ∧ k i = k n := fun ⟨i, hi, hk⟩ => by
        have := h i n (Nat.lt_succ_of_lt hi) (Nat.lt_succ_self _) hk
        omega
      rw [decide_eq_false hf] at e
      cases q : valV (putAll n k u) (k n) with
      | none => rfl
      | some _ => rw [q] at e; cases e
theorem kE_job (j : Job) : kE (jobD j) = j.2.1 := rfl
theorem kB_job (j : Job) : kB (jobD j) = j.1 := rfl
theorem isTask_job {es : List Str} {j : Job} (h : j.1 ∈ es ∧ j.2.1 ∈ es ∧ 1 ≤ j.2.2.1 ∧ j.2.2.1 ≤ j.2.2.2 ∧ j.2.2.2 ≤ 40) : isTask es (jobD j) = true := by
  show (decide (j.1 ∈ es) && (decide (j.2.1 ∈ es) && (decide (1 ≤ j.2.2.1) && decide (j.2.2.1 ≤ j.2.2.2)))) = true
  rw [decide_eq_true h.1, decide_eq_true h.2.1, decide_eq_true h.2.2.1, decide_eq_true h.2.2.2.1]
  rfl
theorem toks_job {i j : Job} (h : PySem.W.keyToks (jobD i) = PySem.W.keyToks (jobD j)) : i.2.1 = j.2.1 := by
  simp [jobD, PySem.W.keyToks, PySem.W.keyToksAll] at h
  exact cp_inj (congrArg Array.toList h.2.1)
/-- the tasks in another order: what goes back from ends to begins -/
theorem bg_val {js : List Job} {ts : List PyData} (hp : ts.Perm (js.map jobD)) {x y : Str} (h : valV (bg ts) (.inr x) = some (.str y)) : ∃ j ∈ js, j.2.1 = x ∧ j.1 = y := by
  obtain ⟨i, hi, h1, h2⟩ := putAll_val _ h
  have hm : ts.getD i .none ∈ ts := by simp [List.getD, hi]
  obtain ⟨j, hj, ej⟩ := List.mem_map.mp (hp.mem_iff.mp hm)
  rw [← ej] at h1 h2
  exact ⟨j, hj, Sum.inr.inj h1, V.str.inj h2⟩
theorem bg_none {js : List Job} {ts : List PyData} (hp : ts.Perm (js.map jobD)) {x : Str} (h : x ∉ js.map (·.2.1)) : valV (bg ts) (.inr x) = none := by
  have e := putAll_some (k := fun i => (.inr (kE (ts.getD i .none)) : Key)) (u := fun i => .str (kB (ts.getD i .none))) (x := .inr x) ts.length
  have hf : ¬ ∃ i, i < ts.length ∧ (Sum.inr (kE (ts.getD i .none)) : Key) = .inr x := fun z => by
    have h2 := mem_keys.mp z
    obtain ⟨t, ht, et⟩ := List.mem_map.mp h2
    obtain ⟨j, hj, ej⟩ := List.mem_map.mp (hp.mem_iff.mp ht)
    rw [← ej] at et
    exact h (List.mem_map.mpr ⟨j, hj, et⟩)
  rw [decide_eq_false hf] at e
  cases q : valV (bg ts) (.inr x) with
  | none => rfl
  | some _ =>
    unfold bg at q
    rw [q] at e
    cases e
theorem Jobs.out {es : List Str} {js : List Job} {sp : List Str} {ts : List PyData} (J : Jobs es js sp) (hp : ts.Perm (js.map jobD)) : ∀ (suf pre : List Job), js = pre ++ suf → ∀ x, x ∉ pre.map (·.2.1) → Out (bg ts) x
  | [], pre, e, x, hx => .stop (bg_none hp (by rw [e, List.append_nil]; exact hx))
  | j :: suf, pre, e, x, hx => by
    have e2 : js = (pre ++ [j]) ++ suf := by rw [List.append_assoc]; exact e
    by_cases hxj : x = j.2.1
    · subst hxj
      cases hv : valV (bg ts) (.inr j.2.1) with
      | none => exact .stop hv
      | some v =>
        obtain ⟨_, y, _, rfl⟩ := putAll_strD ts.length _ _ (valV_mem hv)
        obtain ⟨j2, hj2, h1, h2⟩ := bg_val hp hv
        have hj : j ∈ js := by rw [e]; simp
        have hsame : j2 = j := by
          have inj : ∀ (l : List Job), (l.map (·.2.1)).Nodup → ∀ a ∈ l, ∀ b ∈ l, a.2.1 = b.2.1 → a = b := by
            intro l
            induction l with
            | nil => exact fun _ a ha => by cases ha
            | cons c r ih =>
              intro hN a ha b hb hab
              rw [List.map_cons, List.nodup_cons] at hN
              cases ha with
              | head => cases hb with
                | head => rfl
                | tail _ hb => exact absurd (List.mem_map.mpr ⟨b, hb, hab.symm⟩) hN.1
              | tail _ ha => cases hb with
                | head => exact absurd (List.mem_map.mpr ⟨a, ha, hab⟩) hN.1
                | tail _ hb => exact ih hN.2 a ha b hb hab
          exact inj js J.uniq j2 hj2 j hj h1
        subst hsame
        refine .step hv (Jobs.out J hp suf (pre ++ [j2]) e2 y ?_)
        rw [← h2, List.map_append, List.mem_append]
        rintro (h3 | h3)
        · obtain ⟨i, hi, ei⟩ := List.mem_map.mp h3
          have hb := J.back
          rw [e, List.pairwise_append] at hb
          exact hb.2.2 i hi j2 List.mem_cons_self ei.symm
        · have h4 : j2.1 = j2.2.1 := by simpa using h3
          exact J.own j2 hj h4
    · refine Jobs.out J hp suf (pre ++ [j]) e2 x ?_
      rw [List.map_append, List.mem_append]
      rintro (h3 | h3)
      · exact hx h3
      · exact hxj (by simpa using h3)
theorem Jobs.spans {es : List Str} {js : List Job} {sp : List Str} {ts : List PyData} (J : Jobs es js sp) (hp : ts.Perm (js.map jobD)) : ∀ t ∈ ts, spanOk t := fun t ht => by
  obtain ⟨j, hj, rfl⟩ := List.mem_map.mp (hp.mem_iff.mp ht)
  exact (J.ok j hj).2.2.2.2
theorem Jobs.tasks {es : List Str} {js : List Job} {sp : List Str} {ts : List PyData} (J : Jobs es js sp) (hp : ts.Perm (js.map jobD)) (hs : ts.Pairwise fun a b => PySem.W.dataLt b a = false) : areTasks es (.tuple ts) = true := by
  have hform : ∀ t ∈ ts, ∃ j ∈ js, t = jobD j := fun t ht => by
    obtain ⟨j, hj, ej⟩ := List.mem_map.mp (hp.mem_iff.mp ht)
    exact ⟨j, hj, ej.symm⟩
  have hN : (ts.map kE).Nodup := by
    have h1 : (ts.map kE).Perm (js.map (·.2.1)) := by
      have h2 := hp.map kE
      rw [List.map_map] at h2
      exact h2
    exact h1.nodup_iff.mpr J.uniq
  have a1 : ts.all (isTask es) = true := List.all_eq_true.mpr fun t ht => by
    obtain ⟨j, hj, rfl⟩ := hform t ht
    exact isTask_job (J.ok j hj)
  have a2 : ascD ts = true := by
    refine asc_of ts hs ?_
    have hN2 : ts.Pairwise fun a b => kE a ≠ kE b := by
      have := hN
      unfold List.Nodup at this
      rw [List.pairwise_map] at this
      exact this
    refine hN2.imp_of_mem fun {a b} ha hb hab hk => ?_
    obtain ⟨i, _, rfl⟩ := hform a ha
    obtain ⟨j, _, rfl⟩ := hform b hb
    exact hab (toks_job hk)
  have a3 : (bg ts).length = ts.length := by
    refine putAll_full ts.length fun i j hi hj hk => ?_
    have h1 : (ts.map kE)[i]? = some (kE (ts.getD i .none)) := by
      rw [List.getElem?_map]
      simp [List.getD, hi]
    have h2 : (ts.map kE)[j]? = some (kE (ts.getD j .none)) := by
      rw [List.getElem?_map]
      simp [List.getD, hj]
    rw [← Sum.inr.inj hk] at h2
    exact nd_ix hN h1 h2
  have a4 : Rooted (bg ts) := fun x => J.out hp js [] rfl x (by simp)
  show (ts.all (isTask es) && (ascD ts && (decide (((bg ts).length : Int) = (ts.length : Int)) && @decide (Rooted (bg ts)) (Classical.propDecidable _)))) = true
  rw [a1, a2, a3, decide_eq_true rfl, @decide_eq_true _ (Classical.propDecidable _) a4]
  rfl
end Vf
end
section
set_option Elab.async false
set_option linter.all false
set_option maxRecDepth 100000
set_option maxHeartbeats 8000000
namespace Vf
open PySem PySem.Spec PyProof.Rows L2 Evl
theorem hu100 {A : Around} {k : Nat} (hr : Room k A) : A.units + 100 < cLine := Nat.lt_of_le_of_lt (by omega) hr.un
theorem ite_t {c : Bool} {A B : Prop} (hc : c = true) (h : A) : if c = true then A else B := by rw [if_pos hc]; exact h
theorem ite_f {c : Bool} {A B : Prop} (hc : c = false) (h : B) : if c = true then A else B := by rw [hc, if_neg (by decide)]; exact h
theorem cr_sortedDK {X : Cx} {K : PySem.W.Frag} (h : X.K = K) (hu : X.A.units + 100 < cLine) : CallR X (.builtin "sorted") (rSortedD K) := h ▸ cr_sortedD hu
abbrev bb (H : Hp) (p l : Addr) : Hp := but (but H p) l
theorem bb_upd {H : Hp} {p l : Addr} {o : HO} (h : l ≠ p) : bb (upd H l o) p l = bb H p l := by
  funext b
  unfold bb but upd
  split
  · rfl
  · rename_i h1
    split
    · rfl
    · rfl
theorem bb_ex {H : Hp} {p l : Addr} : Ex (bb H p l) H := (but_ex _ l).trans (but_ex H p)
theorem bb_at {H : Hp} {p l a : Addr} {o : HO} (h : H a = some o) (h1 : a ≠ p) (h2 : a ≠ l) : bb H p l a = some o := (but_ne h2).trans ((but_ne h1).trans h)
theorem noLs_of : ∀ {ds : List PyData}, (∀ d ∈ ds, noL d = true) → noLs ds = true
  | [], _ => rfl
  | d :: r, h => by
    show (noL d && noLs r) = true
    rw [h d List.mem_cons_self, noLs_of fun a ha => h a (List.mem_cons_of_mem _ ha)]
    rfl
theorem dpa_job {K : PySem.W.Frag} {H : Hp} {t : Addr} {j : Job} (h : H t = some (.tup [.str j.1, .str j.2.1, .int j.2.2.1, .int j.2.2.2])) : Dp K H (.ref t) (jobD j) := .tup (st_of h) (.cons (.str _) (.cons (.str _) (.cons (.int _) (.cons (.int _) .nil))))
theorem alike_jobs {js : List Job} : PySem.W.AllAlike (js.map jobD) := fun a ha b hb => by
  obtain ⟨i, _, rfl⟩ := List.mem_map.mp ha
  obtain ⟨j, _, rfl⟩ := List.mem_map.mp hb
  simp [jobD, PySem.W.alike, PySem.W.alikeAll]
theorem sortable_jobs {js : List Job} : PySem.W.Sortable (js.map jobD) := .inl fun d hd => by
  obtain ⟨i, _, rfl⟩ := List.mem_map.mp hd
  exact ⟨_, _, rfl⟩
theorem depth_jobs {js : List Job} : ∀ d ∈ js.map jobD, d.depth ≤ 64 := fun d hd => by
  obtain ⟨i, _, rfl⟩ := List.mem_map.mp hd
  simp [jobD, PyData.depth, PyData.depthAll]
abbrev spJobs (K : PySem.W.Frag) : Sp := fun vs H Q _ => ∃ (p u : Addr) (es : List Str) (m n : Nat) (g : Int), vs = [.ref p, .ref u, .int (m : Int), .int g] ∧ SqT K (but H p) u (es.map V.str) ∧ es.Nodup ∧ es.length ≤ 900 ∧ m ≤ 10 ∧ 1 ≤ g ∧ g ≤ 18 ∧ SackAt H p n ∧ n + 100 < LIM ∧
  ∀ (a : Addr) (ts : List PyData) (H' : Hp), ts.length ≤ m → areTasks es (.tuple ts) = true → (∃ js sp, Jobs es js sp ∧ ts.Perm (js.map jobD)) → Ex (but H p) (but H' p) → SackAt H' p (n + 7 * m) → Dp K (but H' p) (.ref a) (.tuple ts) → Q (.ref a) H'
theorem filter_strs (sp : List Str) (x : Str) : givenD sp.length (fun i => !decide (strOf ((sp.map PyData.str).getD i .none) = x)) (fun i => (sp.map PyData.str).getD i .none) = (sp.filter fun y => !decide (y = x)).map PyData.str := by
  have h := givenD_sel (sp.map PyData.str) (fun d => !decide (strOf d = x)) id
  rw [List.map_id, List.length_map] at h
  have h2 : (sp.map PyData.str).filter (fun d => !decide (strOf d = x)) = (sp.filter fun y => !decide (y = x)).map PyData.str := by
    rw [List.filter_map]
    rfl
  rw [h2] at h
  exact h
section
variable {P : Program} {w : World} {K : PySem.W.Frag} {mg : Str → Option Value} {base : Heap} {tg : Tok} {f : Addr} {fd : FuncData}
abbrev s_law_jobs : Stmt := topS 80
theorem sc_law_jobs : FnScope ["sack", "points", "many_here", "great", "found", "spare", "k", "stop", "name", "start", "low"] ["sack", "points", "many_here", "great"] (defScope s_law_jobs) := ⟨rfl, rfl, rfl, by decide +kernel, rfl, by decide +kernel, by decide +kernel⟩
theorem ok_law_jobs (F : Fun K "_law_jobs" "_law_jobs" s_law_jobs f fd) (T : Txt mg tg) (C_law_dip : Cal P w K mg base 1 "_law_dip" ["sack", "below"] spDip) : FnOk P w K mg base CX0 2 f fd ["sack", "points", "many_here", "great"] (spJobs K) := by
  refine F.ok sc_law_jobs (fun vs H Q E h => ?_) (fun cdv A outer s H0 vs Q E hr h => ?_)
  · obtain ⟨p, u, es, m, n, g, rfl, _⟩ := h
    rfl
  · obtain ⟨p, u, es, m, n, g, rfl, hu, hN, hz, hm, g1, g2, hsk, hn, q⟩ := h
    have hn' : n + 100 < 100000 := hn
    refine ⟨_, (pss_cons (ps_par (i := 4) (j := 5) rfl sc_law_jobs.nd rfl rfl (by decide) rfl rfl (pa_cons (pe_lst pa_nil) (pa_cons (pe_callTy call_list_of (by rfl) T.list (by decide +kernel) (pa_cons (pv 1) pa_nil)) pa_nil)) (by rfl)) (pss_cons (ps_for PassesOwn.never rfl (pi_range1 rfl T.range (pa_cons (pv 2) pa_nil)) (pg_name (i := 6) sc_law_jobs.nd rfl (Or.inl rfl)) (pss_one (ps_if (PW.pt (pw_and (pt_cmpR op_gt (pe_callB (call_len_seqK (K := K) rfl) (by rfl) T.len (by decide +kernel) (pa_cons (pv 5) pa_nil)) pe_int (nomark _)) (pw_and1 (pt_cmpR op_gt (pe_cal C_law_dip (by first | exact hr | exact hr.mono (by decide)) (by rfl) (pa_cons (pv 0) (pa_cons pe_int pa_nil))) pe_int (nomark _))))) (pss_cons (ps_set (i := 7) sc_law_jobs.nd rfl (Or.inr rfl) (pe_ix (ix_listK (K := K) rfl) (pv 5) (pe_cal C_law_dip (by first | exact hr | exact hr.mono (by decide)) (by rfl) (pa_cons (pv 0) (pa_cons (pe_callB (call_len_seqK (K := K) rfl) (by rfl) T.len (by decide +kernel) (pa_cons (pv 5) pa_nil)) pa_nil))) (fun _ _ => rfl))) (pss_cons (ps_setLc (i := 5) (own := [("name", 8)]) rfl sc_law_jobs.nd rfl rfl (sw_true rfl rfl rfl (by decide +kernel)) (pi_listK (K := K) rfl (pv 5)) (blkOk_by (own := [("name", 8)]) (N := ["sack", "points", "many_here", "great", "found", "spare", "k", "stop", "name", "start", "low"]) (sc := defScope s_law_jobs) (by decide +kernel)) (fun _ _ _ _ _ => (pg_name (i := 8) sc_law_jobs.nd rfl (Or.inl rfl))) (fun _ _ _ _ _ => (pts_one (pt_cmpR op_ne (pv 8) (pv 7) (nomark _)))) (fun _ _ _ _ _ => (pv 8))) (pss_cons (ps_set (i := 9) sc_law_jobs.nd rfl (Or.inl rfl) (pe_ix (ix_listK (K := K) rfl) (pv 5) (pe_cal C_law_dip (by first | exact hr | exact hr.mono (by decide)) (by rfl) (pa_cons (pv 0) (pa_cons (pe_callB (call_len_seqK (K := K) rfl) (by rfl) T.len (by decide +kernel) (pa_cons (pv 5) pa_nil)) pa_nil))) (fun _ _ => rfl))) (pss_cons (ps_set (i := 10) sc_law_jobs.nd rfl (Or.inl rfl) (pe_op op_add pe_int (pe_cal C_law_dip (by first | exact hr | exact hr.mono (by decide)) (by rfl) (pa_cons (pv 0) (pa_cons (pv 3) pa_nil))))) (pss_one (ps_expr (pe_bm PySem.F.plainAttrs_list PySem.F.slot_list_append PySem.F.type_list_append mt_append (pv 4) (pa_cons (pe_tup (pa_cons (pv 9) (pa_cons (pv 7) (pa_cons (pv 10) (pa_cons (pe_op op_add (pv 10) (pe_ix (ix_listK (K := K) rfl) (pe_lst (pa_cons pe_int (pa_cons (pe_cal C_law_dip (by first | exact hr | exact hr.mono (by decide)) (by rfl) (pa_cons (pv 0) (pa_cons pe_int pa_nil))) (pa_cons (pe_cal C_law_dip (by first | exact hr | exact hr.mono (by decide)) (by rfl) (pa_cons (pv 0) (pa_cons (pv 3) pa_nil))) pa_nil)))) (pe_cal C_law_dip (by first | exact hr | exact hr.mono (by decide)) (by rfl) (pa_cons (pv 0) (pa_cons pe_int pa_nil))) (fun _ _ => rfl))) pa_nil))))) pa_nil)))))))) pss_nil))) (pss_one (ps_ret (pe_callTy call_tuple_of (by rfl) T.tuple (by decide +kernel) (pa_cons (pe_callB (cr_sortedDK (K := K) rfl (hu100 hr)) (by rfl) T.sorted (by decide +kernel) (pa_cons (pv 4) pa_nil)) pa_nil)))))), ?_⟩
    have R0 : Run p n (but H0 p) H0 := ⟨Ex.refl _, hsk⟩
    -- found, spare = [], list(points)
    refine ⟨Nat.zero_le _, fun lf hlf => ?_⟩
    obtain ⟨hBf, hfp⟩ := R0.fresh hlf
    have R1 := R0.upd (o := .lst []) hBf hfp
    refine ⟨.ref u, rfl, u, _, rfl, .inr (ex_t R1.base hu), fun ls hls => ?_⟩
    have hsf : ls ≠ lf := fun e => by subst e; rw [upd_same] at hls; cases hls
    have hls0 : H0 ls = none := by rw [upd_ne hsf] at hls; exact hls
    obtain ⟨hBs, hsp⟩ := R0.fresh hls0
    refine ⟨_, _, rfl, ?_⟩
    refine q_forR1 (n := (m : Int)) (ea_cons (ev_var rfl) ea_nil) (by omega) (fun i σ' H' => ∃ ls x6 x7 x8 x9 x10 js sp fs, σ' = [some (.ref p), some (.ref u), some (.int (m : Int)), some (.int g), some (.ref lf), some (.ref ls), x6, x7, x8, x9, x10] ∧
        Run p (n + 7 * i) (but H0 p) H' ∧ H' lf = some (.lst fs) ∧ DpAll K (bb H' p lf) fs (js.map jobD) ∧ H' ls = some (.lst (sp.map V.str)) ∧ ls ≠ lf ∧ ls ≠ p ∧ sp.length ≤ 900 ∧ sp.Nodup ∧ Jobs es js sp ∧ js.length ≤ i)
      (fun H3 e3 => ⟨ls, none, none, none, none, none, [], es, [], rfl, (R1.upd hBs hsp).on e3, e3 _ _ (by rw [upd_ne hsf.symm, upd_same]), .nil, e3 _ _ upd_same, hsf, hsp, hz, hN, Jobs.nil es, Nat.le_refl _⟩) ?_ ?_
    · rintro i σ' H3 hi ⟨ls, x6, x7, x8, x9, x10, js, sp, fs, rfl, R, hF, hFd, hS, hsf, hsp, hspz, hspN, J, hjl⟩
      have keep : ∀ (H4 : Hp) (N : Nat), N ≤ n + 7 * (i + 1) → Run p N (but H0 p) H4 → Ex (but H3 p) (but H4 p) → ∃ ls' x6' x7' x8' x9' x10' js' sp' fs', ([some (.ref p), some (.ref u), some (.int (m : Int)), some (.int g), some (.ref lf), some (.ref ls), some (.int (i : Int)), x7, x8, x9, x10] : L2.St) = [some (.ref p), some (.ref u), some (.int (m : Int)), some (.int g), some (.ref lf), some (.ref ls'), x6', x7', x8', x9', x10'] ∧
          Run p (n + 7 * (i + 1)) (but H0 p) H4 ∧ H4 lf = some (.lst fs') ∧ DpAll K (bb H4 p lf) fs' (js'.map jobD) ∧ H4 ls' = some (.lst (sp'.map V.str)) ∧ ls' ≠ lf ∧ ls' ≠ p ∧ sp'.length ≤ 900 ∧ sp'.Nodup ∧ Jobs es js' sp' ∧ js'.length ≤ i + 1 := fun H4 N hN R4 e4 =>
        ⟨ls, _, _, _, _, _, js, sp, fs, rfl, R4.mono hN, kept e4 hF hfp, dpa_ex (but_mono e4) hFd, kept e4 hS hsp, hsf, hsp, hspz, hspN, J, by omega⟩
      refine ev_lenL (K := K) (ed_of (ev_var rfl) (Dp.lst (sq_of hS) (dpa_strs sp))) H3 (Ex.refl _) _ fun H4 e4 => ?_
      refine ⟨_, _, rfl, rfl, _, rfl, ?_⟩
      by_cases hlen : (1 : Int) < ((sp.map PyData.str).length : Int)
      · refine ite_t (decide_eq_true hlen) ?_
        rw [List.length_map] at hlen
        refine st_dip (B := but H0 p) (b := 4) rfl ev_c (by decide) (by decide) (R.on e4) (by unfold LIM; omega) fun r1 H5 a0 a1 R5 e5 => ?_
        have f5 : Ex (but H3 p) (but H5 p) := (but_mono e4).trans e5
        refine ⟨_, _, rfl, rfl, _, rfl, ?_⟩
        by_cases hr1 : (0 : Int) < r1
        · refine ite_t (decide_eq_true hr1) ?_
          -- stop = ..
          have hS5 := kept f5 hS hsp
          refine q_any ⟨.ref ls, rfl, st_dip (B := but H0 p) (b := (sp.length : Int)) rfl (ev_is (ev_lenL (K := K) (ed_of (ev_var rfl) (Dp.lst (sq_of hS5) (dpa_strs sp)))) (by rw [List.length_map])) (by omega) (by omega) R5 (by unfold LIM; omega) fun r2 H6 b0 b1 R6 e6 => ?_⟩
          have f6 := f5.trans e6
          have hS6 := kept f6 hS hsp
          have hr2 : r2.toNat < sp.length := by omega
          refine ⟨ls, _, r2, .str sp[r2.toNat], rfl, rfl, sq_of hS6, at_of (j := r2.toNat) (by omega) (by rw [List.getElem?_map, List.getElem?_eq_getElem hr2]; rfl), ?_⟩
          have hmem : sp[r2.toNat] ∈ sp := List.getElem_mem hr2
          generalize sp[r2.toNat] = e at hmem ⊢
          -- spare = [name for name in spare if name != stop]
          refine q_asgN (K := K) (ds := (sp.filter fun y => !decide (y = e)).map PyData.str) ?_ fun l2 xs2 H7 hl2 e7 h7 d7 => ?_
          · rw [← filter_strs]
            have hlm : (sp.map PyData.str).length = sp.length := List.length_map ..
            rw [← hlm]
            refine en_lcL _ _ (ed_of (ev_var rfl) (Dp.lst (sq_of hS6) (dpa_strs sp))) (by omega) (fun t ht => ?_) fun t x d H7 e7 ht hx => ?_
            · by_cases hlt : t < sp.length
              · simp [List.getD, hlt, noL]
              · simp [List.getD, hlt, noL]
            · rw [List.getElem?_map] at ht
              obtain ⟨y, hy, rfl⟩ := Option.map_eq_some_iff.mp ht
              cases hx
              have hg : (sp.map PyData.str).getD t .none = .str y := getD_of (by rw [List.getElem?_map, hy]; rfl)
              refine ⟨_, ?_, goes_name, ?_, fun _ => ?_⟩
              · rfl
              · rw [hg]
                exact et_test (ev_opD (K := K) (ed_of (ev_var rfl) (.str y)) (ed_of (ev_var rfl) (.str e)) rd_neS)
              · rw [hg]
                exact ed_of (ev_var rfl) (.str y)
          · cases dpa_strs_inv d7
            have R7 := R6.on e7
            have f7 : Ex (but H3 p) (but H7 p) := f6.trans (but_mono e7)
            obtain ⟨_, hl2p⟩ := R6.fresh hl2
            have hl2f : l2 ≠ lf := (ne_of_none (kept f6 hF hfp) hl2).symm
            have hne : ∃ y ∈ sp, y ≠ e := by
              match sp, hspN, hlen with
              | a :: b :: r, hN2, _ =>
                by_cases hae : a = e
                · refine ⟨b, by simp, fun z => ?_⟩
                  rw [List.nodup_cons] at hN2
                  exact hN2.1 (by rw [hae, ← z]; simp)
                · exact ⟨a, by simp, hae⟩
            have hl3 : 1 ≤ (sp.filter fun y => !decide (y = e)).length := by
              obtain ⟨y, hy, hye⟩ := hne
              exact List.length_pos_of_mem (List.mem_filter.mpr ⟨hy, by simp [hye]⟩)
            have hl4 : (sp.filter fun y => !decide (y = e)).length ≤ sp.length := List.length_filter_le ..
            have hJ : ∀ b ∈ sp.filter fun y => !decide (y = e), ∀ l g2, 1 ≤ l → l ≤ g2 → g2 ≤ 40 → Jobs es (js ++ [(b, e, l, g2)]) (sp.filter fun y => !decide (y = e)) := fun b hb l g2 h1 h2 h3 => J.snoc hmem hb h1 h2 h3
            have hN3 : (sp.filter fun y => !decide (y = e)).Nodup := hspN.filter _
            generalize (sp.filter fun y => !decide (y = e)) = sp2 at h7 hl3 hl4 hJ hN3 d7 ⊢
            -- start = ..
            refine q_any ⟨.ref l2, rfl, st_dip (B := but H0 p) (b := (sp2.length : Int)) rfl (ev_is (ev_lenL (K := K) (ed_of (ev_var rfl) (Dp.lst (sq_of h7) (dpa_strs sp2)))) (by rw [List.length_map])) (by omega) (by omega) R7 (by unfold LIM; omega) fun r3 H8 c0 c1 R8 e8 => ?_⟩
            have f8 := f7.trans e8
            have hr3 : r3.toNat < sp2.length := by omega
            have hS8 := kept e8 h7 hl2p
            refine ⟨l2, _, r3, .str sp2[r3.toNat], rfl, rfl, sq_of hS8, at_of (j := r3.toNat) (by omega) (by rw [List.getElem?_map, List.getElem?_eq_getElem hr3]; rfl), ?_⟩
            have hbm : sp2[r3.toNat] ∈ sp2 := List.getElem_mem hr3
            generalize sp2[r3.toNat] = b at hbm ⊢
            -- low = 1 + ..
            refine q_any (st_dip (B := but H0 p) (b := g) rfl (ev_var rfl) (by omega) (by omega) R8 (by unfold LIM; omega) fun r4 H9 d0 d1 R9 e9 => ?_)
            have f9 := f8.trans e9
            refine ⟨_, _, rfl, rfl, ?_⟩
            -- found.append(..)
            have hF9 := kept f9 hF hfp
            refine ⟨.ref lf, rfl, Or.inl ⟨rfl, fs, sq_of hF9⟩, .str b, rfl, .str e, rfl, .int (1 + r4), rfl, .int (1 + r4), rfl, ?_⟩
            refine st_dip (B := but H0 p) (b := 3) rfl ev_c (by decide) (by decide) R9 (by unfold LIM; omega) fun r5 H10 g0 g1' R10 e10 => ?_
            refine st_dip (B := but H0 p) (b := g) rfl (ev_var rfl) (by omega) (by omega) R10 (by unfold LIM; omega) fun r6 H11 i0 i1 R11 e11 => ?_
            refine ⟨by show 3 ≤ sizeLine; decide, fun v hv => ?_⟩
            obtain ⟨hBv, hvp⟩ := R11.fresh hv
            refine st_dip (B := but H0 p) (b := 3) rfl ev_c (by decide) (by decide) (R11.upd hBv hvp) (by unfold LIM; omega) fun r7 H12 j0 j1 R12 e12 => ?_
            have hv12 : H12 v = some (.lst [.int 0, .int r5, .int r6]) := kept e12 upd_same hvp
            obtain ⟨x, hx0, hx9, hx⟩ : ∃ x : Int, 0 ≤ x ∧ x ≤ 18 ∧ atI [V.int 0, .int r5, .int r6] r7 = some (.int x) := by
              have h4 : r7 = 0 ∨ r7 = 1 ∨ r7 = 2 := by omega
              rcases h4 with rfl | rfl | rfl
              · exact ⟨0, by omega, by omega, rfl⟩
              · exact ⟨r5, g0, by omega, rfl⟩
              · exact ⟨r6, i0, by omega, rfl⟩
            refine ⟨v, _, r7, _, rfl, rfl, sq_of hv12, hx, _, _, rfl, rfl, by show 4 ≤ sizeLine; decide, fun t ht => ?_⟩
            have f12 : Ex (but H3 p) (but H12 p) := (f9.trans (e10.trans e11)).trans ((but_mono (Ex.new hv)).trans e12)
            obtain ⟨hBt, htp⟩ := R12.fresh ht
            have hF12 := kept f12 hF hfp
            have htf : t ≠ lf := (ne_of_none hF12 ht).symm
            have hfl := dpa_len hFd
            rw [List.length_map] at hfl
            refine ⟨lf, fs, .ref t, rfl, rfl, by rw [upd_ne htf.symm]; exact hF12, sz_lt (by omega), ?_⟩
            have hbt : (upd (upd H12 t (.tup [.str b, .str e, .int (1 + r4), .int (1 + r4 + x)])) lf (.lst (fs ++ [.ref t]))) t = some (.tup [.str b, .str e, .int (1 + r4), .int (1 + r4 + x)]) := by rw [upd_ne htf, upd_same]
            refine ⟨l2, _, _, _, _, _, js ++ [(b, e, 1 + r4, 1 + r4 + x)], sp2, fs ++ [.ref t], rfl, ?_, upd_same, ?_, ?_, hl2f, hl2p, by omega, hN3, hJ b hbm _ _ (by omega) (by omega) (by omega), ?_⟩
            · exact ((R12.upd hBt htp).upd hBf hfp).mono (by omega)
            · rw [List.map_append]
              refine dpa_snoc (dpa_ex ?_ hFd) (dpa_job (j := (b, e, 1 + r4, 1 + r4 + x)) (bb_at hbt htp htf))
              rw [bb_upd hfp]
              exact but_mono (f12.trans (but_mono (Ex.new ht)))
            · rw [upd_ne hl2f]
              have h13 : H12 l2 = some (.lst (sp2.map V.str)) := kept ((e8.trans e9).trans ((e10.trans e11).trans ((but_mono (Ex.new hv)).trans e12))) h7 hl2p
              exact Ex.new ht _ _ h13
            · rw [List.length_append]
              show js.length + 1 ≤ i + 1
              omega
        · refine ite_f (decide_eq_false hr1) ?_
          exact keep H5 _ (by omega) R5 f5
      · refine ite_f (decide_eq_false hlen) ?_
        exact iteF (keep H4 _ (by omega) (R.on e4) (but_mono e4))
    · rintro σ' H3 ⟨ls, x6, x7, x8, x9, x10, js, sp, fs, rfl, R, hF, hFd, hS, hsf, hsp, hspz, hspN, J, hjl⟩
      have hjl' : js.length ≤ m := by omega
      refine ⟨.ref lf, rfl, lf, fs, _, rfl, sq_of hF, dpa_ex bb_ex hFd, alike_jobs, sortable_jobs, depth_jobs, by rw [List.length_map]; omega, fun a qs hp0 hs hd ha => ?_⟩
      have hp : (qs.map (·.2)).Perm (js.map jobD) := by
        have h := hp0.map (fun b : V × PyData => b.2)
        rw [zip_snd (dpa_len hFd)] at h
        exact h
      generalize qs.map (·.2) = ts at hp hs hd ⊢
      generalize qs.map (·.1) = ys at hd ⊢
      refine ⟨a, ys, rfl, .inl ⟨sq_of upd_same, fun b hb => ?_⟩⟩
      obtain ⟨hBa, hap⟩ := R.fresh ha
      have R4 := R.upd (o := .lst ys) hBa hap
      obtain ⟨hBb, hbp⟩ := R4.fresh hb
      have R5 := R4.upd (o := .tup ys) hBb hbp
      have hnl : noLs ts = true := noLs_of fun d hd => by
        obtain ⟨j, _, rfl⟩ := List.mem_map.mp (hp.mem_iff.mp hd)
        rfl
      obtain ⟨x, y, z, hpp, _⟩ := R.sk
      have hd2 : DpAll K (but H3 p) ys ts := dpa_but hnl hd hpp
      have e5 : Ex (but H3 p) (but (upd (upd H3 a (.lst ys)) b (.tup ys)) p) := (but_mono (Ex.new ha)).trans (but_mono (Ex.new hb))
      refine q b ts _ ?_ (J.tasks hp hs) ⟨js, sp, J, hp⟩ R5.ex (R5.sk.mono ?_) (.tup (st_of (by rw [but_ne hbp, upd_same])) (dpa_ex e5 hd2))
      · have := hp.length_eq
        rw [List.length_map] at this
        omega
      · omega
end
end Vf
end
section
set_option Elab.async false
set_option linter.all false
set_option maxRecDepth 100000
set_option maxHeartbeats 8000000
namespace Vf
open PySem PySem.Spec PyProof.Rows L2 Evl
abbrev spNames (K : PySem.W.Frag) : Sp := fun vs H Q _ => ∃ (p : Addr) (m n : Nat), vs = [.ref p, .int (m : Int)] ∧ m ≤ 7 ∧ SackAt H p n ∧ n + 120 < LIM ∧
  ∀ (a : Addr) (o : Obj) (es : List Str) (H' : Hp), o.dict = none → es.length = m → (∀ e ∈ es, isName (.str e) = true) → ascD (es.map .str) = true → Ex (but H p) (but H' p) → SackAt H' p (n + 100) → (but H' p) a = some (.frz o (.tup (es.map V.str))) → Q (.ref a) H'
section
variable {P : Program} {w : World} {K : PySem.W.Frag} {mg : Str → Option Value} {base : Heap} {tg : Tok} {f : Addr} {fd : FuncData}
abbrev s_law_names : Stmt := topS 79
theorem sc_law_names : FnScope ["sack", "many_here", "letters", "found", "first", "k", "size", "way", "turn", "rest", "name", "at", "spot"] ["sack", "many_here"] (defScope s_law_names) := ⟨rfl, rfl, rfl, by decide +kernel, rfl, by decide +kernel, by decide +kernel⟩
theorem ok_law_names (F : Fun K "_law_names" "_law_names" s_law_names f fd) (T : Txt mg tg) (C_law_dip : Cal P w K mg base 1 "_law_dip" ["sack", "below"] spDip) : FnOk P w K mg base CX0 2 f fd ["sack", "many_here"] (spNames K) := by
  refine F.ok sc_law_names (fun vs H Q E h => ?_) (fun cdv A outer s H0 vs Q E hr h => ?_)
  · obtain ⟨p, m, n, rfl, _⟩ := h
    rfl
  · obtain ⟨p, m, n, rfl, hm, hsk, hn, q⟩ := h
    have hn' : n + 120 < 100000 := hn
    refine ⟨_, (pss_cons (ps_asg (pe_tup (pa_cons pe_str (pa_cons (pe_lst pa_nil) (pa_cons (pe_cal C_law_dip (by first | exact hr | exact hr.mono (by decide)) (by rfl) (pa_cons (pv 0) (pa_cons pe_int pa_nil))) pa_nil)))) (pg_tupK (K := K) (n := 3) rfl rfl (pgs_cons (pg_name (i := 2) sc_law_names.nd rfl (Or.inr rfl)) (pgs_cons (pg_name (i := 3) sc_law_names.nd rfl (Or.inr rfl)) (pgs_cons (pg_name (i := 4) sc_law_names.nd rfl (Or.inl rfl)) pgs_nil))))) (pss_cons (ps_for PassesOwn.never rfl (pi_range1 rfl T.range (pa_cons (pv 1) pa_nil)) (pg_name (i := 5) sc_law_names.nd rfl (Or.inl rfl)) (pss_cons (ps_par (i := 6) (j := 7) rfl sc_law_names.nd rfl rfl (by decide) rfl rfl (pa_cons (pe_ix (ix_listK (K := K) rfl) (pe_lst (pa_cons pe_int (pa_cons pe_int (pa_cons pe_int (pa_cons (pe_cal C_law_dip (by first | exact hr | exact hr.mono (by decide)) (by rfl) (pa_cons (pv 0) (pa_cons pe_int pa_nil))) pa_nil))))) (pe_cal C_law_dip (by first | exact hr | exact hr.mono (by decide)) (by rfl) (pa_cons (pv 0) (pa_cons pe_int pa_nil))) (fun _ _ => rfl)) (pa_cons (pe_cal C_law_dip (by first | exact hr | exact hr.mono (by decide)) (by rfl) (pa_cons (pv 0) (pa_cons pe_int pa_nil))) pa_nil)) (by rfl)) (pss_cons (ps_set (i := 9) sc_law_names.nd rfl (Or.inl rfl) (pe_join pe_str (pe_lc (own := [("turn", 8)]) rfl sc_law_names.nd (pi_range1 rfl T.range (pa_cons (pv 6) pa_nil)) (blkOk_by (own := [("turn", 8)]) (N := ["sack", "many_here", "letters", "found", "first", "k", "size", "way", "turn", "rest", "name", "at", "spot"]) (sc := defScope s_law_names) (by decide +kernel)) (fun _ _ _ _ _ => (pg_name (i := 8) sc_law_names.nd rfl (Or.inl rfl))) (fun _ _ _ _ _ => pts_nil) (fun _ _ _ _ _ => (pe_ix ix_str (pv 2) (pe_cal C_law_dip (by first | exact hr | exact hr.mono (by decide)) (by rfl) (pa_cons (pv 0) (pa_cons pe_int pa_nil))) (fun _ _ => rfl)))))) (pss_cons (ps_set (i := 10) sc_law_names.nd rfl (Or.inl rfl) (pe_op op_addS (pe_ix ix_str (pv 2) (pe_op op_add (pe_op op_add (pv 4) (pe_op op_mul pe_int (pe_callB (call_min2 rfl) (by rfl) T.min (by decide +kernel) (pa_cons (pv 5) (pa_cons pe_int pa_nil))))) (pe_cal C_law_dip (by first | exact hr | exact hr.mono (by decide)) (by rfl) (pa_cons (pv 0) (pa_cons pe_int pa_nil)))) (fun _ _ => rfl)) (pv 9))) (pss_cut (ps_if (PW.pt (pw_and (pt_cmpR (op_neDK (K := K) rfl (hu64 hr)) (pv 3) (pe_lst pa_nil) (nomark _)) (pw_and (pt_cmpR op_eq (pv 7) pe_int (nomark _)) (pw_and1 (pt_cmpR op_lt (pe_callB call_len_str (by rfl) T.len (by decide +kernel) (pa_cons (pe_ix (ix_listK (K := K) rfl) (pv 3) (pe_un un_neg pe_int) (fun _ _ => rfl)) pa_nil)) pe_int (nomark _)))))) (pss_one (ps_set (i := 10) sc_law_names.nd rfl (Or.inl rfl) (pe_op op_addS (pe_ix (ix_listK (K := K) rfl) (pv 3) (pe_un un_neg pe_int) (fun _ _ => rfl)) (pe_ix ix_str (pv 2) (pe_cal C_law_dip (by first | exact hr | exact hr.mono (by decide)) (by rfl) (pa_cons (pv 0) (pa_cons pe_int pa_nil))) (fun _ _ => rfl))))) pss_nil) (pss_cut (ps_if (PW.pt (pw_and (pt_cmpR (op_neDK (K := K) rfl (hu64 hr)) (pv 3) (pe_lst pa_nil) (nomark _)) (pw_and1 (pt_cmpR (op_in_seqK (K := K) rfl) (pv 7) (pe_tup (pa_cons pe_int (pa_cons pe_int pa_nil))) (by rfl))))) (pss_cons (ps_set (i := 11) sc_law_names.nd rfl (Or.inr rfl) (pe_callB (call_min2 rfl) (by rfl) T.min (by decide +kernel) (pa_cons (pe_op op_sub (pe_callB call_len_str (by rfl) T.len (by decide +kernel) (pa_cons (pe_ix (ix_listK (K := K) rfl) (pv 3) (pe_un un_neg pe_int) (fun _ _ => rfl)) pa_nil)) pe_int) (pa_cons (pe_op op_add pe_int (pe_cal C_law_dip (by first | exact hr | exact hr.mono (by decide)) (by rfl) (pa_cons (pv 0) (pa_cons pe_int pa_nil)))) pa_nil)))) (pss_cons (ps_set (i := 12) sc_law_names.nd rfl (Or.inl rfl) (pe_ix (ix_listK (K := K) rfl) (pe_lc (own := [("turn", 8)]) rfl sc_law_names.nd (pi_range1 rfl T.range (pa_cons pe_int pa_nil)) (blkOk_by (own := [("turn", 8)]) (N := ["sack", "many_here", "letters", "found", "first", "k", "size", "way", "turn", "rest", "name", "at", "spot"]) (sc := defScope s_law_names) (by decide +kernel)) (fun _ _ _ _ _ => (pg_name (i := 8) sc_law_names.nd rfl (Or.inl rfl))) (fun _ _ _ _ _ => (pts_one (pt_cmpR op_eq (pe_ix ix_str (pv 2) (pv 8) (fun _ _ => rfl)) (pe_ix ix_str (pe_ix (ix_listK (K := K) rfl) (pv 3) (pe_un un_neg pe_int) (fun _ _ => rfl)) (pv 11) (fun _ _ => rfl)) (nomark _)))) (fun _ _ _ _ _ => (pv 8))) pe_int (fun _ _ => rfl))) (pss_cons (ps_set (i := 9) sc_law_names.nd rfl (Or.inl rfl) (pe_ifExp (pt_cmpR op_eq (pv 7) pe_int (nomark _)) (pe_slice sl_str (pe_ix (ix_listK (K := K) rfl) (pv 3) (pe_un un_neg pe_int) (fun _ _ => rfl)) (po_some (pe_op op_add (pv 11) pe_int)) po_none) (pe_slice sl_str (pv 9) po_none (po_some (pe_op op_sub pe_int (pv 11)))))) (pss_one (ps_set (i := 10) sc_law_names.nd rfl (Or.inl rfl) (pe_ifExp (pt_cmpR op_lt (pv 12) pe_int (nomark _)) (pe_op op_addS (pe_op op_addS (pe_slice sl_str (pe_ix (ix_listK (K := K) rfl) (pv 3) (pe_un un_neg pe_int) (fun _ _ => rfl)) po_none (po_some (pv 11))) (pe_ix ix_str (pv 2) (pe_op op_add (pv 12) pe_int) (fun _ _ => rfl))) (pv 9)) (pv 10))))))) pss_nil) (pss_one (ps_expr (pe_bm PySem.F.plainAttrs_list PySem.F.slot_list_append PySem.F.type_list_append mt_append (pv 3) (pa_cons (pe_ifExp (pt_cmpR op_eq (pv 10) pe_str (nomark _)) pe_str (pv 10)) pa_nil)))))))))) (pss_one (ps_ret (pe_callTy call_tupleF (by rfl) T.tuple (by decide +kernel) (pa_cons (pv 3) pa_nil)))))), ?_⟩
    -- letters, found, first = ..
    refine ⟨Nat.zero_le _, fun l hl => ?_⟩
    have R0 : Run p n (but H0 p) H0 := ⟨Ex.refl _, hsk⟩
    obtain ⟨hBl, hlp⟩ := R0.fresh hl
    refine st_dip (B := but H0 p) (n := n) (b := 6) rfl ev_c (by decide) (by decide) (R0.upd hBl hlp) (by unfold LIM; omega) fun first H1 f0 f1 R1 e1 => ?_
    have hl1 : H1 l = some (.lst []) := kept e1 upd_same hlp
    refine ⟨by show 3 ≤ sizeLine; decide, fun t ht => ?_⟩
    refine ⟨t, _, rfl, st_of upd_same, rfl, _, _, rfl, _, _, rfl, _, _, rfl, rfl, ?_⟩
    have R2 := R1.on (Ex.new (o := .tup [.str AL, .ref l, .int first]) ht)
    have hlt : l ≠ t := ne_of_none hl1 ht
    refine q_forR1 (n := (m : Int)) (ea_cons (ev_var rfl) ea_nil) (by omega) (fun i σ' H' => ∃ x5 x6 x7 x8 x9 x10 x11 x12 es, σ' = [some (.ref p), some (.int (m : Int)), some (.str AL), some (.ref l), some (.int first), x5, x6, x7, x8, x9, x10, x11, x12] ∧
        Run p (n + 1 + 13 * i) (but H0 p) H' ∧ H' l = some (.lst (es.map V.str)) ∧ es.length = i ∧ Names first es) (fun H3 e3 => ⟨none, none, none, none, none, none, none, none, [], rfl, R2.on e3, e3 _ _ (by rw [upd_ne hlt]; exact hl1), rfl, Names.nil _⟩) ?_ ?_
    · -- a turn
      rintro i σ' H3 hi ⟨x5, x6, x7, x8, x9, x10, x11, x12, es, rfl, R, hL, hlen, N⟩
      have hi7 : i < 7 := by omega
      have hlet : ∀ e ∈ es, lets (cp e) = true := fun e he => (of_isName (N.nam e he)).2.1
      have hle8 : ∀ e ∈ es, (cp e).length ≤ 8 := fun e he => (of_isName (N.nam e he)).2.2.2
      -- size, way = ..
      refine st_dip (B := but H0 p) (b := 8) rfl ev_c (by decide) (by decide) R (by unfold LIM; omega) fun r8 H4 a0 a1 R4 e4 => ?_
      refine ⟨by show 4 ≤ sizeLine; decide, fun u hu => ?_⟩
      obtain ⟨hBu, hup⟩ := R4.fresh hu
      refine st_dip (B := but H0 p) (b := 4) rfl ev_c (by decide) (by decide) (R4.upd hBu hup) (by unfold LIM; omega) fun r4 H5 b0 b1 R5 e5 => ?_
      have hlu : l ≠ u := ne_of_none (kept e4 hL hlp) hu
      have hL5 : H5 l = some (.lst (es.map V.str)) := kept e5 (by rw [upd_ne hlu]; exact kept e4 hL hlp) hlp
      have hu5 : H5 u = some (.lst [.int 0, .int 1, .int 1, .int r8]) := kept e5 upd_same hup
      obtain ⟨z, hz7, hz⟩ : ∃ z : Nat, z ≤ 7 ∧ atI [V.int 0, .int 1, .int 1, .int r8] r4 = some (.int (z : Int)) := by
        have h4 : r4 = 0 ∨ r4 = 1 ∨ r4 = 2 ∨ r4 = 3 := by omega
        rcases h4 with rfl | rfl | rfl | rfl
        · exact ⟨0, by omega, rfl⟩
        · exact ⟨1, by omega, rfl⟩
        · exact ⟨1, by omega, rfl⟩
        · refine ⟨r8.toNat, by omega, ?_⟩
          have : ((r8.toNat : Nat) : Int) = r8 := by omega
          rw [this]
          rfl
      refine ⟨u, _, r4, _, rfl, rfl, sq_of hu5, hz, ?_⟩
      refine st_dip (B := but H0 p) (b := 6) rfl ev_c (by decide) (by decide) R5 (by unfold LIM; omega) fun way H6 c0 c1 R6 e6 => ?_
      refine ⟨_, _, rfl, ?_⟩
      -- rest = ..
      refine q_any (st_word (K := K) (B := but H0 p) (il := 2) (isk := 0) (isz := 6) (it := 8) rfl rfl rfl hz7 (by decide) (by decide) (by intro x; rfl) R6 (by unfold LIM; omega) fun rest H7 w1 w2 R7 e7 => ?_)
      have hL7 : H7 l = some (.lst (es.map V.str)) := kept e7 (kept e6 hL5 hlp) hlp
      -- name = ..
      refine ⟨.str AL, rfl, ?_⟩
      have emin : Ev (tCB (fun xs H Q => ∃ i j, xs = [.int i, .int j] ∧ Q (.int (if j < i then j else i)) H) (tCons (tVar 5) (tCons (tC (.int 6)) tNil))) [some (.ref p), some (.int (m : Int)), some (.str AL), some (.ref l), some (.int first), some (.int (i : Int)), some (.int (z : Int)), some (.int way), x8, some (.str rest), x10, x11, x12] H7 (.int (i : Int)) :=
        ev_callB (ea_cons (ev_var rfl) (ea_cons ev_c ea_nil)) fun _ _ q => ⟨(i : Int), 6, rfl, by rw [if_neg (by omega)]; exact q⟩
      refine ev_add (ev_var rfl) (ev_mulL ev_c emin ⟨by decide, by decide⟩) H7 (Ex.refl _) _ fun H8 e8 => ?_
      refine st_dip (B := but H0 p) (b := 3) rfl ev_c (by decide) (by decide) (R7.on e8) (by unfold LIM; omega) fun r3 H9 d0 d1 R9 e9 => ?_
      have hL9 : H9 l = some (.lst (es.map V.str)) := kept e9 (e8 _ _ hL7) hlp
      refine ⟨_, _, rfl, rfl, AL, _, _, rfl, rfl, by rw [len_AL]; decide, at_AL (by omega) (by omega), .str rest, rfl, ⟨#[97 + (first + 3 * (i : Int) + r3).toNat]⟩, rest, rfl, rfl, ?_, ?_⟩
      · have : rest.length = z := by rw [← cp_len, w1]
        show 1 + rest.length ≤ sizeLine
        exact sz_of (by omega)
      have C0 : Cand first es ((⟨#[97 + (first + 3 * (i : Int) + r3).toNat]⟩ : Str) ++ rest) := cand_new N (c := 97 + (first + 3 * (i : Int) + r3).toNat) (by rw [cp_app]; rfl) (by omega) (by omega) (by omega) (by omega) w2 (by omega)
      generalize ((⟨#[97 + (first + 3 * (i : Int) + r3).toNat]⟩ : Str) ++ rest) = y0 at C0 ⊢
      -- the first if
      refine q_cut (M := fun σ' H' => ∃ y, σ' = [some (.ref p), some (.int (m : Int)), some (.str AL), some (.ref l), some (.int first), some (.int (i : Int)), some (.int (z : Int)), some (.int way), x8, some (.str rest), some (.str y), x11, x12] ∧
          Run p (n + 1 + 13 * i + 12) (but H0 p) H' ∧ H' l = some (.lst (es.map V.str)) ∧ Cand first es y) ?_ ?_
      · by_cases hes : es = []
        · refine s_when (b := false) (et_is (et_and (b := true) (et_test (ev_neNil (ev_var rfl) hL9 hlet)) fun h => ?_) (by rw [hes]; rfl)) (fun h => nomatch h) fun _ H10 e10 => ⟨y0, rfl, (R9.on e10).mono (by omega), e10 _ _ hL9, C0⟩
          rw [hes] at h
          cases h
        · obtain ⟨e, he1, he2⟩ := last_of hes
          have hem := List.mem_of_getLast? he1
          have he8 : e.length ≤ 8 := by rw [← cp_len]; exact hle8 e hem
          refine s_when (et_and (et_test (ev_neNil (ev_var rfl) hL9 hlet)) fun _ => et_and (et_test (ev_opD (K := K) (ed_of (ev_var rfl) (.int way)) (ed_of ev_c (.int 0)) rd_eqI)) fun _ => et_test (ev_op (ev_lenStr (ev_last (ev_var rfl) hL9 he2) (by omega)) ev_c rv_I0)) (fun hb H10 e10 => ?_) fun _ H10 e10 => ⟨y0, rfl, (R9.on e10).mono (by omega), e10 _ _ hL9, C0⟩
          have h8 : (e.length : Int) < 8 := by
            rw [Bool.and_eq_true, Bool.and_eq_true, decide_eq_true_eq, decide_eq_true_eq] at hb
            exact hb.2.2
          have hL10 := e10 _ _ hL9
          refine ev_last (ev_var rfl) hL10 he2 H10 (Ex.refl _) _ fun H11 e11 => ?_
          refine ⟨.str AL, rfl, ?_⟩
          refine st_dip (B := but H0 p) (b := 26) rfl ev_c (by decide) (by decide) ((R9.on e10).on e11) (by unfold LIM; omega) fun r H12 g0 g1 R12 e12 => ?_
          refine ⟨AL, r, _, rfl, rfl, by rw [len_AL]; decide, at_AL g0 g1, e, ⟨#[97 + r.toNat]⟩, rfl, rfl, ?_, ?_⟩
          · show e.length + 1 ≤ sizeLine
            exact sz_of (by omega)
          · exact ⟨_, rfl, R12.mono (by omega), kept e12 (e11 _ _ hL10) hlp, cand_more N he1 (by rw [cp_app]) (by omega) (by omega) (by rw [cp_len]; omega)⟩
      · rintro σ' H10 ⟨y1, rfl, R10, hL10, C1⟩
        -- the second if
        refine q_cut (M := fun σ' H' => ∃ y x8 x9 x11 x12, σ' = [some (.ref p), some (.int (m : Int)), some (.str AL), some (.ref l), some (.int first), some (.int (i : Int)), some (.int (z : Int)), some (.int way), x8, x9, some (.str y), x11, x12] ∧
            Run p (n + 1 + 13 * i + 13) (but H0 p) H' ∧ H' l = some (.lst (es.map V.str)) ∧ Cand first es y) ?_ ?_
        · by_cases hes : es = []
          · refine s_when (b := false) (et_is (et_and (b := true) (et_test (ev_neNil (ev_var rfl) hL10 hlet)) fun h => ?_) (by rw [hes]; rfl)) (fun h => nomatch h) fun _ H11 e11 => ⟨y1, _, _, _, _, rfl, (R10.on e11).mono (by omega), e11 _ _ hL10, C1⟩
            rw [hes] at h
            cases h
          · obtain ⟨e, he1, he2⟩ := last_of hes
            have hem := List.mem_of_getLast? he1
            have hq := of_isName (N.nam e hem)
            have hlenE : (cp e).length = e.length := cp_len e
            have he8 : e.length ≤ 8 := by rw [← cp_len]; exact hle8 e hem
            refine s_when (et_and (et_test (ev_neNil (ev_var rfl) hL10 hlet)) fun _ => et_test (ev_inU (ev_var rfl) (eu_tup (ea_cons ev_c (ea_cons ev_c ea_nil)) (by show 2 ≤ 100000; decide)) rfl rfl)) (fun hb H11 e11 => ?_) fun _ H11 e11 => ⟨y1, _, _, _, _, rfl, (R10.on e11).mono (by omega), e11 _ _ hL10, C1⟩
            have hL11 := e11 _ _ hL10
            -- at = ..
            refine ev_sub (ev_lenStr (ev_last (ev_var rfl) hL11 he2) (by omega)) ev_c H11 (Ex.refl _) _ fun H12 e12 => ?_
            refine st_dip (B := but H0 p) (b := 8) rfl ev_c (by decide) (by decide) ((R10.on e11).on e12) (by unfold LIM; omega) fun r H13 g0 g1 R13 e13 => ?_
            refine ⟨1, r, rfl, rfl, (e.length : Int) - 1, 1 + r, rfl, ?_⟩
            have hL13 : H13 l = some (.lst (es.map V.str)) := kept e13 (e12 _ _ hL11) hlp
            have hlo : 1 ≤ e.length := by rw [← cp_len]; exact hq.2.2.1
            obtain ⟨j, hj, ej⟩ : ∃ j : Nat, j < e.length ∧ (if 1 + r < (e.length : Int) - 1 then 1 + r else (e.length : Int) - 1) = (j : Int) := by
              by_cases h : 1 + r < (e.length : Int) - 1
              · rw [if_pos h]; exact ⟨(1 + r).toNat, by omega, by omega⟩
              · rw [if_neg h]; exact ⟨e.length - 1, by omega, by omega⟩
            rw [ej]
            have hj2 : j < (cp e).length := by omega
            obtain ⟨c, hc⟩ : ∃ c, (cp e)[j]? = some c := ⟨_, List.getElem?_eq_getElem hj2⟩
            have hcl : 97 ≤ c ∧ c ≤ 122 := by
              have h := hq.2.1
              unfold lets at h
              rw [List.all_eq_true] at h
              have h2 := h c (List.mem_of_getElem? hc)
              rw [Bool.and_eq_true, decide_eq_true_eq, decide_eq_true_eq] at h2
              exact h2
            have hsplit : cp e = (cp e).take j ++ c :: (cp e).drop (j + 1) := by
              obtain ⟨h1, h2⟩ := List.getElem?_eq_some_iff.mp hc
              rw [← h2, ← List.drop_eq_getElem_cons h1, List.take_append_drop]
            -- spot = ..
            refine q_asgD (K := K) (ed_ixL 0 (d := .int ((c - 97 : Nat) : Int)) (ed_n (en_lcR 26 (fun t => decide (97 + t = c)) (fun t => .int (t : Int)) (ea_cons ev_c ea_nil) rfl ⟨by decide, by decide⟩ (fun _ _ => rfl) fun t H14 e14 ht => ?_)) ev_c rfl (pick26 hcl.1 hcl.2)) fun v14 H14 e14 hv => ?_
            · refine ⟨_, ?_, goes_name, ?_, fun _ => ed_of (ev_var rfl) (.int _)⟩
              · rfl
              · have ht26 : (cp AL)[t]? = some (97 + t) := by
                  rw [cp_AL, List.getElem?_map, List.getElem?_range ht]
                  rfl
                have hl14 := e14 _ _ hL13
                refine et_is (et_test (ev_opD (K := K) (ed_of (ev_ixS t (ev_var rfl) (ev_var rfl) (by rw [len_AL]; decide) rfl ht26) (.str _)) (ed_of (ev_ixS j (ev_last (ev_var rfl) hl14 he2) (ev_var rfl) (by omega) rfl hc) (.str _)) rd_eqS)) one_eq
            · cases hv
              have hL14 := e14 _ _ hL13
              -- rest = ..
              have hrest : ∃ s : Str, lets (cp s) = true ∧ (cp s).length ≤ 7 - j ∧ Ev (tIf (tTest (tOp rEq (tVar 7) (tC (.int 1)))) (tSl rSlS (tOp (rIxL K) (tVar 3) (tUn (rU fun i => .int (-i)) (tC (.int 1)))) (tPart (tOp (rI0 fun i j => .int (i + j)) (tVar 11) (tC (.int 1)))) tNoPart) (tSl rSlS (tVar 9) tNoPart (tPart (tOp (rI0 fun i j => .int (i - j)) (tC (.int 7)) (tVar 11)))))
                  [some (.ref p), some (.int (m : Int)), some (.str AL), some (.ref l), some (.int first), some (.int (i : Int)), some (.int (z : Int)), some (.int way), x8, some (.str rest), some (.str y1), some (.int (j : Int)), some (.int ((c - 97 : Nat) : Int))] H14 (.str s) := by
                by_cases hw1 : way = 1
                · refine ⟨cutS e (some ((j + 1 : Nat) : Int)) none, ?_, ?_, ev_if (b := true) (et_is (et_test (ev_opD (K := K) (ed_of (ev_var rfl) (.int way)) (ed_of ev_c (.int 1)) rd_eqI)) (decide_eq_true hw1)) (fun _ => ?_) fun h => nomatch h⟩
                  · rw [cp_from]; exact lets_drop _ hq.2.1
                  · rw [cp_from, List.length_drop]; omega
                  · have e7 : (((j + 1 : Nat)) : Int) = (j : Int) + 1 := by omega
                    rw [e7]
                    exact ev_slS (ev_last (ev_var rfl) hL14 he2) (eo_some (ev_add (ev_var rfl) ev_c)) eo_none (by omega)
                · refine ⟨cutS rest none (some ((7 - j : Nat) : Int)), ?_, ?_, ev_if (b := false) (et_is (et_test (ev_opD (K := K) (ed_of (ev_var rfl) (.int way)) (ed_of ev_c (.int 1)) rd_eqI)) (decide_eq_false hw1)) (fun h => nomatch h) fun _ => ?_⟩
                  · rw [cp_to]; exact lets_take _ w2
                  · rw [cp_to, List.length_take]; omega
                  · have e7 : (((7 - j : Nat)) : Int) = 7 - (j : Int) := by omega
                    rw [e7]
                    exact ev_slS (ev_var rfl) eo_none (eo_some (ev_sub ev_c (ev_var rfl))) (by rw [← cp_len, w1]; omega)
              obtain ⟨s2, s2l, s2z, hev⟩ := hrest
              refine q_asg hev fun H15 e15 => ?_
              have hL15 := e15 _ _ hL14
              have R15 : Run p (n + 1 + 13 * i + 13) (but H0 p) H15 := ((R13.on e14).on e15).mono (by omega)
              -- name = ..
              by_cases hsp : c - 97 < 25
              · have hc1 : (cp AL)[c - 97 + 1]? = some (c + 1) := by
                  rw [cp_AL, List.getElem?_map, List.getElem?_range (by omega)]
                  show some (97 + (c - 97 + 1)) = some (c + 1)
                  congr 1
                  omega
                have hlen1 : (cutS e none (some (j : Int))).length = j := by
                  rw [← cp_len, cp_to, List.length_take]
                  omega
                have hs2 : s2.length ≤ 7 := by rw [← cp_len]; omega
                refine s_asg (v := .str ((cutS e none (some (j : Int)) ++ (⟨#[c + 1]⟩ : Str)) ++ s2)) (ev_if (b := true) (et_is (et_test (ev_op (ev_var rfl) ev_c rv_I0)) (decide_eq_true (by omega))) (fun _ => ev_addS (ev_addS (ev_slS (ev_last (ev_var rfl) hL15 he2) eo_none (eo_some (ev_var rfl)) (by omega)) (ev_ixS (c - 97 + 1) (ev_var rfl) (ev_add (ev_var rfl) ev_c) (by rw [len_AL]; decide) (by push_cast; rfl) hc1) ?_) (ev_var rfl) ?_) fun h => nomatch h) fun H16 e16 => ⟨_, _, _, _, _, rfl, R15.on e16, e16 _ _ hL15, ?_⟩
                · rw [hlen1]; show j + 1 ≤ 100000; omega
                · have : (cutS e none (some (j : Int)) ++ (⟨#[c + 1]⟩ : Str)).length = j + 1 := by
                    rw [← cp_len, cp_app, List.length_append, cp_len, hlen1]
                    rfl
                  omega
                · refine cand_up N he1 hsplit (s := cp s2) ?_ (by omega) s2l ?_
                  · rw [cp_app, cp_app, cp_to, List.append_assoc]
                    rfl
                  · rw [List.length_take]; omega
              · refine s_asg (v := .str y1) (ev_if (b := false) (et_is (et_test (ev_op (ev_var rfl) ev_c rv_I0)) (decide_eq_false (by omega))) (fun h => nomatch h) fun _ => ev_var rfl) fun H16 e16 => ⟨_, _, _, _, _, rfl, R15.on e16, e16 _ _ hL15, C1⟩
        · rintro σ' H11 ⟨y, x8', x9', x11', x12', rfl, R11, hL11, C2⟩
          -- found.append(..)
          obtain ⟨C3, nm⟩ := C2.fix
          refine s_app hL11 (ev_var rfl) (v := .str (noGo y)) ?_ (by rw [List.length_map]; omega) fun H12 e12 => ?_
          · by_cases hg : y = "go"
            · refine ev_is (ev_if (b := true) (et_is (et_test (ev_opD (K := K) (ed_of (ev_var rfl) (.str y)) (ed_of ev_c (.str "go")) rd_eqS)) (decide_eq_true hg)) (fun _ => ev_c) fun h => nomatch h) ?_
              show V.str "gone" = V.str (noGo y)
              rw [show noGo y = "gone" from if_pos hg]
            · refine ev_is (ev_if (b := false) (et_is (et_test (ev_opD (K := K) (ed_of (ev_var rfl) (.str y)) (ed_of ev_c (.str "go")) rd_eqS)) (decide_eq_false hg)) (fun h => nomatch h) fun _ => ev_var rfl) ?_
              rw [show noGo y = y from if_neg hg]
          · refine ⟨_, _, _, _, _, _, _, _, es ++ [noGo y], rfl, ?_, ?_, ?_, N.snoc C3 nm⟩
            · have h13 : n + 1 + 13 * i + 13 = n + 1 + 13 * (i + 1) := by omega
              rw [← h13]
              exact (R11.on e12).upd hBl hlp
            · rw [upd_same, List.map_append]
              rfl
            · rw [List.length_append, hlen]
              rfl
    · -- return tuple(found)
      rintro σ' H3 ⟨x5, x6, x7, x8, x9, x10, x11, x12, es, rfl, R, hL, hlen, N⟩
      refine ⟨_, rfl, l, es.map V.str, rfl, sq_of hL, fun a o ha hod => ?_⟩
      have hm2 : es.length = m := by omega
      have R3 := R.on (Ex.new (o := .frz o (.tup (es.map V.str))) ha)
      obtain ⟨hBa, hap⟩ := R.fresh ha
      refine q a o es _ hod hm2 N.nam N.asc R3.ex (R3.sk.mono ?_) (by rw [but_ne hap, upd_same])
      omega
end
end Vf
end
section
set_option Elab.async false
set_option linter.all false
set_option maxRecDepth 100000
set_option maxHeartbeats 8000000
namespace Vf
open PySem PySem.Spec PyProof.Rows L2 Evl
theorem upd_old {H : Hp} {a b : Addr} {o u : HO} (h : H a = some o) (hb : H b = none) : upd H b u a = some o := (upd_ne (ne_of_none h hb)).trans h
/-! ### bounds that are drawn -/
abbrev GO1 : List Str := ["go"]
def keyP (x y : Str) : List Key := [.inr x, .inr y]
structure Lims (es : List Str) (kvs : List (List Key × V)) : Prop where
  form : ∀ k v, (k, v) ∈ kvs → ∃ x y i, k = keyP x y ∧ v = .int i ∧ isPlace es (.str x) = true ∧ isPlace es (.str y) = true ∧ x ≠ y ∧ i ≤ 200
  uniq : (kvs.map (·.1)).Nodup
theorem putT_keys {kvs : List (List Key × V)} {k : List Key} {v : V} (h : (kvs.map (·.1)).Nodup) : ((putK kvs k v).map (·.1)).Nodup := by
  unfold putK
  split
  · rw [List.map_map]
    have e : kvs.map ((fun x => x.1) ∘ fun kv : List Key × V => if kv.1 = k then (kv.1, v) else kv) = kvs.map (·.1) := by
      refine List.map_congr_left fun p _ => ?_
      show (if p.1 = k then (p.1, v) else p).1 = p.1
      split <;> rfl
    rw [e]
    exact h
  · rename_i hn
    rw [List.map_append, List.map_cons, List.map_nil, List.nodup_append]
    refine ⟨h, by simp, fun a ha b hb => ?_⟩
    have hbk : b = k := by simpa using hb
    subst hbk
    intro hab
    subst hab
    obtain ⟨p, hp, e⟩ := List.mem_map.mp ha
    exact hn (List.any_eq_true.mpr ⟨p, hp, decide_eq_true e⟩)
theorem putT_mem {kvs : List (List Key × V)} {k k' : List Key} {v v' : V} (h : (k', v') ∈ putK kvs k v) : (k', v') ∈ kvs ∨ (k' = k ∧ v' = v) := by
  unfold putK at h
  split at h
  · obtain ⟨p, hp, e⟩ := List.mem_map.mp h
    split at e
    · rename_i hk
      cases e
      exact .inr ⟨hk, rfl⟩
    · subst e
      exact .inl hp
  · rcases List.mem_append.mp h with h | h
    · exact .inl h
    · cases List.mem_singleton.mp h
      exact .inr ⟨rfl, rfl⟩
theorem Lims.nil (es : List Str) : Lims es [] := ⟨fun k v h => (by cases h), List.nodup_nil⟩
theorem Lims.put {es : List Str} {kvs : List (List Key × V)} (L : Lims es kvs) {x y : Str} {i : Int} (hx : isPlace es (.str x) = true) (hy : isPlace es (.str y) = true) (hn : x ≠ y) (hi : i ≤ 200) : Lims es (putK kvs (keyP x y) (.int i)) :=
  ⟨fun k v h => by
    rcases putT_mem h with h | ⟨h1, h2⟩
    · exact L.form k v h
    · exact ⟨x, y, i, h1, h2, hx, hy, hn, hi⟩, putT_keys L.uniq⟩
theorem place_of {es : List Str} {x : Str} (h : x ∈ es ++ GO1) : isPlace es (.str x) = true := by
  show (decide (x = "go") || decide (x ∈ es)) = true
  rcases List.mem_append.mp h with h | h
  · rw [decide_eq_true h, Bool.or_true]
  · rw [decide_eq_true (List.mem_singleton.mp h), Bool.true_or]
def firstS : List Key → Str | .inr x :: _ => x | _ => ""
def secS : List Key → Str | _ :: .inr y :: _ => y | _ => ""
def pairD (k : List Key) : PyData := .tuple [.str (firstS k), .str (secS k)]
def valI : V → Int | .int i => i | _ => 0
def limD (kv : List Key × V) : PyData := .tuple [.str (firstS kv.1), .str (secS kv.1), .int (valI kv.2)]
theorem toks_pair {a b : List Key} (h : PySem.W.keyToks (pairD a) = PySem.W.keyToks (pairD b)) : firstS a = firstS b ∧ secS a = secS b := by
  simp [pairD, PySem.W.keyToks, PySem.W.keyToksAll] at h
  exact ⟨cp_inj (congrArg Array.toList h.1), cp_inj (congrArg Array.toList h.2)⟩
theorem Lims.bounds {es : List Str} {kvs ks : List (List Key × V)} (L : Lims es kvs) (hp : ks.Perm kvs) (hs : (ks.map fun kv => pairD kv.1).Pairwise fun a b => PySem.W.dataLt b a = false) : areBounds es (.tuple (ks.map limD)) = true := by
  have a1 : (ks.map limD).all (isBound es) = true := List.all_eq_true.mpr fun d hd => by
    obtain ⟨⟨k, v⟩, hkv, rfl⟩ := List.mem_map.mp hd
    obtain ⟨x, y, i, rfl, rfl, hx, hy, hn, _⟩ := L.form k v (hp.mem_iff.mp hkv)
    show (isPlace es (.str x) && (isPlace es (.str y) && (!decide (x = y) && true))) = true
    rw [hx, hy, decide_eq_false hn]
    rfl
  have e2 : (ks.map limD).map cut2 = ks.map fun kv => pairD kv.1 := by
    rw [List.map_map]
    rfl
  have a2 : ascD ((ks.map limD).map cut2) = true := by
    rw [e2]
    refine asc_of _ hs ?_
    rw [List.pairwise_map]
    have hN : (ks.map (·.1)).Nodup := ((hp.map (·.1)).nodup_iff).mpr L.uniq
    have hN2 : ks.Pairwise fun a b => a.1 ≠ b.1 := by
      unfold List.Nodup at hN
      rw [List.pairwise_map] at hN
      exact hN
    refine hN2.imp_of_mem fun {a b} ha hb hab hk => ?_
    obtain ⟨x, y, _, ea, _⟩ := L.form a.1 a.2 (hp.mem_iff.mp ha)
    obtain ⟨x', y', _, eb, _⟩ := L.form b.1 b.2 (hp.mem_iff.mp hb)
    rw [ea, eb] at hk
    obtain ⟨h1, h2⟩ := toks_pair hk
    have h1' : x = x' := h1
    have h2' : y = y' := h2
    subst h1' h2'
    exact hab (ea.trans eb.symm)
  show ((ks.map limD).all (isBound es) && ascD ((ks.map limD).map cut2)) = true
  rw [a1, a2]
  rfl
def topOk : PyData → Prop | .tuple [_, _, .int i] => i ≤ 200 | _ => False
theorem Lims.tops {es : List Str} {kvs ks : List (List Key × V)} (L : Lims es kvs) (hp : ks.Perm kvs) : ∀ b ∈ ks.map limD, topOk b := fun d hd => by
  obtain ⟨⟨k, v⟩, hkv, rfl⟩ := List.mem_map.mp hd
  obtain ⟨x, y, i, rfl, rfl, hx, hy, hn, hi⟩ := L.form k v (hp.mem_iff.mp hkv)
  exact hi
abbrev spLimits (K : PySem.W.Frag) : Sp := fun vs H Q _ => ∃ (p u : Addr) (es : List Str) (m n : Nat) (g : Int), vs = [.ref p, .ref u, .int (m : Int), .int g] ∧ SqT K (but H p) u (es.map V.str) ∧ es.length ≤ 900 ∧ m ≤ 30 ∧ 0 ≤ g ∧ g ≤ 200 ∧ SackAt H p n ∧ n + 200 < LIM ∧
  ∀ (a : Addr) (bs : List PyData) (H' : Hp), bs.length ≤ m → areBounds es (.tuple bs) = true → (∀ b ∈ bs, topOk b) → Ex (but H p) (but H' p) → SackAt H' p (n + 5 * m) → Dp K (but H' p) (.ref a) (.tuple bs) → Q (.ref a) H'
/-- what the sorted keys are, with their values -/
theorem keys_back {K : PySem.W.Frag} {H : Hp} {kvs : List (List Key × V)} {bs : List Addr} (hk : IsKeys H kvs bs) {qs : List (V × PyData)} (hp : qs.Perm ((bs.map V.ref).zip (kvs.map fun kv => pairD kv.1))) :
    ∃ rs : List (Addr × (List Key × V)), qs = rs.map (fun r => (V.ref r.1, pairD r.2.1)) ∧ (rs.map (·.2)).Perm kvs ∧ ∀ r ∈ rs, H r.1 = some (.tup (r.2.1.map kV)) := by
  have e1 : ∀ {kvs : List (List Key × V)} {bs : List Addr}, IsKeys H kvs bs → (bs.map V.ref).zip (kvs.map fun kv => pairD kv.1) = (bs.zip kvs).map (fun r => (V.ref r.1, pairD r.2.1)) ∧ (bs.zip kvs).map (·.2) = kvs ∧ ∀ r ∈ bs.zip kvs, H r.1 = some (.tup (r.2.1.map kV)) := by
    intro kvs bs h
    unfold IsKeys at h
    induction h with
    | nil => exact ⟨rfl, rfl, fun r hr => by cases hr⟩
    | @cons a b l m hab _ ih =>
      obtain ⟨i1, i2, i3⟩ := ih
      refine ⟨?_, ?_, fun r hr => ?_⟩
      · rw [List.map_cons, List.map_cons, List.zip_cons_cons, i1]
        rfl
      · rw [List.zip_cons_cons, List.map_cons, i2]
      · rw [List.zip_cons_cons] at hr
        cases hr with
        | head => exact hab
        | tail _ hr => exact i3 r hr
  obtain ⟨g1, g2, g3⟩ := e1 hk
  rw [g1] at hp
  have lift : ∀ {α β : Type} (f : α → β) {l : List β} {m : List α}, l.Perm (m.map f) → ∃ r : List α, l = r.map f ∧ r.Perm m := by
    intro α β f l m h
    generalize e : m.map f = t at h
    induction h generalizing m with
    | nil =>
      cases m with
      | nil => exact ⟨[], rfl, .nil⟩
      | cons _ _ => cases e
    | cons x _ ih =>
      cases m with
      | nil => cases e
      | cons a m =>
        rw [List.map_cons] at e
        injection e with e1 e2
        obtain ⟨r, hr, hp⟩ := ih e2
        exact ⟨a :: r, by rw [List.map_cons, ← hr, e1], .cons a hp⟩
    | swap x y l =>
      match m, e with
      | a :: b :: m, e =>
        rw [List.map_cons, List.map_cons] at e
        injection e with e1 e2
        injection e2 with e2 e3
        exact ⟨b :: a :: m, by rw [List.map_cons, List.map_cons, e1, e2, e3], .swap a b m⟩
    | trans _ _ ih1 ih2 =>
      obtain ⟨r, hr, hp⟩ := ih2 e
      obtain ⟨r2, hr2, hp2⟩ := ih1 hr.symm
      exact ⟨r2, hr2, hp2.trans hp⟩
  obtain ⟨rs, hrs, hpm⟩ := lift _ hp
  refine ⟨rs, hrs, ?_, fun r hr => g3 r (hpm.mem_iff.mp hr)⟩
  have h2 := hpm.map (·.2)
  rw [g2] at h2
  exact h2
theorem valT_of {kvs : List (List Key × V)} (hN : (kvs.map (·.1)).Nodup) {k : List Key} {v : V} (h : (k, v) ∈ kvs) : valV kvs k = some v := by
  cases e : valV kvs k with
  | none => have := valV_isSome h; rw [e] at this; cases this
  | some v' =>
    have h2 := valV_mem e
    have inj : ∀ l : List (List Key × V), (l.map (·.1)).Nodup → (k, v) ∈ l → (k, v') ∈ l → v' = v := by
      intro l
      induction l with
      | nil => exact fun _ h => by cases h
      | cons p r ih =>
        intro hN h1 h2
        rw [List.map_cons, List.nodup_cons] at hN
        cases h1 with
        | head => cases h2 with
          | head => rfl
          | tail _ h2 => exact absurd (List.mem_map.mpr ⟨_, h2, rfl⟩) hN.1
        | tail _ h1 => cases h2 with
          | head => exact absurd (List.mem_map.mpr ⟨_, h1, rfl⟩) hN.1
          | tail _ h2 => exact ih hN.2 h1 h2
    rw [inj kvs hN h h2]
theorem q_forRdip {σ : L2.St} {H B : Hp} {p : Addr} {n i j : Nat} {tb : TE} {b : Int} {E : XK} {tu tz : TS} {D : Ends} (hi : σ[i]? = some (some (.ref p))) (hb : Ev tb σ H (.int b)) (h1 : 1 ≤ b) (h2 : b ≤ 1000) (R : Run p n B H) (hn : n < LIM)
    (k : ∀ (r : Int) (H' : Hp), 0 ≤ r → r < b → Run p (n + 1) B H' → Ex (but H p) (but H' p) → tSeq (tFor (iRng1 (tCons (tC (.int r)) tNil)) (gName j) tu) tz D σ H') : tSeq (tFor (iRng1 (tCons (tCall spDip [] E (tCons (tVar i) (tCons tb tNil))) tNil)) (gName j) tu) tz D σ H :=
  st_dip hi hb h1 h2 R hn fun r H' r0 r1 R' e => k r H' r0 r1 R' e
section
variable {P : Program} {w : World} {K : PySem.W.Frag} {mg : Str → Option Value} {base : Heap} {tg : Tok} {f : Addr} {fd : FuncData}
abbrev s_law_limits : Stmt := topS 81
theorem sc_law_limits : FnScope ["sack", "points", "many_here", "great", "known", "spots", "k", "left", "right", "pair"] ["sack", "points", "many_here", "great"] (defScope s_law_limits) := ⟨rfl, rfl, rfl, by decide +kernel, rfl, by decide +kernel, by decide +kernel⟩
theorem ok_law_limits (F : Fun K "_law_limits" "_law_limits" s_law_limits f fd) (T : Txt mg tg) (C_law_dip : Cal P w K mg base 1 "_law_dip" ["sack", "below"] spDip) : FnOk P w K mg base CX0 2 f fd ["sack", "points", "many_here", "great"] (spLimits K) := by
  refine F.ok sc_law_limits (fun vs H Q E h => ?_) (fun cdv A outer s H0 vs Q E hr h => ?_)
  · obtain ⟨p, u, es, m, n, g, rfl, _⟩ := h
    rfl
  · obtain ⟨p, u, es, m, n, g, rfl, hu, hz, hm, g1, g2, hsk, hn, q⟩ := h
    have hn' : n + 200 < 100000 := hn
    refine ⟨_, (pss_cons (ps_asg (pe_tup (pa_cons pe_dnewT (pa_cons (pe_op op_cat (pe_callTy call_list_of (by rfl) T.list (by decide +kernel) (pa_cons (pv 1) pa_nil)) (pe_lst (pa_cons pe_str pa_nil))) pa_nil))) (pg_tupK (K := K) (n := 2) rfl rfl (pgs_cons (pg_name (i := 4) sc_law_limits.nd rfl (Or.inr rfl)) (pgs_cons (pg_name (i := 5) sc_law_limits.nd rfl (Or.inl rfl)) pgs_nil)))) (pss_cons (ps_for PassesOwn.never rfl (pi_range1 rfl T.range (pa_cons (pv 2) pa_nil)) (pg_name (i := 6) sc_law_limits.nd rfl (Or.inl rfl)) (pss_cons (ps_par (i := 7) (j := 8) rfl sc_law_limits.nd rfl rfl (by decide) rfl rfl (pa_cons (pe_ix (ix_listK (K := K) rfl) (pv 5) (pe_cal C_law_dip (by first | exact hr | exact hr.mono (by decide)) (by rfl) (pa_cons (pv 0) (pa_cons (pe_callB (call_len_seqK (K := K) rfl) (by rfl) T.len (by decide +kernel) (pa_cons (pv 5) pa_nil)) pa_nil))) (fun _ _ => rfl)) (pa_cons (pe_ix (ix_listK (K := K) rfl) (pv 5) (pe_cal C_law_dip (by first | exact hr | exact hr.mono (by decide)) (by rfl) (pa_cons (pv 0) (pa_cons (pe_callB (call_len_seqK (K := K) rfl) (by rfl) T.len (by decide +kernel) (pa_cons (pv 5) pa_nil)) pa_nil))) (fun _ _ => rfl)) pa_nil)) (by rfl)) (pss_one (ps_if (pt_cmpR op_ne (pv 7) (pv 8) (nomark _)) (pss_one (ps_dput (hu_of hr) (pv 4) (pe_tup (pa_cons (pv 7) (pa_cons (pv 8) pa_nil))) (pe_ix (ix_listK (K := K) rfl) (pe_lst (pa_cons pe_int (pa_cons pe_int (pa_cons (pe_cal C_law_dip (by first | exact hr | exact hr.mono (by decide)) (by rfl) (pa_cons (pv 0) (pa_cons (pe_op op_add (pv 3) pe_int) pa_nil))) (pa_cons (pe_op op_sub pe_int (pe_cal C_law_dip (by first | exact hr | exact hr.mono (by decide)) (by rfl) (pa_cons (pv 0) (pa_cons (pe_op op_add (pv 3) pe_int) pa_nil)))) pa_nil))))) (pe_cal C_law_dip (by first | exact hr | exact hr.mono (by decide)) (by rfl) (pa_cons (pv 0) (pa_cons pe_int pa_nil))) (fun _ _ => rfl)) rfl)) pss_nil)))) (pss_one (ps_ret (pe_callTy call_tuple_of (by rfl) T.tuple (by decide +kernel) (pa_cons (pe_lc (own := [("pair", 9)]) rfl sc_law_limits.nd (pi_listK (K := K) rfl (pe_callB (cr_sortedDK (K := K) rfl (hu100 hr)) (by rfl) T.sorted (by decide +kernel) (pa_cons (pe_callTy (call_list_dT rfl) (by rfl) T.list (by decide +kernel) (pa_cons (pv 4) pa_nil)) pa_nil))) (blkOk_by (own := [("pair", 9)]) (N := ["sack", "points", "many_here", "great", "known", "spots", "k", "left", "right", "pair"]) (sc := defScope s_law_limits) (by decide +kernel)) (fun _ _ _ _ _ => (pg_name (i := 9) sc_law_limits.nd rfl (Or.inl rfl))) (fun _ _ _ _ _ => pts_nil) (fun _ _ _ _ _ => (pe_tup (pa_cons (pe_ix (ix_tupK (K := K) rfl) (pv 9) pe_int (fun _ _ => rfl)) (pa_cons (pe_ix (ix_tupK (K := K) rfl) (pv 9) pe_int (fun _ _ => rfl)) (pa_cons (pe_dget (hu_of hr) (pv 4) (pv 9) (fun _ _ => rfl)) pa_nil)))))) pa_nil)))))), ?_⟩
    have R0 : Run p n (but H0 p) H0 := ⟨Ex.refl _, hsk⟩
    -- known, spots = {}, list(points) + ['go']
    intro kd hkd
    obtain ⟨hBk, hkp⟩ := R0.fresh hkd
    have R1 := R0.upd (o := .dT []) hBk hkp
    refine ⟨.ref u, rfl, u, _, rfl, .inr (ex_t R1.base hu), fun ls hls => ?_⟩
    obtain ⟨hBs, hsp⟩ := R1.fresh hls
    have R2 := R1.upd (o := .lst (es.map V.str)) hBs hsp
    refine ⟨by show 1 ≤ sizeLine; decide, fun lg hlg => ?_⟩
    obtain ⟨hBg, hgp⟩ := R2.fresh hlg
    have R3 := R2.upd (o := .lst [.str "go"]) hBg hgp
    have hsg : ls ≠ lg := fun e => by subst e; rw [upd_same] at hlg; cases hlg
    refine ⟨ls, lg, es.map V.str, [.str "go"], rfl, rfl, by rw [upd_ne hsg, upd_same], upd_same, sz_of (by rw [List.length_map]; show es.length + 1 ≤ 100000; omega), fun sp hspn => ?_⟩
    obtain ⟨hBp, hpp⟩ := R3.fresh hspn
    have R4 := R3.upd (o := .lst (es.map V.str ++ [.str "go"])) hBp hpp
    refine ⟨by show 2 ≤ sizeLine; decide, fun t ht => ?_⟩
    obtain ⟨hBt, htp⟩ := R4.fresh ht
    have R5 := R4.upd (o := .tup [.ref kd, .ref sp]) hBt htp
    refine ⟨t, _, rfl, st_of upd_same, rfl, _, _, rfl, _, _, rfl, rfl, ?_⟩
    have k1 : (upd H0 kd (.dT [])) kd = some (.dT []) := upd_same
    have k5 := upd_old (u := .tup [.ref kd, .ref sp]) (upd_old (u := .lst (es.map V.str ++ [.str "go"])) (upd_old (u := .lst [.str "go"]) (upd_old (u := .lst (es.map V.str)) k1 hls) hlg) hspn) ht
    have hspt : sp ≠ t := fun e => by subst e; rw [upd_same] at ht; cases ht
    have hspots : es.map V.str ++ [.str "go"] = (es ++ GO1).map V.str := by rw [List.map_append]; rfl
    refine q_forR1 (n := (m : Int)) (ea_cons (ev_var rfl) ea_nil) (by omega) (fun i σ' H' => ∃ x6 x7 x8 x9 kvs, σ' = [some (.ref p), some (.ref u), some (.int (m : Int)), some (.int g), some (.ref kd), some (.ref sp), x6, x7, x8, x9] ∧
        Run p (n + 5 * i) (but H0 p) H' ∧ H' kd = some (.dT kvs) ∧ H' sp = some (.lst ((es ++ GO1).map V.str)) ∧ Lims es kvs ∧ kvs.length ≤ i)
      (fun H3 e3 => ⟨none, none, none, none, [], rfl, R5.on e3, e3 _ _ k5, e3 _ _ (by rw [upd_ne hspt, upd_same, hspots]), Lims.nil es, Nat.le_refl _⟩) ?_ ?_
    · rintro i σ' H3 hi ⟨x6, x7, x8, x9, kvs, rfl, R, hk, hS, L, hkl⟩
      have hlS : ((es ++ GO1).length : Int) = (es.length : Int) + 1 := by simp
      -- left, right = ..
      refine ⟨.ref sp, rfl, st_dip (B := but H0 p) (b := ((es ++ GO1).length : Int)) rfl (ev_is (ev_lenL (K := K) (ed_of (ev_var rfl) (Dp.lst (sq_of hS) (dpa_strs _)))) (by rw [List.length_map])) (by omega) (by omega) R (by unfold LIM; omega) fun r1 H4 a0 a1 R4 e4 => ?_⟩
      have hS4 := kept e4 hS hpp
      have hr1 : r1.toNat < (es ++ GO1).length := by omega
      refine ⟨sp, _, r1, .str (es ++ GO1)[r1.toNat], rfl, rfl, sq_of hS4, at_of (j := r1.toNat) (by omega) (by rw [List.getElem?_map, List.getElem?_eq_getElem hr1]; rfl), ?_⟩
      have hx := place_of (List.getElem_mem hr1)
      generalize (es ++ GO1)[r1.toNat] = x at hx ⊢
      refine ⟨.ref sp, rfl, st_dip (B := but H0 p) (b := ((es ++ GO1).length : Int)) rfl (ev_is (ev_lenL (K := K) (ed_of (ev_var rfl) (Dp.lst (sq_of hS4) (dpa_strs _)))) (by rw [List.length_map])) (by omega) (by omega) R4 (by unfold LIM; omega) fun r2 H5 b0 b1 R5 e5 => ?_⟩
      have hS5 := kept e5 hS4 hpp
      have hr2 : r2.toNat < (es ++ GO1).length := by omega
      refine ⟨sp, _, r2, .str (es ++ GO1)[r2.toNat], rfl, rfl, sq_of hS5, at_of (j := r2.toNat) (by omega) (by rw [List.getElem?_map, List.getElem?_eq_getElem hr2]; rfl), ?_⟩
      have hy := place_of (List.getElem_mem hr2)
      generalize (es ++ GO1)[r2.toNat] = y at hy ⊢
      refine ⟨_, _, rfl, ?_⟩
      have f5 := e4.trans e5
      have hk5 := kept f5 hk hkp
      refine s_when (et_test (ev_opD (K := K) (ed_of (ev_var rfl) (.str x)) (ed_of (ev_var rfl) (.str y)) rd_neS)) (fun hb H6 e6 => ?_) fun hb H6 e6 => ⟨_, _, _, _, kvs, rfl, (R5.on e6).mono (by omega), e6 _ _ hk5, e6 _ _ hS5, L, by omega⟩
      have hxy : x ≠ y := by simpa using hb
      -- known[left, right] = [..][..]
      refine st_dip (B := but H0 p) (b := g + 1) rfl (ev_add (ev_var rfl) ev_c) (by omega) (by omega) (R5.on e6) (by unfold LIM; omega) fun r3 H7 c0 c1 R7 e7 => ?_
      refine st_dip (B := but H0 p) (b := g + 1) rfl (ev_add (ev_var rfl) ev_c) (by omega) (by omega) R7 (by unfold LIM; omega) fun r4 H8 d0 d1 R8 e8 => ?_
      refine ⟨_, _, rfl, rfl, by show 4 ≤ sizeLine; decide, fun v hv => ?_⟩
      obtain ⟨hBv, hvp⟩ := R8.fresh hv
      refine st_dip (B := but H0 p) (b := 4) rfl ev_c (by decide) (by decide) (R8.upd hBv hvp) (by unfold LIM; omega) fun r5 H9 g0 g1' R9 e9 => ?_
      have hv9 : H9 v = some (.lst [.int 0, .int 1, .int r3, .int (0 - r4)]) := kept e9 upd_same hvp
      obtain ⟨z, hzv, hz200⟩ : ∃ z : Int, atI [V.int 0, .int 1, .int r3, .int (0 - r4)] r5 = some (.int z) ∧ z ≤ 200 := by
        have h4 : r5 = 0 ∨ r5 = 1 ∨ r5 = 2 ∨ r5 = 3 := by omega
        rcases h4 with rfl | rfl | rfl | rfl
        · exact ⟨0, rfl, by omega⟩
        · exact ⟨1, rfl, by omega⟩
        · exact ⟨r3, rfl, by omega⟩
        · exact ⟨0 - r4, rfl, by omega⟩
      refine ⟨v, _, r5, _, rfl, rfl, sq_of hv9, hzv, .ref kd, rfl, .str x, rfl, .str y, rfl, by show 2 ≤ sizeLine; decide, fun b hb2 => ?_⟩
      have f9 : Ex (but H3 p) (but H9 p) := (f5.trans (but_mono e6)).trans ((e7.trans e8).trans ((but_mono (Ex.new hv)).trans e9))
      have hk9 := kept f9 hk hkp
      have hS9 := kept f9 hS hpp
      obtain ⟨hBb, hbp⟩ := R9.fresh hb2
      have hkb : kd ≠ b := ne_of_none hk9 hb2
      have hsb : sp ≠ b := ne_of_none hS9 hb2
      have hksp : sp ≠ kd := ne_of hS9 hk9 (by intro z; cases z)
      have hkl' : kvs.length < 100000 := by omega
      refine ⟨kd, _, rfl, .inr ⟨kvs, keyP x y, b, by rw [upd_ne hkb]; exact hk9, rfl, upd_same, sz_lt hkl', rfl⟩, ?_⟩
      refine ⟨_, _, _, _, putK kvs (keyP x y) (.int z), rfl, ?_, upd_same, ?_, L.put hx hy hxy hz200, ?_⟩
      · exact ((R9.upd hBb hbp).upd hBk hkp).mono (by omega)
      · rw [upd_ne hksp, upd_ne hsb]
        exact hS9
      · have : (putK kvs (keyP x y) (.int z)).length ≤ kvs.length + 1 := by
          unfold putK
          split
          · rw [List.length_map]; omega
          · rw [List.length_append]; exact Nat.le_refl _
        omega
    · rintro σ' H3 ⟨x6, x7, x8, x9, kvs, rfl, R, hk, hS, L, hkl⟩
      have hkl' : kvs.length ≤ m := by omega
      refine ⟨.ref kd, rfl, kd, kvs, rfl, .inl hk, fun l1 bs hl1 hks => ?_⟩
      obtain ⟨hB1, h1p⟩ := R.fresh hl1
      have R1 := R.upd (o := .lst (bs.map V.ref)) hB1 h1p
      have hks' : IsKeys (upd H3 l1 (.lst (bs.map V.ref))) kvs bs := Paired.mapP hks fun a b h => by rw [upd_ne (ne_of_none h hl1)]; exact h
      have hdp : ∀ {kvs : List (List Key × V)} {bs : List Addr}, IsKeys (upd H3 l1 (.lst (bs.map V.ref))) kvs bs → True := fun _ => trivial
      have dpk : ∀ (H : Hp) (kvs : List (List Key × V)) (bs : List Addr), IsKeys H kvs bs → (∀ k v, (k, v) ∈ kvs → ∃ x y, k = keyP x y) → DpAll K H (bs.map V.ref) (kvs.map fun kv => pairD kv.1) := by
        intro H kvs bs h
        unfold IsKeys at h
        induction h with
        | nil => exact fun _ => .nil
        | @cons a b l m hab _ ih =>
          intro hf
          obtain ⟨x, y, e⟩ := hf a.1 a.2 List.mem_cons_self
          refine .cons ?_ (ih fun k v hkv => hf k v (List.mem_cons_of_mem _ hkv))
          show Dp K H (.ref b) (pairD a.1)
          rw [e] at hab ⊢
          exact .tup (st_of hab) (.cons (.str x) (.cons (.str y) .nil))
      have hform : ∀ k v, (k, v) ∈ kvs → ∃ x y, k = keyP x y := fun k v h => by
        obtain ⟨x, y, _, e, _⟩ := L.form k v h
        exact ⟨x, y, e⟩
      refine ⟨l1, bs.map V.ref, kvs.map fun kv => pairD kv.1, rfl, sq_of upd_same, dpk _ _ _ hks' hform, fun a ha b hb => ?_, .inl fun d hd => ?_, fun d hd => ?_, by rw [List.length_map]; omega, fun l2 qs hp hs hd hl2 => ?_⟩
      · obtain ⟨i, _, rfl⟩ := List.mem_map.mp ha
        obtain ⟨j, _, rfl⟩ := List.mem_map.mp hb
        simp [pairD, PySem.W.alike, PySem.W.alikeAll]
      · obtain ⟨i, _, rfl⟩ := List.mem_map.mp hd
        exact ⟨_, _, rfl⟩
      · obtain ⟨i, _, rfl⟩ := List.mem_map.mp hd
        simp [pairD, PyData.depth, PyData.depthAll]
      · obtain ⟨rs, rfl, hrp, hrt⟩ := keys_back (K := K) hks' hp
        obtain ⟨hB2, h2p⟩ := R1.fresh hl2
        have eqs : (rs.map fun r => (V.ref r.1, pairD r.2.1)).map (·.1) = rs.map fun r => V.ref r.1 := by rw [List.map_map]; rfl
        have eqd : (rs.map fun r => (V.ref r.1, pairD r.2.1)).map (·.2) = rs.map fun r => pairD r.2.1 := by rw [List.map_map]; rfl
        rw [eqs] at hd ⊢
        rw [eqd] at hd hs
        have R2 := R1.upd (o := .lst (rs.map fun r => V.ref r.1)) hB2 h2p
        have hk2 : (upd (upd H3 l1 (.lst (bs.map V.ref))) l2 (.lst (rs.map fun r => V.ref r.1))) kd = some (.dT kvs) := by
          have m1 : (upd H3 l1 (.lst (bs.map V.ref))) kd = some (.dT kvs) := by rw [upd_ne (ne_of_none hk hl1)]; exact hk
          rw [upd_ne (ne_of_none m1 hl2)]
          exact m1
        have hrt2 : ∀ r ∈ rs, (upd (upd H3 l1 (.lst (bs.map V.ref))) l2 (.lst (rs.map fun r => V.ref r.1))) r.1 = some (.tup (r.2.1.map kV)) := fun r hr => by
          rw [upd_ne (ne_of_none (hrt r hr) hl2)]
          exact hrt r hr
        have hl2s : (upd (upd H3 l1 (.lst (bs.map V.ref))) l2 (.lst (rs.map fun r => V.ref r.1))) l2 = some (.lst (rs.map fun r => V.ref r.1)) := upd_same
        have hrl : rs.length ≤ m := by
          have := hrp.length_eq
          rw [List.length_map] at this
          omega
        generalize (upd (upd H3 l1 (.lst (bs.map V.ref))) l2 (.lst (rs.map fun r => V.ref r.1))) = H4 at R2 hk2 hrt2 hl2s ⊢
        refine ⟨l2, rfl, ⟨_, sq_of hl2s⟩, fun Dl hD => ?_⟩
        have eg : ∀ i, i < rs.length → (givenD rs.length (fun _ => true) fun i => limD ((rs.map (·.2)).getD i ([], .non)))[i]? = some (limD ((rs.map (·.2)).getD i ([], .non))) := fun i hi => by
          unfold givenD
          rw [List.filter_eq_self.mpr (fun _ _ => rfl), List.getElem?_map, List.getElem?_range hi]
          rfl
        refine lc_list (K := K) (a := l2) (xs := rs.map fun r => V.ref r.1) (Cd K H4 (fun _ => true) (fun i => limD ((rs.map (·.2)).getD i ([], .non))) Dl) ⟨hD, Ex.new hD, [], upd_same, .nil⟩ (fun i H' _ p => sq_of (p.2.1 _ _ hl2s)) (fun i x H' hi p => ?_) (fun H' p => ?_)
        · rw [List.getElem?_map] at hi
          obtain ⟨r, hr, rfl⟩ := Option.map_eq_some_iff.mp hi
          have hrm := List.mem_of_getElem? hr
          have hil := (List.getElem?_eq_some_iff.mp hr).1
          have hkv : r.2 ∈ kvs := hrp.mem_iff.mp (List.mem_map.mpr ⟨r, hrm, rfl⟩)
          obtain ⟨x, y, z, ek, ev, hx, hy, hn, _⟩ := L.form r.2.1 r.2.2 hkv
          have hgd : (rs.map (·.2)).getD i ([], .non) = r.2 := by
            rw [List.getD_eq_getElem?_getD, List.getElem?_map, hr]
            rfl
          have hrt3 := hrt2 r hrm
          rw [ek] at hrt3
          refine ⟨rfl, cd_turn p (by omega) (fun H1 e Q q => q H1 (Ex.refl H1)) (fun _ => ?_) (fun _ => ?_)⟩
          · rw [hgd]
            have hl : limD r.2 = .tuple [.str x, .str y, .int z] := by
              show PyData.tuple [.str (firstS r.2.1), .str (secS r.2.1), .int (valI r.2.2)] = _
              rw [ek, ev]
              rfl
            rw [hl]
            have hdp2 : Dp K H4 (.ref r.1) (.tuple [.str x, .str y]) := .tup (st_of hrt3) (.cons (.str x) (.cons (.str y) .nil))
            refine ed_tup (eds_cons (ed_ixT 0 (ed_of (ev_var rfl) hdp2) ev_c rfl rfl) (eds_cons (ed_ixT 1 (ed_of (ev_var rfl) hdp2) ev_c rfl rfl) (eds_cons (ed_of (v := .int z) ?_ (.int z)) eds_nil))) (by show 3 ≤ 100000; decide)
            intro H5 e5 Q5 q5
            refine ⟨.ref kd, rfl, .ref r.1, rfl, kd, .int z, rfl, .inr ⟨kvs, keyP x y, r.1, .inl (e5 _ _ hk2), rfl, e5 _ _ hrt3, ?_⟩, q5 H5 (Ex.refl H5)⟩
            refine (valT_of L.uniq ?_).symm
            rw [← ek, ← ev]
            exact hkv
          · rw [hgd]
            rfl
        · obtain ⟨p1, p2, ys, p3, p4⟩ := p
          have R3 := R2.on p2
          refine ⟨Dl, ys, rfl, .inl ⟨sq_of p3, fun b hb => ?_⟩⟩
          obtain ⟨hBb, hbp⟩ := R3.fresh hb
          have R4 := R3.upd (o := .tup ys) hBb hbp
          have egv : givenD (rs.map fun r => V.ref r.1).length (fun _ => true) (fun i => limD ((rs.map (·.2)).getD i ([], .non))) = (rs.map (·.2)).map limD := by
            rw [List.length_map]
            unfold givenD
            rw [List.filter_eq_self.mpr (fun _ _ => rfl)]
            refine List.ext_getElem (by simp) fun i h1 h2 => ?_
            have h3 : i < rs.length := by simpa using h2
            simp [List.getD, h3]
          rw [egv] at p4
          have hnl : noLs ((rs.map (·.2)).map limD) = true := noLs_of fun d hd => by
            obtain ⟨kv, _, rfl⟩ := List.mem_map.mp hd
            rfl
          obtain ⟨x, y, z, hpp2, _⟩ := R3.sk
          have hd2 : DpAll K (but H' p) ys ((rs.map (·.2)).map limD) := dpa_but hnl (dpa_ex (but_ex _ _) p4) hpp2
          refine q b _ _ ?_ (L.bounds hrp ?_) (L.tops hrp) R4.ex (R4.sk.mono (by omega)) (.tup (st_of (by rw [but_ne hbp, upd_same])) (dpa_ex (but_mono (Ex.new hb)) hd2))
          · rw [List.length_map, List.length_map]
            exact hrl
          · rw [List.map_map]
            exact hs
end
end Vf
end
section
set_option Elab.async false
set_option linter.all false
set_option maxRecDepth 100000
set_option maxHeartbeats 8000000
namespace Vf
open PySem PySem.Spec PyProof.Rows L2 Evl
theorem lift_perm {α β : Type} (f : α → β) {l : List β} {m : List α} (h : l.Perm (m.map f)) : ∃ r : List α, l = r.map f ∧ r.Perm m := by
  generalize e : m.map f = t at h
  induction h generalizing m with
  | nil =>
    cases m with
    | nil => exact ⟨[], rfl, .nil⟩
    | cons _ _ => cases e
  | cons x _ ih =>
    cases m with
    | nil => cases e
    | cons a m =>
      rw [List.map_cons] at e
      injection e with e1 e2
      obtain ⟨r, hr, hp⟩ := ih e2
      exact ⟨a :: r, by rw [List.map_cons, ← hr, e1], .cons a hp⟩
  | swap x y l =>
    match m, e with
    | a :: b :: m, e =>
      rw [List.map_cons, List.map_cons] at e
      injection e with e1 e2
      injection e2 with e2 e3
      exact ⟨b :: a :: m, by rw [List.map_cons, List.map_cons, e1, e2, e3], .swap a b m⟩
  | trans _ _ ih1 ih2 =>
    obtain ⟨r, hr, hp⟩ := ih2 e
    obtain ⟨r2, hr2, hp2⟩ := ih1 hr.symm
    exact ⟨r2, hr2, hp2.trans hp⟩
/-! ### the plan that is drawn -/
theorem asc_all : ∀ (a : PyData) (r : List PyData), ascD (a :: r) = true → (∀ b ∈ r, PySem.W.dataLt a b = true) ∧ ascD r = true
  | _, [], _ => ⟨fun b h => (by cases h), rfl⟩
  | a, b :: r, h => by
    have h2 : (PySem.W.dataLt a b && ascD (b :: r)) = true := h
    rw [Bool.and_eq_true] at h2
    obtain ⟨i1, _⟩ := asc_all b r h2.2
    refine ⟨fun c hc => ?_, h2.2⟩
    cases hc with
    | head => exact h2.1
    | tail _ hc => exact (listOrd itemOrd).trans _ _ _ h2.1 (i1 c hc)
theorem asc_nodup : ∀ es : List Str, ascD (es.map .str) = true → es.Nodup
  | [], _ => List.nodup_nil
  | e :: r, h => by
    obtain ⟨h1, h2⟩ := asc_all _ _ h
    rw [List.nodup_cons]
    refine ⟨fun hm => ?_, asc_nodup r h2⟩
    have h3 := h1 (.str e) (List.mem_map.mpr ⟨e, hm, rfl⟩)
    have h4 : PySem.W.dataLt (.str e) (.str e) = false := (listOrd itemOrd).irrefl (PySem.W.keyToks (.str e))
    rw [h4] at h3
    cases h3
theorem asc_pw : ∀ ds : List PyData, ascD ds = true → ds.Pairwise fun a b => PySem.W.dataLt a b = true
  | [], _ => .nil
  | d :: r, h => by
    obtain ⟨h1, h2⟩ := asc_all _ _ h
    exact .cons h1 (asc_pw r h2)
theorem ub_of {bl : List (Str × Str × Int)} (h : ascD ((bl.map bdD).map cut2) = true) : (bl.map fun b => (b.1, b.2.1)).Nodup := by
  have h2 := asc_pw _ h
  rw [List.map_map, List.pairwise_map] at h2
  unfold List.Nodup
  rw [List.pairwise_map]
  refine h2.imp fun {a b} hlt e => ?_
  have e2 : (cut2 ∘ bdD) a = (cut2 ∘ bdD) b := by
    show PyData.tuple [.str a.1, .str a.2.1] = PyData.tuple [.str b.1, .str b.2.1]
    rw [(Prod.mk.inj e).1, (Prod.mk.inj e).2]
  rw [e2] at hlt
  have h4 : PySem.W.dataLt ((cut2 ∘ bdD) b) ((cut2 ∘ bdD) b) = false := (listOrd itemOrd).irrefl (PySem.W.keyToks ((cut2 ∘ bdD) b))
  rw [h4] at hlt
  cases hlt
theorem evs_strs (es : List Str) : evs (.tuple (es.map .str)) = es := by
  show (es.map PyData.str).map strOf = es
  rw [List.map_map]
  have h : (strOf ∘ PyData.str) = id := rfl
  rw [h, List.map_id]
theorem isPlan_of {r : Int} {es : List Str} {bs ts : List PyData} (h0 : 0 ≤ r) (hn : ∀ e ∈ es, isName (.str e) = true) (ha : ascD (es.map .str) = true) (hb : areBounds es (.tuple bs) = true) (ht : areTasks es (.tuple ts) = true) : isPlan (.tuple [.int r, .tuple (es.map .str), .tuple bs, .tuple ts]) = true := by
  show (decide (0 ≤ r) && (((es.map PyData.str).all isName && ascD (es.map .str)) && (areBounds (evs (.tuple (es.map .str))) (.tuple bs) && areTasks (evs (.tuple (es.map .str))) (.tuple ts)))) = true
  have h1 : (es.map PyData.str).all isName = true := List.all_eq_true.mpr fun d hd => by
    obtain ⟨e, he, rfl⟩ := List.mem_map.mp hd
    exact hn e he
  rw [evs_strs, decide_eq_true h0, h1, ha, hb, ht]
  rfl
theorem plOk_of {r : Int} {es : List Str} {bs ts : List PyData} (hn : ∀ e ∈ es, isName (.str e) = true) (h1 : es.length ≤ 900) (h2 : bs.length ≤ 900) (h3 : ts.length ≤ 900) : plOk (.tuple [.int r, .tuple (es.map .str), .tuple bs, .tuple ts]) := by
  intro l e b t h
  cases h
  refine ⟨fun ds hds => ?_, fun ds hds => ?_, fun ds hds => ?_⟩
  · cases hds
    refine ⟨by rw [List.length_map]; omega, fun x hx => ?_⟩
    obtain ⟨e, he, rfl⟩ := List.mem_map.mp hx
    intro y hy
    cases hy
    have := (of_isName (hn e he)).2.2.2
    have e2 : (cp e).length = e.cps.size := by simp
    omega
  · cases hds; omega
  · cases hds; omega
theorem form_map {α β : Type} {f : α → β} {ds : List β} (h : ∀ d ∈ ds, ∃ a, d = f a) : ∃ as : List α, ds = as.map f := by
  induction ds with
  | nil => exact ⟨[], rfl⟩
  | cons d r ih =>
    obtain ⟨a, ha⟩ := h d List.mem_cons_self
    obtain ⟨as, has⟩ := ih fun x hx => h x (List.mem_cons_of_mem _ hx)
    exact ⟨a :: as, by rw [List.map_cons, ← has, ha]⟩
def tkOf (j : Job) : TkS := ⟨j.1, j.2.1, j.2.2.1, j.2.2.2⟩
theorem tkD_of (js : List Job) : js.map jobD = (js.map tkOf).map tkD := by
  rw [List.map_map]
  rfl
/-- a plan as the law draws it -/
structure GreatP (q : PlanL) : Prop where
  g : PlanG q 200
  nm : ∀ e ∈ q.evs, isName (.str e) = true
  pl : isPlan (plT q) = true
  ok : plOk (plT q)
  uq : (q.ts.map (·.e)).Nodup
  ub : (q.bs.map fun b => (b.1, b.2.1)).Nodup
  few : q.bs.length ≤ 100
  nd : q.evs.Nodup
theorem great_of {r : Int} {es : List Str} {bs : List PyData} {ts : List PyData} {js : List Job} {sp : List Str} (h0 : 0 ≤ r) (h1 : r ≤ 200) (hn : ∀ e ∈ es, isName (.str e) = true) (ha : ascD (es.map .str) = true) (hb : areBounds es (.tuple bs) = true) (hbt : ∀ b ∈ bs, topOk b) (ht : areTasks es (.tuple ts) = true) (J : Jobs es js sp) (hp : ts.Perm (js.map jobD)) (l1 : es.length ≤ 7) (l2 : bs.length ≤ 100) (l3 : ts.length ≤ 3) :
    ∃ q : PlanL, GreatP q ∧ q.lat = r ∧ q.evs = es ∧ q.bs.map bdD = bs ∧ q.ts.map tkD = ts := by
  obtain ⟨js', rfl, hp'⟩ := lift_perm jobD hp
  have hb2 := (Bool.and_eq_true_iff.mp (show (bs.all (isBound es) && ascD (bs.map cut2)) = true from hb)).1
  rw [List.all_eq_true] at hb2
  obtain ⟨bl, rfl⟩ : ∃ bl : List (Str × Str × Int), bs = bl.map bdD := form_map fun d hd => by
    obtain ⟨x, y, i, rfl⟩ := isBound_form (hb2 d hd)
    exact ⟨(x, y, i), rfl⟩
  refine ⟨⟨r, es, bl, js'.map tkOf⟩, ⟨⟨fun hg => (of_isName (hn _ hg)).1 rfl, fun hg => ?_, h0, h1, fun b hbm => ?_, fun t htm => ?_, l1, ?_, ?_, Nat.le_refl _⟩, hn, ?_, ?_, ?_, ?_, ?_, asc_nodup es ha⟩, ?_⟩
  · have := (of_isName (hn _ hg)).2.2.1
    have e : (cp ("" : Str)).length = 0 := by decide
    omega
  · have h := hb2 (bdD b) (List.mem_map_of_mem hbm)
    have h' : (isPlace es (.str b.1) && (isPlace es (.str b.2.1) && (!decide (b.1 = b.2.1) && true))) = true := h
    rw [Bool.and_eq_true, Bool.and_eq_true, Bool.and_true, Bool.not_eq_true', decide_eq_false_iff_not] at h'
    have pl : ∀ x : Str, isPlace es (.str x) = true → x ∈ ("go" : Str) :: es := fun x hx => by
      have hx' : (decide (x = "go") || decide (x ∈ es)) = true := hx
      rw [Bool.or_eq_true, decide_eq_true_eq, decide_eq_true_eq] at hx'
      exact hx'.elim (fun z => z ▸ List.mem_cons_self) fun z => List.mem_cons_of_mem _ z
    exact ⟨h'.2.2, pl _ h'.1, pl _ h'.2.1, hbt (bdD b) (List.mem_map_of_mem hbm)⟩
  · obtain ⟨j, hj, rfl⟩ := List.mem_map.mp htm
    have h := J.ok j (hp'.mem_iff.mp hj)
    exact ⟨h.1, h.2.1, J.own j (hp'.mem_iff.mp hj), h.2.2.1, h.2.2.2.1, Int.le_trans h.2.2.2.2 (by decide)⟩
  · rw [List.length_map]
    rw [List.length_map] at l3
    exact l3
  · rw [List.length_map] at l2
    exact Nat.le_trans l2 (by decide)
  · show isPlan (.tuple [.int r, .tuple (es.map .str), .tuple (bl.map bdD), .tuple ((js'.map tkOf).map tkD)]) = true
    rw [← tkD_of]
    exact isPlan_of h0 hn ha hb ht
  · show plOk (.tuple [.int r, .tuple (es.map .str), .tuple (bl.map bdD), .tuple ((js'.map tkOf).map tkD)])
    rw [← tkD_of]
    exact plOk_of hn (by omega) (by omega) (by omega)
  · show ((js'.map tkOf).map (·.e)).Nodup
    rw [List.map_map]
    exact (hp'.map (·.2.1)).nodup_iff.mpr J.uniq
  · exact ub_of (Bool.and_eq_true_iff.mp (show ((bl.map bdD).all (isBound es) && ascD ((bl.map bdD).map cut2)) = true from hb)).2
  · rw [List.length_map] at l2
    exact l2
  · exact ⟨rfl, rfl, rfl, (tkD_of js').symm⟩
theorem noL_plT (q : PlanL) : noL (plT q) = true := by
  have h1 : noLs (q.evs.map PyData.str) = true := noLs_of fun d hd => by
    obtain ⟨e, _, rfl⟩ := List.mem_map.mp hd
    rfl
  have h2 : noLs (q.bs.map bdD) = true := noLs_of fun d hd => by
    obtain ⟨e, _, rfl⟩ := List.mem_map.mp hd
    rfl
  have h3 : noLs (q.ts.map tkD) = true := noLs_of fun d hd => by
    obtain ⟨e, _, rfl⟩ := List.mem_map.mp hd
    rfl
  show (true && (noLs (q.evs.map PyData.str) && (noLs (q.bs.map bdD) && (noLs (q.ts.map tkD) && true)))) = true
  rw [h1, h2, h3]
  rfl
/-- a plan of the law: its events stand in a tuple whose object is known -/
def PlX (K : PySem.W.Frag) (H : Hp) (v : V) (q : PlanL) : Prop := ∃ a u o v2 v3, v = .ref a ∧ SqT K H a [.int q.lat, .ref u, v2, v3] ∧ H u = some (.frz o (.tup (q.evs.map V.str))) ∧ o.dict = none ∧ Dp K H v2 (.tuple (q.bs.map bdD)) ∧ Dp K H v3 (.tuple (q.ts.map tkD))
theorem PlX.dp {K : PySem.W.Frag} {H : Hp} {v : V} {q : PlanL} (h : PlX K H v q) : Dp K H v (plT q) := by
  obtain ⟨a, u, o, v2, v3, rfl, hs, hu, _, h2, h3⟩ := h
  exact .tup hs (.cons (.int _) (.cons (.tup (sf_of hu) (dpa_strs _)) (.cons h2 (.cons h3 .nil))))
theorem PlX.ex {K : PySem.W.Frag} {H H' : Hp} {v : V} {q : PlanL} (e : Ex H H') (h : PlX K H v q) : PlX K H' v q := by
  obtain ⟨a, u, o, v2, v3, rfl, hs, hu, hd, h2, h3⟩ := h
  exact ⟨a, u, o, v2, v3, rfl, ex_t e hs, e _ _ hu, hd, dp_ex e h2, dp_ex e h3⟩
/-- its tasks as they were drawn -/
def JobsP (q : PlanL) : Prop := ∃ js sp, Jobs q.evs js sp ∧ (q.ts.map tkD).Perm (js.map jobD)
abbrev spPlan (K : PySem.W.Frag) : Sp := fun vs H Q _ => ∃ (p : Addr) (a b c g n : Nat), vs = [.ref p, .int (a : Int), .int (b : Int), .int (c : Int), .int (g : Int)] ∧ a ≤ 7 ∧ b ≤ 30 ∧ c ≤ 3 ∧ g ≤ 54 ∧ SackAt H p n ∧ n + 700 < LIM ∧
  ∀ (v : Addr) (q : PlanL) (H' : Hp), PlX K (but H' p) (.ref v) q → GreatP q → JobsP q → Ex (but H p) (but H' p) → SackAt H' p (n + 400) → Q (.ref v) H'
section
variable {P : Program} {w : World} {K : PySem.W.Frag} {mg : Str → Option Value} {base : Heap} {tg : Tok} {f : Addr} {fd : FuncData}
end
end Vf
end
section
set_option Elab.async false
set_option linter.all false
set_option maxRecDepth 100000
set_option maxHeartbeats 4000000
namespace Vf
open PySem PySem.Spec PyProof.Rows L2 Evl
/-! ### bounds as what they say of each pair -/
abbrev Bd : Type := Str × Str × Int
abbrev prD (b : Bd) : PyData := .tuple [.str b.1, .str b.2.1]
/-- bounds of a plan with these events -/
def Bds (es : List Str) (bs : List Bd) : Prop := areBounds es (.tuple (bs.map bdD)) = true
theorem Bds.iff {es : List Str} {bs : List Bd} : Bds es bs ↔ (∀ b ∈ bs, isPlace es (.str b.1) = true ∧ isPlace es (.str b.2.1) = true ∧ b.1 ≠ b.2.1) ∧ ascD (bs.map prD) = true := by
  unfold Bds
  show ((bs.map bdD).all (isBound es) && ascD ((bs.map bdD).map cut2)) = true ↔ _
  rw [Bool.and_eq_true, List.all_eq_true, List.map_map]
  refine and_congr ⟨fun h b hb => ?_, fun h d hd => ?_⟩ (Iff.of_eq rfl)
  · have h1 : (isPlace es (.str b.1) && (isPlace es (.str b.2.1) && (!decide (b.1 = b.2.1) && true))) = true := h _ (List.mem_map_of_mem hb)
    rw [Bool.and_eq_true, Bool.and_eq_true, Bool.and_true, Bool.not_eq_true', decide_eq_false_iff_not] at h1
    exact ⟨h1.1, h1.2.1, h1.2.2⟩
  · obtain ⟨b, hb, rfl⟩ := List.mem_map.mp hd
    obtain ⟨h1, h2, h3⟩ := h b hb
    show (isPlace es (.str b.1) && (isPlace es (.str b.2.1) && (!decide (b.1 = b.2.1) && true))) = true
    rw [h1, h2, decide_eq_false h3]
    rfl
theorem lt_self (d : PyData) : PySem.W.dataLt d d = false := PyProof.Rows.lex_irrefl _
theorem lt_asymm {a b : PyData} (h : PySem.W.dataLt a b = true) : PySem.W.dataLt b a = false := by
  cases e : PySem.W.dataLt b a with
  | false => rfl
  | true =>
    have h2 : PySem.W.dataLt a a = true := lex_trans _ _ _ h e
    rw [lt_self] at h2
    cases h2
/-- rows that ascend are told by what is in them -/
theorem asc_unique {f : Bd → PyData} : ∀ {a b : List Bd}, (a.map f).Pairwise (fun x y => PySem.W.dataLt x y = true) → (b.map f).Pairwise (fun x y => PySem.W.dataLt x y = true) → (∀ r, r ∈ a ↔ r ∈ b) → a = b
  | [], [], _, _, _ => rfl
  | [], y :: b, _, _, h => by have := (h y).mpr List.mem_cons_self; cases this
  | x :: a, [], _, _, h => by have := (h x).mp List.mem_cons_self; cases this
  | x :: a, y :: b, h1, h2, h => by
    rw [List.map_cons, List.pairwise_cons] at h1 h2
    have e : x = y := by
      rcases List.mem_cons.mp ((h x).mp List.mem_cons_self) with e | hx
      · exact e
      rcases List.mem_cons.mp ((h y).mpr List.mem_cons_self) with e | hy
      · exact e.symm
      have l1 := h1.1 _ (List.mem_map_of_mem hy)
      have l2 := h2.1 _ (List.mem_map_of_mem hx)
      rw [lt_asymm l1] at l2
      cases l2
    subst e
    have ne : ∀ {c : List Bd}, (∀ z ∈ c.map f, PySem.W.dataLt (f x) z = true) → x ∉ c := fun h hc => by
      have := h _ (List.mem_map_of_mem hc)
      rw [lt_self] at this
      cases this
    rw [asc_unique h1.2 h2.2 fun r => ⟨fun hr => ?_, fun hr => ?_⟩]
    · rcases List.mem_cons.mp ((h r).mp (List.mem_cons_of_mem _ hr)) with e | hr'
      · exact absurd (e ▸ hr) (ne h1.1)
      · exact hr'
    · rcases List.mem_cons.mp ((h r).mpr (List.mem_cons_of_mem _ hr)) with e | hr'
      · exact absurd (e ▸ hr) (ne h2.1)
      · exact hr'
theorem Bds.unique {es : List Str} {a b : List Bd} (ha : Bds es a) (hb : Bds es b) (h : ∀ r, r ∈ a ↔ r ∈ b) : a = b := asc_unique (asc_pw _ (Bds.iff.mp ha).2) (asc_pw _ (Bds.iff.mp hb).2) h
/-- what bounds say of a pair -/
abbrev BMap : Type := Str → Str → Option Int
def mapB (bs : List Bd) : BMap := fun x y => (bs.find? fun b => decide (b.1 = x ∧ b.2.1 = y)).map (·.2.2)
theorem Bds.pairs {es : List Str} {bs : List Bd} (h : Bds es bs) {a b : Bd} (ha : a ∈ bs) (hb : b ∈ bs) (h1 : a.1 = b.1) (h2 : a.2.1 = b.2.1) : a = b := by
  have pw := asc_pw _ (Bds.iff.mp h).2
  rw [List.pairwise_map] at pw
  have hp : prD a = prD b := by unfold prD; rw [h1, h2]
  by_cases e : a = b
  · exact e
  · have : ∀ {l : List Bd}, l.Pairwise (fun x y => PySem.W.dataLt (prD x) (prD y) = true) → a ∈ l → b ∈ l → a = b := by
      intro l
      induction l with
      | nil => exact fun _ h => by cases h
      | cons c r ih =>
        intro pw ha hb
        rw [List.pairwise_cons] at pw
        rcases List.mem_cons.mp ha with e1 | ha'
        · rcases List.mem_cons.mp hb with e2 | hb'
          · exact e1.trans e2.symm
          · have := pw.1 b hb'
            rw [← e1, hp, lt_self] at this
            cases this
        · rcases List.mem_cons.mp hb with e2 | hb'
          · have := pw.1 a ha'
            rw [← e2, hp, lt_self] at this
            cases this
          · exact ih pw.2 ha' hb'
    exact this pw ha hb
theorem Bds.map {es : List Str} {bs : List Bd} (h : Bds es bs) {x y : Str} {i : Int} : (x, y, i) ∈ bs ↔ mapB bs x y = some i := by
  unfold mapB
  constructor
  · intro hm
    cases e : bs.find? fun b => decide (b.1 = x ∧ b.2.1 = y) with
    | none =>
      have := List.find?_eq_none.mp e _ hm
      simp at this
    | some b =>
      have h1 := List.find?_some e
      have h2 := List.mem_of_find?_eq_some e
      rw [decide_eq_true_eq] at h1
      rw [← h.pairs hm h2 h1.1.symm h1.2.symm]
      rfl
  · intro he
    cases e : bs.find? fun b => decide (b.1 = x ∧ b.2.1 = y) with
    | none => rw [e] at he; cases he
    | some b =>
      have h1 := List.find?_some e
      have h2 := List.mem_of_find?_eq_some e
      rw [e] at he
      rw [decide_eq_true_eq] at h1
      obtain ⟨bx, bY, bi⟩ := b
      have h3 : bi = i := by simpa using he
      obtain ⟨rfl, rfl⟩ := h1
      subst h3
      exact h2
/-- the rows that say this of each pair -/
noncomputable def canon (es : List Str) (m : BMap) : List Bd := open Classical in if h : ∃ bs, Bds es bs ∧ ∀ x y i, (x, y, i) ∈ bs ↔ m x y = some i then Classical.choose h else []
theorem canon_eq {es : List Str} {m : BMap} {bs : List Bd} (h : Bds es bs) (hm : ∀ x y i, (x, y, i) ∈ bs ↔ m x y = some i) : canon es m = bs := by
  have ex : ∃ bs, Bds es bs ∧ ∀ x y i, (x, y, i) ∈ bs ↔ m x y = some i := ⟨bs, h, hm⟩
  unfold canon
  rw [dif_pos ex]
  have sp := Classical.choose_spec ex
  exact sp.1.unique h fun ⟨x, y, i⟩ => (sp.2 x y i).trans (hm x y i).symm
theorem canon_self {es : List Str} {bs : List Bd} (h : Bds es bs) : canon es (mapB bs) = bs := canon_eq h fun x y i => h.map
/-- one more bound: of a pair that is there the lesser -/
def withM (m : BMap) (r : Bd) : BMap := fun x y => if x = r.1 ∧ y = r.2.1 then some (match m x y with | some i => if i < r.2.2 then i else r.2.2 | none => r.2.2) else m x y
/-- what a map of rows comes from: finitely many pairs -/
structure Fin (es : List Str) (m : BMap) : Prop where
  ex : ∃ bs : List Bd, (bs.map fun b => (b.1, b.2.1)).Nodup ∧ (∀ b ∈ bs, isPlace es (.str b.1) = true ∧ isPlace es (.str b.2.1) = true ∧ b.1 ≠ b.2.1) ∧ ∀ x y i, (x, y, i) ∈ bs ↔ m x y = some i
def leB (a b : Bd) : Bool := !PySem.W.dataLt (prD b) (prD a)
theorem prD_inj {a b : Bd} (h : PySem.W.keyToks (prD a) = PySem.W.keyToks (prD b)) : a.1 = b.1 ∧ a.2.1 = b.2.1 := by
  simp [prD, PySem.W.keyToks, PySem.W.keyToksAll] at h
  exact ⟨cp_inj (congrArg Array.toList h.1), cp_inj (congrArg Array.toList h.2)⟩
theorem canon_ok {es : List Str} {m : BMap} (F : Fin es m) : Bds es (canon es m) ∧ ∀ x y i, (x, y, i) ∈ canon es m ↔ m x y = some i := by
  obtain ⟨bs, nd, hp, hm⟩ := F.ex
  have P : (bs.mergeSort leB).Perm bs := List.mergeSort_perm bs leB
  have S : (bs.mergeSort leB).Pairwise fun a b => leB a b = true := List.pairwise_mergeSort (fun a b c h1 h2 => by
    unfold leB at *
    rw [Bool.not_eq_true'] at *
    cases e : PySem.W.dataLt (prD c) (prD a) with
    | false => rfl
    | true =>
      -- c < a, not b < a, not c < b: then by total order a contradiction
      cases e2 : PySem.W.dataLt (prD a) (prD b) with
      | true =>
        have : PySem.W.dataLt (prD c) (prD b) = true := lex_trans _ _ _ e e2
        rw [this] at h2
        cases h2
      | false =>
        have e3 : PySem.W.keyToks (prD a) = PySem.W.keyToks (prD b) := lex_total _ _ e2 h1
        have e4 : PySem.W.dataLt (prD c) (prD b) = true := by
          unfold PySem.W.dataLt at e ⊢
          rw [← e3]
          exact e
        rw [e4] at h2
        cases h2) (fun a b => by
    unfold leB
    cases e : PySem.W.dataLt (prD b) (prD a) with
    | false => rfl
    | true => rw [lt_asymm e]; rfl) bs
  have A : ascD ((bs.mergeSort leB).map prD) = true := by
    refine asc_of _ ?_ ?_
    · rw [List.pairwise_map]
      exact S.imp fun h => by unfold leB at h; rw [Bool.not_eq_true'] at h; exact h
    · rw [List.pairwise_map]
      have n2 : ((bs.mergeSort leB).map fun b => (b.1, b.2.1)).Nodup := (P.map _).nodup_iff.mpr nd
      unfold List.Nodup at n2
      rw [List.pairwise_map] at n2
      exact n2.imp fun h hk => h (Prod.ext (prD_inj hk).1 (prD_inj hk).2)
  have B : Bds es (bs.mergeSort leB) := Bds.iff.mpr ⟨fun b hb => hp b (P.mem_iff.mp hb), A⟩
  have M : ∀ x y i, (x, y, i) ∈ bs.mergeSort leB ↔ m x y = some i := fun x y i => P.mem_iff.trans (hm x y i)
  rw [canon_eq B M]
  exact ⟨B, M⟩
theorem Fin.of {es : List Str} {bs : List Bd} (h : Bds es bs) : Fin es (mapB bs) := by
  refine ⟨bs, ?_, (Bds.iff.mp h).1, fun x y i => h.map⟩
  have pw := asc_pw _ (Bds.iff.mp h).2
  rw [List.pairwise_map] at pw
  unfold List.Nodup
  rw [List.pairwise_map]
  refine pw.imp fun {a b} h e => ?_
  have hp : prD a = prD b := by unfold prD; rw [(Prod.mk.inj e).1, (Prod.mk.inj e).2]
  rw [hp, lt_self] at h
  cases h
theorem Fin.nil (es : List Str) : Fin es fun _ _ => none := ⟨[], List.nodup_nil, fun _ h => (nomatch h), fun x y i => ⟨fun h => (nomatch h), fun h => (nomatch h)⟩⟩
theorem Fin.put {es : List Str} {m : BMap} (F : Fin es m) {r : Bd} (hx : isPlace es (.str r.1) = true) (hy : isPlace es (.str r.2.1) = true) (hn : r.1 ≠ r.2.1) : Fin es (withM m r) := by
  obtain ⟨bs, nd, hp, hm⟩ := F.ex
  have hval : ∃ v : Int, withM m r r.1 r.2.1 = some v := by
    unfold withM
    rw [if_pos ⟨rfl, rfl⟩]
    exact ⟨_, rfl⟩
  obtain ⟨v, hv⟩ := hval
  refine ⟨(bs.filter fun b => !decide (b.1 = r.1 ∧ b.2.1 = r.2.1)) ++ [(r.1, r.2.1, v)], ?_, fun b hb => ?_, fun x y i => ?_⟩
  · rw [List.map_append, List.nodup_append]
    refine ⟨List.Nodup.sublist (List.Sublist.map _ List.filter_sublist) nd, by simp, fun a ha b hb => ?_⟩
    obtain ⟨c, hc, rfl⟩ := List.mem_map.mp ha
    have h1 := (List.mem_filter.mp hc).2
    rw [Bool.not_eq_true', decide_eq_false_iff_not] at h1
    have h2 : b = (r.1, r.2.1) := by simpa using hb
    intro e
    rw [h2] at e
    exact h1 ⟨(Prod.mk.inj e).1, (Prod.mk.inj e).2⟩
  · rcases List.mem_append.mp hb with hb | hb
    · exact hp b (List.mem_filter.mp hb).1
    · rw [List.mem_singleton.mp hb]
      exact ⟨hx, hy, hn⟩
  · rw [List.mem_append, List.mem_filter, List.mem_singleton]
    by_cases h : x = r.1 ∧ y = r.2.1
    · obtain ⟨rfl, rfl⟩ := h
      rw [hv]
      constructor
      · rintro (⟨_, h⟩ | h)
        · simp at h
        · have : i = v := by simpa using h
          rw [this]
      · intro h
        cases h
        exact .inr rfl
    · have e : withM m r x y = m x y := if_neg h
      rw [e, ← hm x y i]
      constructor
      · rintro (h' | h')
        · exact h'.1
        · exact absurd ⟨(Prod.mk.inj h').1, (Prod.mk.inj (Prod.mk.inj h').2).1⟩ h
      · intro h'
        refine .inl ⟨h', ?_⟩
        show (!decide (x = r.1 ∧ y = r.2.1)) = true
        rw [decide_eq_false h]
        rfl
theorem map_ext {m n : BMap} (h : ∀ x y i, m x y = some i ↔ n x y = some i) : m = n := funext fun x => funext fun y => Option.ext fun i => h x y i
theorem fold_self {es : List Str} {bs : List Bd} (h : Bds es bs) : bs.foldl withM (fun _ _ => none) = mapB bs := by
  have nd := (Fin.of h).ex
  have key : ∀ l : List Bd, (l.map fun b => (b.1, b.2.1)).Nodup → ∀ x y i, l.reverse.foldl withM (fun _ _ => none) x y = some i ↔ (x, y, i) ∈ l := by
    intro l
    induction l with
    | nil => exact fun _ x y i => ⟨fun h => (by cases h), fun h => (by cases h)⟩
    | cons b r ih =>
      intro hN x y i
      rw [List.map_cons, List.nodup_cons] at hN
      rw [List.reverse_cons, List.foldl_append, List.foldl_cons, List.foldl_nil, List.mem_cons]
      unfold withM
      by_cases h : x = b.1 ∧ y = b.2.1
      · obtain ⟨rfl, rfl⟩ := h
        rw [if_pos ⟨rfl, rfl⟩]
        have no : ∀ j, (b.1, b.2.1, j) ∉ r := fun j hj => hN.1 (List.mem_map.mpr ⟨_, hj, rfl⟩)
        have hn : r.reverse.foldl withM (fun _ _ => none) b.1 b.2.1 = none := by
          cases e : r.reverse.foldl withM (fun _ _ => none) b.1 b.2.1 with
          | none => rfl
          | some j => exact absurd ((ih hN.2 _ _ j).mp e) (no j)
        unfold withM at hn
        rw [hn]
        constructor
        · intro h
          cases h
          exact .inl rfl
        · rintro (h | h)
          · have : i = b.2.2 := by rw [← h]
            rw [this]
          · exact absurd h (no i)
      · rw [if_neg h]
        have := ih hN.2 x y i
        unfold withM at this
        rw [this]
        exact ⟨.inr, fun h' => h'.resolve_left fun e => h (by rw [← e]; exact ⟨rfl, rfl⟩)⟩
  have hN : (bs.map fun b => (b.1, b.2.1)).Nodup := by
    have pw := asc_pw _ (Bds.iff.mp h).2
    rw [List.pairwise_map] at pw
    unfold List.Nodup
    rw [List.pairwise_map]
    refine pw.imp fun {a b} h e => ?_
    have hp : prD a = prD b := by unfold prD; rw [(Prod.mk.inj e).1, (Prod.mk.inj e).2]
    rw [hp, lt_self] at h
    cases h
  refine map_ext fun x y i => ?_
  have hr : (bs.reverse.map fun b => (b.1, b.2.1)).Nodup := by
    rw [List.map_reverse]
    exact (List.reverse_perm _).nodup_iff.mpr hN
  have := key bs.reverse hr x y i
  rw [List.reverse_reverse] at this
  rw [this, List.mem_reverse]
  exact h.map
theorem nodup_len {α : Type} [DecidableEq α] : ∀ {a b : List α}, a.Nodup → (∀ x ∈ a, x ∈ b) → a.length ≤ b.length
  | [], _, _, _ => Nat.zero_le _
  | x :: a, b, hn, h => by
    rw [List.nodup_cons] at hn
    have hx := h x List.mem_cons_self
    have := nodup_len (a := a) (b := b.erase x) hn.2 fun y hy => (List.mem_erase_of_ne fun e => hn.1 (by rw [← e]; exact hy)).mpr (h y (List.mem_cons_of_mem _ hy))
    rw [List.length_erase_of_mem hx] at this
    have h1 : 1 ≤ b.length := List.length_pos_of_mem hx
    rw [List.length_cons]
    omega
theorem Bds.nd {es : List Str} {bs : List Bd} (h : Bds es bs) : (bs.map fun b => (b.1, b.2.1)).Nodup := by
  have pw := asc_pw _ (Bds.iff.mp h).2
  rw [List.pairwise_map] at pw
  unfold List.Nodup
  rw [List.pairwise_map]
  refine pw.imp fun {a b} h e => ?_
  have hp : prD a = prD b := by unfold prD; rw [(Prod.mk.inj e).1, (Prod.mk.inj e).2]
  rw [hp, lt_self] at h
  cases h
/-- all further bounds, one by one -/
noncomputable def joinB (es : List Str) (bs fs : List Bd) : List Bd := canon es (fs.foldl withM (mapB bs))
theorem fold_fin {es : List Str} : ∀ {fs : List Bd} {m : BMap}, Fin es m → (∀ b ∈ fs, isPlace es (.str b.1) = true ∧ isPlace es (.str b.2.1) = true ∧ b.1 ≠ b.2.1) → Fin es (fs.foldl withM m)
  | [], _, F, _ => F
  | r :: fs, m, F, h => fold_fin (fs := fs) (m := withM m r) (F.put (h r List.mem_cons_self).1 (h r List.mem_cons_self).2.1 (h r List.mem_cons_self).2.2) fun b hb => h b (List.mem_cons_of_mem _ hb)
theorem fold_dom {x y : Str} {i : Int} : ∀ {fs : List Bd} {m : BMap}, fs.foldl withM m x y = some i → (∃ j, m x y = some j) ∨ ∃ r ∈ fs, r.1 = x ∧ r.2.1 = y
  | [], m, h => .inl ⟨i, h⟩
  | r :: fs, m, h => by
    rcases fold_dom (fs := fs) h with ⟨j, hj⟩ | ⟨r', hr, e⟩
    · unfold withM at hj
      split at hj
      · rename_i hxy
        exact .inr ⟨r, List.mem_cons_self, hxy.1.symm, hxy.2.symm⟩
      · exact .inl ⟨j, hj⟩
    · exact .inr ⟨r', List.mem_cons_of_mem _ hr, e⟩
theorem joinB_ok {es : List Str} {bs fs : List Bd} (h : Bds es bs) (hf : ∀ b ∈ fs, isPlace es (.str b.1) = true ∧ isPlace es (.str b.2.1) = true ∧ b.1 ≠ b.2.1) : Bds es (joinB es bs fs) ∧ (joinB es bs fs).length ≤ bs.length + fs.length := by
  have c := canon_ok (fold_fin (Fin.of h) hf)
  refine ⟨c.1, ?_⟩
  have := nodup_len (b := (bs.map fun b => (b.1, b.2.1)) ++ fs.map fun b => (b.1, b.2.1)) c.1.nd fun p hp => by
    obtain ⟨⟨x, y, i⟩, hb, rfl⟩ := List.mem_map.mp hp
    rw [List.mem_append]
    rcases fold_dom ((c.2 x y i).mp hb) with ⟨j, hj⟩ | ⟨r, hr, rfl, rfl⟩
    · exact .inl (List.mem_map.mpr ⟨(x, y, j), h.map.mpr hj, rfl⟩)
    · exact .inr (List.mem_map.mpr ⟨r, hr, rfl⟩)
  rw [List.length_map, List.length_append, List.length_map, List.length_map] at this
  exact this
theorem joinB_one {es : List Str} {bs : List Bd} {r : Bd} : joinB es bs [r] = canon es (withM (mapB bs) r) := rfl
theorem joinB_snoc {es : List Str} {bs fs : List Bd} {r : Bd} (h : Bds es bs) (hf : ∀ b ∈ fs, isPlace es (.str b.1) = true ∧ isPlace es (.str b.2.1) = true ∧ b.1 ≠ b.2.1) : joinB es bs (fs ++ [r]) = joinB es (joinB es bs fs) [r] := by
  have c := canon_ok (fold_fin (Fin.of h) hf)
  have e : mapB (joinB es bs fs) = fs.foldl withM (mapB bs) := map_ext fun x y i => c.1.map.symm.trans (c.2 x y i)
  show canon es ((fs ++ [r]).foldl withM (mapB bs)) = canon es (withM (mapB (joinB es bs fs)) r)
  rw [e, List.foldl_append]
  rfl
theorem Bds.filter {es : List Str} {bs : List Bd} (h : Bds es bs) (f : Bd → Bool) : Bds es (bs.filter f) := by
  rw [Bds.iff] at h ⊢
  refine ⟨fun b hb => h.1 b (List.mem_filter.mp hb).1, ?_⟩
  have pw := asc_pw _ h.2
  rw [List.pairwise_map] at pw
  refine asc_of _ ?_ ?_
  · rw [List.pairwise_map]
    exact (pw.sublist List.filter_sublist).imp fun h => lt_asymm h
  · rw [List.pairwise_map]
    refine (pw.sublist List.filter_sublist).imp fun {a b} h e => ?_
    have : PySem.W.dataLt (prD a) (prD b) = PySem.W.dataLt (prD a) (prD a) := by
      unfold PySem.W.dataLt
      rw [← e]
    rw [this, lt_self] at h
    cases h
end Vf
end
section
set_option Elab.async false
set_option linter.all false
set_option maxRecDepth 100000
set_option maxHeartbeats 4000000
namespace Vf
open PySem PySem.Spec PyProof.Rows L2 Evl
/-! ### for (k, v) in d.items(), d keyed by tuples -/
section
variable {X : Cx} {pins : List (Addr × Obj)} {σ : L2.St} {H : Hp} {s : Shared} {d : Addr} {o : Obj}
theorem frz_items {kvs : List (List Key × V)} (I : Inv X pins σ H s) (h : H d = some (.frz o (.dT kvs))) :
    (d == sysModules) = false ∧ ∃ (es : Array DictEntry) (ep : Nat), s.heap.DictRaw d es ep ∧ o.data = .dict es ep ∧ es.size = kvs.length ∧
      ∀ (i : Nat) (k : List Key) (v : V), kvs[i]? = some (k, v) → ∃ (en : DictEntry) (q : Addr), es[i]? = some en ∧ en.key = .ref q ∧ H q = some (.tup (k.map kV)) ∧ RelV v en.val := by
  obtain ⟨hd, z, hs, xs, pr, o', es, ep, ho, hx, hdt, he, _⟩ := I.hok d _ h
  rw [hd] at ho
  cases ho
  refine ⟨hs, es, ep, ⟨o, hd, hx, hdt⟩, hdt, ?_, fun i k v e => ?_⟩
  · have l1 : es.size = xs.length := size_of_entries he
    have l2 : kvs.length = xs.length := Paired.length pr
    omega
  · obtain ⟨b, hb, e1, e2, e3⟩ := paired_get pr e
    have q := entry_at he i
    rw [hb] at q
    exact ⟨_, b.2.1, q, rfl, e2, e3⟩
end
/-- the pairs of a locked dict with tuple keys, each a new tuple of the key's own tuple and the value -/
def Itit (d : Addr) (o : Obj) (kvs : List (List Key × V)) : It :=
  ⟨fun i H => H d = some (.frz o (.dT kvs)) ∧ i < kvs.length, fun i H x H' => ∃ (T : Addr) (k : List Key) (v : V) (q : Addr), kvs[i]? = some (k, v) ∧ x = .ref T ∧ H T = none ∧ H q = some (.tup (k.map kV)) ∧ H' = upd H T (.tup [.ref q, v]),
    fun i H => H d = some (.frz o (.dT kvs)) ∧ kvs.length ≤ i⟩
section
variable {P : Program} {w : World} {K : PySem.W.Frag} {d : Addr} {o : Obj} {es : Array DictEntry} {ep : Nat}
theorem turn_itemsT {kvs : List (List Key × V)} {elts : List Expr} {kk : Nat} {tpos : Pos} (jt : Addr) (hod : o.data = .dict es ep) : Turn P w K (.Tuple elts kk tpos) (Itit d o kvs) [jt] jt (fun i h => ∃ u1 u2, IsItemIter h jt d i kvs.length ep u1 u2) where
  mem := by simp
  obj := fun i h st b hb => by
    have eb : b = jt := by simpa using hb
    subst eb
    obtain ⟨u1, u2, e⟩ := st
    exact ⟨_, e, fun v z => nomatch z⟩
  keep := fun i h h' st k => ⟨st.choose, st.choose_spec.choose, k jt (by simp) _ st.choose_spec.choose_spec⟩
  item := by
    intro X e1 e2 e3 hc i pins s σ H E I hf st hg
    subst e1 e2 e3
    obtain ⟨hd, hi⟩ := hg
    obtain ⟨hs, es', ep', hraw, hdt, hsz, ent⟩ := frz_items I hd
    obtain ⟨rfl, rfl⟩ := dict_ep hod hdt
    obtain ⟨⟨k, v⟩, hkv⟩ : ∃ p, kvs[i]? = some p := ⟨kvs[i], List.getElem?_eq_getElem hi⟩
    obtain ⟨en, q, hen, hkey, hq, hval⟩ := ent i k v hkv
    obtain ⟨u1, u2, hit⟩ := st
    have hlt : i < es'.size := by omega
    have een : es'[i] = en := by
      rw [Array.getElem?_eq_getElem hlt] at hen
      exact Option.some.inj hen
    have hit2 : IsItemIter s.heap jt d i es'.size ep' u1 u2 := by rw [hsz]; exact hit
    have hjt : jt < s.heap.objs.size := Heap.lt_size hit
    refine wpAny_pyNext_items_item_raw hit2 hraw hlt fun h1 hout hT hz hk => ?_
    rw [een, hkey] at hout hT
    refine ⟨_, rfl, wpAny_letOwnedTupleGo_items (s := { s with heap := h1 }) hout fun h2 hit3 sb => ?_⟩
    have hTT : h2.get? s.heap.objs.size = some { cls := .type "tuple", data := .seq #[.ref q, en.val] } := (sb.2 _ (Nat.ne_of_gt hjt)).trans hT
    have fresh : ObjOk X.prog X.w (upd H s.heap.objs.size (.tup [.ref q, v])) h2 s.heap.objs.size (.tup [.ref q, v]) := ⟨by show 2 ≤ sizeLine; decide, [.ref q, en.val], .cons rfl (.cons hval .nil), ⟨_, hTT, rfl, _, rfl⟩⟩
    have I1 : Inv X pins σ (upd H s.heap.objs.size (.tup [.ref q, v])) { s with heap := h2 } := I.turnedNew (t' := s.toks) (ch := [jt]) (fun b ob hb z => (sb.2 b (by simpa using hb)).trans (hk b ob (by simpa using hb) z)) hf (Nat.le_refl _) fresh
    refine ⟨.ref s.heap.objs.size, _, I1, rfl, ⟨_, k, v, q, hkv, rfl, I.hok.fresh (Nat.le_refl _), hq, rfl⟩, ⟨.ref q, en.val, by rw [← hsz]; exact hit3⟩, fun b hb => ?_⟩
    have eb : b = jt := by simpa using hb
    rw [eb, upd_ne (Nat.ne_of_lt hjt)]
    exact (hf jt (by simp)).1
  done := by
    intro X e1 e2 e3 hc i pins s σ H E I hf st hg
    subst e1 e2 e3
    obtain ⟨hd, hi⟩ := hg
    obtain ⟨f0, f1, f2, f3, f4, f5⟩ := hf jt (by simp)
    obtain ⟨hs, es', ep', hraw, hdt, hsz, ent⟩ := frz_items I hd
    obtain ⟨rfl, rfl⟩ := dict_ep hod hdt
    obtain ⟨u1, u2, hit⟩ := st
    have hit2 : IsItemIter s.heap jt d i es'.size ep' u1 u2 := by rw [hsz]; exact hit
    exact wpAny_pyNext_items_end_raw (I.ok.hd hc) hit2 hraw (by omega) fun h' eb => ⟨rfl, I.turned (t' := s.toks) (fun b ob hb z => eb b ob hb z) f0 f1 f3 f4 f5⟩
  self := fun A i s Q E st h => PySem.W.kcp_self st.choose_spec.choose_spec h
end
/-- d.items() of a locked dict with tuple keys -/
def iItemsT (td : TE) : TI := fun σ H R => td σ H fun x H1 => ∃ d o kvs, x = .ref d ∧ H1 d = some (.frz o (.dT kvs)) ∧ R (Itit d o kvs) H1
theorem pi_itemsT {X : Cx} {e : Expr} {td : TE} {apos cpos : Pos} {elts : List Expr} {kk : Nat} {tpos : Pos} (he : PE X e td) (hbase : attributeBase e "items" X.env (eval e X.env) = eval e X.env := by rfl) (hline : (apos.endLine == cpos.line) = true := by rfl) :
    PI X (.Tuple elts kk tpos) (.Call (.Attribute e "items" apos) [] [] cpos) (iItemsT td) := by
  refine ⟨fun pins s σ H R I h => wpAny_Call_method (T := "dict") (id := "dict.items") hbase rfl hline F.plainAttrs_dict F.slot_dict_items F.type_dict_items (thn (he.run pins s σ H _ I h) fun u s1 ⟨x, H1, I1, rx, d, o, kvs, ex, hd, q⟩ => ?_)⟩
  subst ex
  obtain rfl : u = Value.ref d := rx
  obtain ⟨hs, es, ep, hraw, hdt, hsz, ent⟩ := frz_items I1 hd
  have I2 : Inv X pins σ H1 { s1 with heap := s1.heap.push { cls := .type "dict_items", data := .fields #[.ref d] } } := I1.kept (t' := s1.toks) fun b ob z => Heap.get?_push_of_some _ z
  have raw2 : (s1.heap.push { cls := .type "dict_items", data := .fields #[.ref d] }).DictRaw d es ep := hraw.at fun o' z => Heap.get?_push_of_some _ z
  have fin : wpAny (model X.prog X.w) X.A (pyIter (.ref s1.heap.objs.size)) (PIE X pins σ (.Tuple elts kk tpos) R) X.xe { s1 with heap := s1.heap.push { cls := .type "dict_items", data := .fields #[.ref d] } } :=
    wpAny_pyIter_items_raw (d := d) ⟨_, Heap.get?_push_size _ rfl, rfl, rfl⟩ raw2 (pi_one (tk := s1.toks) I2 _ (turn_itemsT _ hdt) ⟨.none, .none, by rw [← hsz]; exact Heap.get?_push_size _ rfl⟩ q)
  refine ⟨hraw.typeIs, ?_, ?_⟩
  · obtain ⟨o', ho', hx', hd'⟩ := hraw
    exact fun a e => by
      cases e
      exact ⟨o', ho', hx'.2.1⟩
  show wpAny _ _ (callWith cpos (.builtin "dict.items") [.ref d] [] []) _ X.xe s1
  exact method_meetsIn F.slot_dict_items F.entry_dict_items rfl (PySem.evalArgs_none ⟨rfl, hraw.typeIs, F.args_dict_items_1 _, _, meets_dict_items_raw d hs, ⟨es, ep, hraw⟩, fin⟩)
end Vf
end
section
set_option Elab.async false
set_option linter.all false
set_option maxRecDepth 100000
set_option maxHeartbeats 4000000
/-! Operators of an own class: o + x, o - x, o & p and those in place, where the class has no in-place ones. -/
namespace OwB
open PySem PySem.W PySem.Calls PyProof.Rows
section
variable {prog : Program} {w : World} {A : Around} {E : Value → Shared → Prop} {s : Shared} {K : Frag} {x C f : Addr} {ox : Obj} {od : Option Obj} {nm : String} {b : Value}
/-- what is known of the right operand: it is of the same class, or of a built-in type that has no such operator but as a sequence -/
inductive Side (K : Frag) (C : Addr) (nm : String) : Value → Prop
  | same : Side K C nm (.ref C)
  | other {T : String} {fo : Option Value} (h1 : findIn K (.type T) (PySem.dunder nm) = some fo) (h2 : findIn K (.type T) (dunderR nm) = some none) (h3 : (fo.isSome && !isSeqSlot fo) = false) : Side K C nm (.type T)
theorem bin1 {tb : Value} {Q : Option Value → Shared → Prop} (X : K.In s.heap) (I : InstAt s.heap x ox C od) (hb : Looks (model prog w) s.heap (typeOf b) tb) (hc : selfFirst K C = true) (hs : findIn K (.ref C) (PySem.dunder nm) = some (some (.ref f))) (hf : isFn K (.ref f) = true)
    (sd : Side K C nm tb) (h : wpAny (model prog w) A (call (.ref f) [.ref x, b]) (PySem.W.CmpBack fun v s' => Q (some v) s') E s) : wpAny (model prog w) A (binaryOp1 nm (.ref x) b) Q E s := by
  obtain ⟨cd, rest, hcd, hm⟩ := ksp_first hc
  have tr := ksp_try X I hs hf h
  have La : Looks (model prog w) s.heap (typeOf (.ref x)) (.ref C) := I.type
  have Lf : Looks (model prog w) s.heap (fillsNumberSlot (.ref C) nm) true := fills_K X hcd hm hs
  unfold binaryOp1
  refine wpAny_bind (La.here (wpAny_bind (hb.here (wpAny_bind (Lf.here ?_)))))
  cases sd with
  | same =>
    simp only [beq_self_eq_true, if_true]
    refine wpAny_bind (wpAny_pure ?_)
    simp only [Bool.and_false, Bool.false_eq_true, if_false, Bool.false_and]
    refine wpAny_bind (wpAny_pure ?_)
    simp only [Bool.false_eq_true, if_false]
    refine wpAny_bind (wpAny_mono tr (fun r s' hr' => ?_) fun _ _ e => e)
    obtain ⟨v, rfl, hq⟩ := hr'
    exact wpAny_pure hq
  | @other T fo h1 h2 h3 =>
    have Lr : Looks (model prog w) s.heap (fillsNumberSlot (.type T) nm) ((fo.isSome && !isSeqSlot fo) || ((none : Option Value).isSome && !isSeqSlot none)) := ksp_fillsT X h1 h2
    rw [h3] at Lr
    have hne : (Value.ref C == Value.type T) = false := Bool.eq_false_iff.mpr fun z => nomatch beq_iff_eq.mp z
    simp only [hne, Bool.false_eq_true, if_false]
    refine wpAny_bind (Lr.here ?_)
    simp only [Bool.and_false, Bool.false_or, Option.isSome_none, Bool.false_and, Bool.false_eq_true, if_false]
    refine wpAny_bind (wpAny_pure ?_)
    simp only [Bool.false_eq_true, if_false]
    refine wpAny_bind (wpAny_mono tr (fun r s' hr' => ?_) fun _ _ e => e)
    obtain ⟨v, rfl, hq⟩ := hr'
    exact wpAny_pure hq
theorem bin_own {op : Operator} {tb : Value} {Q : Value → Shared → Prop} (X : K.In s.heap) (I : InstAt s.heap x ox C od) (hb : Looks (model prog w) s.heap (typeOf b) tb) (hc : selfFirst K C = true) (hs : findIn K (.ref C) (PySem.dunder op.info.2) = some (some (.ref f))) (hf : isFn K (.ref f) = true)
    (sd : Side K C op.info.2 tb) (h : wpAny (model prog w) A (call (.ref f) [.ref x, b]) (PySem.W.CmpBack Q) E s) : wpAny (model prog w) A (binaryOp op (.ref x) b) Q E s := by
  unfold binaryOp
  refine wpAny_holding ?_
  have one : wpAny (model prog w) A (binaryOp1 op.info.2 (.ref x) b) (fun r s' => ∃ v, r = some v ∧ Q v s') E s := bin1 X I hb hc hs hf sd (wpAny_mono h (fun v s' z => by cases v <;> first | exact z.elim | exact ⟨_, rfl, z⟩) fun _ _ e => e)
  rcases hi : op.info with ⟨sym, nm'⟩
  rw [hi] at one
  dsimp only at one ⊢
  refine wpAny_bind (wpAny_mono one (fun r s' hr' => ?_) fun _ _ e => e)
  obtain ⟨v, rfl, hq⟩ := hr'
  exact wpAny_pure hq
/-- no in-place operator of its own, nor one that an object brings -/
theorem no_inplace {cd : ClassData} {add : Bool} (X : K.In s.heap) (hcd : clsIn K C = some cd) (hm : cd.mro = [.ref C, .type "object"]) (h1 : findIn K (.ref C) (dunderI nm) = some none) (h2 : findIn K (.type "object") (dunderI nm) = some none) : Looks (model prog w) s.heap (fillsInplaceSlot (.ref C) nm add) false := by
  intro A Q E s k q
  have Lm : Looks (model prog w) s.heap (mroOf (.ref C)) cd.mro := ((looks_clsIn X hcd).andThen (f := fun cd => pure cd.mro) .now).keeps k
  have L1 : Looks (model prog w) s.heap (typeLookup (.ref C) (dunderI nm)) none := looks_findIn (X.keeps k) h1
  have L2 : Looks (model prog w) s.heap (typeLookup (.type "object") (dunderI nm)) none := looks_findIn (X.keeps k) h2
  unfold fillsInplaceSlot
  refine wpAny_bind (Lm.at ?_)
  rw [hm, List.anyM_cons]
  refine wpAny_bind (wpAny_bind (L1.at (wpAny_pure ?_)))
  simp only [Bool.false_eq_true, if_false]
  rw [List.anyM_cons]
  refine wpAny_bind (wpAny_bind (L2.at (wpAny_pure ?_)))
  simp only [Bool.false_eq_true, if_false]
  rw [List.anyM_nil]
  exact wpAny_pure q
theorem inp_own {op : Operator} {tb : Value} {cd : ClassData} {Q : Value → Shared → Prop} (X : K.In s.heap) (I : InstAt s.heap x ox C od) (hb : Looks (model prog w) s.heap (typeOf b) tb) (hc : selfFirst K C = true) (hs : findIn K (.ref C) (PySem.dunder op.info.2) = some (some (.ref f))) (hf : isFn K (.ref f) = true)
    (sd : Side K C op.info.2 tb) (hcd : clsIn K C = some cd) (hm : cd.mro = [.ref C, .type "object"]) (h1 : findIn K (.ref C) (dunderI op.info.2) = some none) (h2 : findIn K (.type "object") (dunderI op.info.2) = some none)
    (h : wpAny (model prog w) A (call (.ref f) [.ref x, b]) (PySem.W.CmpBack Q) E s) : wpAny (model prog w) A (inplaceOp op (.ref x) b) Q E s := by
  have one : wpAny (model prog w) A (binaryOp1 op.info.2 (.ref x) b) (fun r s' => ∃ v, r = some v ∧ Q v s') E s := bin1 X I hb hc hs hf sd (wpAny_mono h (fun v s' z => by cases v <;> first | exact z.elim | exact ⟨_, rfl, z⟩) fun _ _ e => e)
  unfold inplaceOp
  refine wpAny_holding (wpAny_bind (I.type.here (wpAny_bind ((no_inplace X hcd hm h1 h2).here ?_))))
  simp only [Bool.false_eq_true, if_false]
  refine wpAny_bind (wpAny_mono one (fun r s' hr' => ?_) fun _ _ e => e)
  obtain ⟨v, rfl, hq⟩ := hr'
  exact wpAny_pure hq
end
end OwB
namespace Vf
open PySem PySem.Spec PyProof.Rows L2 Evl
theorem looks_tup {prog : Program} {w : World} {h : Heap} {p : Addr} {its : Array Value} (ht : PyProof.Rows.IsTup h p its) : PySem.W.Looks (model prog w) h (typeOf (.ref p)) (.type "tuple") := by
  obtain ⟨o, ho, hc, hd⟩ := ht
  exact hc ▸ (PySem.W.Looks.ld ho).andThen .now
/-- what the class at C has of one operator: its def at g; none in place -/
structure Op2 (K : PySem.W.Frag) (C g : Addr) (nm : String) : Prop where
  first : PySem.W.selfFirst K C = true
  at_ : PySem.W.findIn K (.ref C) (PySem.dunder nm) = some (some (.ref g))
  fn : PySem.W.isFn K (.ref g) = true
  ti : ∃ fo, PySem.W.findIn K (.type "tuple") (PySem.dunder nm) = some fo ∧ (fo.isSome && !isSeqSlot fo) = false
  tr : PySem.W.findIn K (.type "tuple") (dunderR nm) = some none
  mro : ∃ cd, PySem.W.clsIn K C = some cd ∧ cd.mro = [.ref C, .type "object"]
  ic : PySem.W.findIn K (.ref C) (dunderI nm) = some none
  io : PySem.W.findIn K (.type "object") (dunderI nm) = some none
/-- o op t, t a tuple; the answer is an object -/
def rOpT (K : PySem.W.Frag) (C : Addr) (sp : Sp) (E : XK) : R2 := fun x y H Q => ∃ a dx fs p ys, x = .ref a ∧ y = .ref p ∧ H a = some (.ins C dx fs) ∧ SqT K H p ys ∧ sp [x, y] H (fun v H' => (∃ b, v = .ref b) ∧ Q v H') E
/-- o op p, both of the class -/
def rOpO (C : Addr) (sp : Sp) (E : XK) : R2 := fun x y H Q => ∃ a dx fs b dy gs, x = .ref a ∧ y = .ref b ∧ H a = some (.ins C dx fs) ∧ H b = some (.ins C dy gs) ∧ sp [x, y] H (fun v H' => (∃ b, v = .ref b) ∧ Q v H') E
section
variable {X : Cx} {CX : CXT} {k : Nat} {C g : Addr} {fd : FuncData} {ps : List Str} {sp : Sp} {E : XK} {op : Operator}
theorem run_op {pins : List (Addr × Obj)} {σ : L2.St} {H : Hp} {s : Shared} {Q : VK} {a b : Addr} (F : FnOk X.prog X.w X.K X.mg X.base CX k g fd ps sp) (hr : Room k X.A) (hb : Binds X.K fd ps []) (hx : Passes CX X E) (I : Inv X pins σ H s)
    (q : sp [.ref a, .ref b] H (fun v H' => (∃ b, v = .ref b) ∧ Q v H') E) : wpAny (model X.prog X.w) X.A (call (.ref g) [.ref a, .ref b]) (PySem.W.CmpBack (EP X pins σ Q)) X.xe s :=
  wpAny_mono (run_fn (dvs := []) (ds := []) (us := [.ref a, .ref b]) (vs := [.ref a, .ref b]) F hr hb .nil hx I (.cons rfl (.cons rfl .nil)) q) (fun v s' z => by
    obtain ⟨z', H', I', rz, ⟨b', e⟩, qz⟩ := z
    subst e
    cases (show v = Value.ref b' from rz)
    exact ⟨.ref b', H', I', rfl, qz⟩) fun _ _ x => x
theorem op_ownT (D : Op2 X.K C g op.info.2) (F : FnOk X.prog X.w X.K X.mg X.base CX k g fd ps sp) (hr : Room k X.A) (hb : Binds X.K fd ps []) (hx : Passes CX X E) : OpR X (binaryOp op) (rOpT X.K C sp E) := by
  intro pins s σ H x y v u Q I rx ry h
  obtain ⟨a, dx, fs, p, ys, rfl, rfl, ha, hp, q⟩ := h
  cases (show v = Value.ref a from rx)
  cases (show u = Value.ref p from ry)
  obtain ⟨mA, J, _⟩ := ins_get I.hok ha
  obtain ⟨od, J, _⟩ := J.look
  obtain ⟨its, r, ht, hz⟩ := I.tuple hp
  obtain ⟨fo, t1, t2⟩ := D.ti
  exact OwB.bin_own I.kIn J (looks_tup ht) D.first D.at_ D.fn (.other t1 D.tr t2) (run_op F hr hb hx I q)
theorem op_ownO (D : Op2 X.K C g op.info.2) (F : FnOk X.prog X.w X.K X.mg X.base CX k g fd ps sp) (hr : Room k X.A) (hb : Binds X.K fd ps []) (hx : Passes CX X E) : OpR X (binaryOp op) (rOpO C sp E) := by
  intro pins s σ H x y v u Q I rx ry h
  obtain ⟨a, dx, fs, b, dy, gs, rfl, rfl, ha, hb', q⟩ := h
  cases (show v = Value.ref a from rx)
  cases (show u = Value.ref b from ry)
  obtain ⟨mA, J, _⟩ := ins_get I.hok ha
  obtain ⟨od, J, _⟩ := J.look
  obtain ⟨mB, J2, _⟩ := ins_get I.hok hb'
  obtain ⟨od2, J2, _⟩ := J2.look
  exact OwB.bin_own I.kIn J J2.type D.first D.at_ D.fn .same (run_op F hr hb hx I q)
theorem ip_ownT (D : Op2 X.K C g op.info.2) (F : FnOk X.prog X.w X.K X.mg X.base CX k g fd ps sp) (hr : Room k X.A) (hb : Binds X.K fd ps []) (hx : Passes CX X E) : PIp X op (rOpT X.K C sp E) := by
  intro pins s σ H x y v u Q I rx ry h
  obtain ⟨a, dx, fs, p, ys, rfl, rfl, ha, hp, q⟩ := h
  cases (show v = Value.ref a from rx)
  cases (show u = Value.ref p from ry)
  obtain ⟨mA, J, _⟩ := ins_get I.hok ha
  obtain ⟨od, J, _⟩ := J.look
  obtain ⟨its, r, ht, hz⟩ := I.tuple hp
  obtain ⟨fo, t1, t2⟩ := D.ti
  obtain ⟨cd, c1, c2⟩ := D.mro
  exact OwB.inp_own I.kIn J (looks_tup ht) D.first D.at_ D.fn (.other t1 D.tr t2) c1 c2 D.ic D.io (run_op F hr hb hx I q)
theorem ip_ownO (D : Op2 X.K C g op.info.2) (F : FnOk X.prog X.w X.K X.mg X.base CX k g fd ps sp) (hr : Room k X.A) (hb : Binds X.K fd ps []) (hx : Passes CX X E) : PIp X op (rOpO C sp E) := by
  intro pins s σ H x y v u Q I rx ry h
  obtain ⟨a, dx, fs, b, dy, gs, rfl, rfl, ha, hb', q⟩ := h
  cases (show v = Value.ref a from rx)
  cases (show u = Value.ref b from ry)
  obtain ⟨mA, J, _⟩ := ins_get I.hok ha
  obtain ⟨od, J, _⟩ := J.look
  obtain ⟨mB, J2, _⟩ := ins_get I.hok hb'
  obtain ⟨od2, J2, _⟩ := J2.look
  obtain ⟨cd, c1, c2⟩ := D.mro
  exact OwB.inp_own I.kIn J J2.type D.first D.at_ D.fn .same c1 c2 D.ic D.io (run_op F hr hb hx I q)
end
end Vf
end
section
set_option Elab.async false
set_option linter.all false
set_option maxRecDepth 100000
set_option maxHeartbeats 8000000
namespace Vf
open PySem PySem.Spec PyProof.Rows L2 Evl
/-! ### dicts of whole numbers by tuples of texts -/
def dV {α : Type} (f : α → List Key) (l : List (α × Int)) : List (List Key × V) := l.map fun p => (f p.1, .int p.2)
section
variable {α : Type} [DecidableEq α] {f : α → List Key}
theorem dV_look (inj : ∀ a b, f a = f b → a = b) (l : List (α × Int)) (x : α) : valV (dV f l) (f x) = (Cl.lookA l x).map V.int := by
  induction l with
  | nil => rfl
  | cons p r ih =>
    show valV ((f p.1, .int p.2) :: dV f r) _ = _
    by_cases e : p.1 = x
    · rw [Cl.lookA_pos e, valV_pos (p := (f p.1, V.int p.2)) (congrArg f e)]; rfl
    · rw [Cl.lookA_neg e, valV_neg (p := (f p.1, V.int p.2)) (fun z => e (inj _ _ z)), ih]
theorem dV_put (inj : ∀ a b, f a = f b → a = b) (l : List (α × Int)) (x : α) (i : Int) : putK (dV f l) (f x) (.int i) = dV f (Cl.putA l x i) := by
  have any : ((dV f l).any fun kv => decide (kv.1 = f x)) = (l.any fun p => decide (p.1 = x)) := by
    rw [valV_any, Cl.lookA_any, dV_look inj]
    cases Cl.lookA l x <;> rfl
  unfold putK Cl.putA
  rw [any]
  split
  · unfold dV
    rw [List.map_map, List.map_map]
    refine List.map_congr_left fun p _ => ?_
    show (if f p.1 = f x then (f p.1, V.int i) else (f p.1, .int p.2)) = (f (if p.1 = x then (p.1, i) else p).1, V.int (if p.1 = x then (p.1, i) else p).2)
    by_cases e : p.1 = x
    · rw [if_pos (congrArg f e), if_pos e]
    · rw [if_neg (fun z => e (inj _ _ z)), if_neg e]
  · unfold dV
    rw [List.map_append]
    rfl
theorem dV_len (l : List (α × Int)) : (dV f l).length = l.length := List.length_map ..
end
section
variable {K : PySem.W.Frag} {σ : L2.St} {H : Hp} {ta tk tv tx : TE} {tz : TS} {D : Ends} {a : Addr} {α : Type} [DecidableEq α] {f : α → List Key}
theorem q_dputI (inj : ∀ a b, f a = f b → a = b) {l : List (α × Int)} {k : α} {i : Int} (hd : H a = some (.dT (dV f l))) (hv : Ev tv σ H (.int i)) (ha : Ev ta σ H (.ref a)) (hk : EvU tk σ H ((f k).map kV)) (hl : l.length < 16000000) (q : ∀ H1, Ex H H1 → tz D σ (upd H1 a (.dT (dV f (Cl.putA l k i))))) : tSeq (sDPut ta tk tv) tz D σ H :=
  hv H (Ex.refl H) _ fun H1 e1 => ha H1 e1 _ fun H2 e2 => hk H2 (e1.trans e2) _ fun p H3 _ e3 hp => ⟨a, _, rfl, DPut.t (((e1.trans e2).trans e3) a _ hd) hp (by rw [dV_len, sizeLine_eq]; omega), by
    rw [dV_put inj]
    exact q H3 ((e1.trans e2).trans e3)⟩
theorem s_dputI (inj : ∀ a b, f a = f b → a = b) {l : List (α × Int)} {k : α} {i : Int} (hd : H a = some (.dT (dV f l))) (hv : Ev tv σ H (.int i)) (ha : Ev ta σ H (.ref a)) (hk : EvU tk σ H ((f k).map kV)) (hl : l.length < 16000000) (q : ∀ H1, Ex H H1 → D.nx σ (upd H1 a (.dT (dV f (Cl.putA l k i))))) : sDPut ta tk tv D σ H :=
  q_dputI (D := D) (tz := fun D σ H => D.nx σ H) inj hd hv ha hk hl q
/-- d.get(k, x) -/
theorem ev_get2I (inj : ∀ a b, f a = f b → a = b) {l : List (α × Int)} {k : α} {i : Int} (ha : Ev ta σ H (.ref a)) (hd : Rd H a (.dT (dV f l))) (hk : EvU tk σ H ((f k).map kV)) (hx : Ev tx σ H (.int i)) : Ev (tDGet2 ta tk tx) σ H (.int ((Cl.lookA l k).getD i)) := fun H1 e Q q =>
  ha H1 e _ fun H2 e2 => ⟨a, rfl, .inr ⟨_, ex_rd (e.trans e2) hd⟩, hk H2 (e.trans e2) _ fun p H3 _ e3 hp => hx H3 ((e.trans e2).trans e3) _ fun H4 e4 => ⟨_, .inr ⟨_, f k, p, ex_rd (((e.trans e2).trans e3).trans e4) hd, rfl, e4 _ _ hp, rfl⟩, by
    have h : ((valV (dV f l) (f k)).getD (.int i)) = V.int ((Cl.lookA l k).getD i) := by
      rw [dV_look inj]
      cases Cl.lookA l k <;> rfl
    rw [h]
    exact q H4 ((e2.trans e3).trans e4)⟩⟩
theorem ev_getI (inj : ∀ a b, f a = f b → a = b) {l : List (α × Int)} {k : α} {i : Int} (ha : Ev ta σ H (.ref a)) (hd : Rd H a (.dT (dV f l))) (hk : EvU tk σ H ((f k).map kV)) (h : Cl.lookA l k = some i) : Ev (tDGet ta tk) σ H (.int i) :=
  ev_dgetT ha hd hk (by rw [dV_look inj, h]; rfl)
theorem ev_min {i j : Int} {tb : TE} (ha : Ev ta σ H (.int i)) (hb : Ev tb σ H (.int j)) : Ev (tCB (fun xs H Q => ∃ i j, xs = [.int i, .int j] ∧ Q (.int (if j < i then j else i)) H) (tCons ta (tCons tb tNil))) σ H (.int (min i j)) := by
  have e : (if j < i then j else i) = min i j := by split <;> omega
  rw [← e]
  exact ev_callB (ea_cons ha (ea_cons hb ea_nil)) fun _ _ q => ⟨i, j, rfl, q⟩
end
theorem keyL_inj' : ∀ a b : Str × Str × Str, keyL a = keyL b → a = b := keyL_inj
abbrev KwS := Cl.Kw Str
/-- the rows of the law -/
def rowsB (p : PlanL) : List EdS := p.bs.map fun b => ⟨b.1, b.2.1, "", b.2.2⟩
def rowsE (p : PlanL) (i : Nat) : List EdS := rowsB p ++ (p.evs.take i).flatMap fun e => [⟨"go", e, "", p.lat⟩, ⟨e, "go", "", 0⟩]
def rowsT (p : PlanL) (i : Nat) : List EdS := rowsE p p.evs.length ++ (p.ts.take i).flatMap fun t => [⟨t.b, t.e, "", t.hi⟩, ⟨t.e, t.b, "", 0 - t.lo⟩, ⟨t.e, t.b, t.e, 0 - t.hi⟩]
def rowsL (p : PlanL) : List EdS := rowsT p p.ts.length
theorem rows_same (p : PlanL) : ∀ a, a ∈ edsP p ↔ a ∈ rowsL p := by
  intro a
  rw [eds_in]
  unfold rowsL rowsT rowsE rowsB
  rw [List.take_length, List.take_length]
  simp only [List.mem_append, List.mem_map, List.mem_flatMap, List.mem_cons, List.not_mem_nil, or_false, Int.zero_sub]
  constructor
  · rintro (⟨b, hb, rfl⟩ | ⟨e, he, h⟩ | ⟨t, ht, h⟩)
    · exact .inl (.inl ⟨b, hb, rfl⟩)
    · exact .inl (.inr ⟨e, he, h⟩)
    · exact .inr ⟨t, ht, h⟩
  · rintro ((⟨b, hb, rfl⟩ | ⟨e, he, h⟩) | ⟨t, ht, h⟩)
    · exact .inl ⟨b, hb, rfl⟩
    · exact .inr (.inl ⟨e, he, h⟩)
    · exact .inr (.inr ⟨t, ht, h⟩)
theorem len_flat3 {α β : Type} (f g h : α → β) (l : List α) : (l.flatMap fun a => [f a, g a, h a]).length = 3 * l.length := by
  induction l with
  | nil => rfl
  | cons a l ih =>
    rw [List.flatMap_cons, List.length_append, ih]
    show 3 + 3 * l.length = 3 * (l.length + 1)
    omega
theorem rowsE_len (p : PlanL) (z : SmallP p) (i : Nat) : (rowsE p i).length ≤ 3000 := by
  unfold rowsE rowsB
  rw [List.length_append, List.length_map, len_flat2, List.length_take]
  have := z.b
  have := z.e
  omega
theorem rowsT_len (p : PlanL) (z : SmallP p) (i : Nat) : (rowsT p i).length ≤ 6000 := by
  unfold rowsT
  rw [List.length_append, len_flat3, List.length_take]
  have := rowsE_len p z p.evs.length
  have := z.t
  omega
abbrev spLines (K : PySem.W.Frag) : Sp := fun vs H Q _ => ∃ v p, vs = [v] ∧ Dp K H v (plT p) ∧ SmallP p ∧ ∀ D H2, H D = none → Ex H H2 → H2 D = some (.dT (dV keyL (Cl.linesL (rowsL p)))) → Q (.ref D) H2
theorem lines_len (l : List EdS) : ∀ f : KwS, (l.foldl (fun f a => Cl.putMin f a.k a.w) f).length ≤ f.length + l.length := by
  induction l with
  | nil => exact fun f => Nat.le_refl _
  | cons a l ih =>
    intro f
    have h1 := ih (Cl.putMin f a.k a.w)
    have h2 : (Cl.putMin f a.k a.w).length ≤ f.length + 1 := by
      unfold Cl.putMin
      rw [Cl.putA_len]
      split <;> omega
    rw [List.foldl_cons, List.length_cons]
    omega
theorem dp_ed {K : PySem.W.Frag} {H : Hp} {v : V} {a : EdS} (h : Dp K H v (edD a)) : ∃ p, v = .ref p ∧ SqT K H p [.str a.x, .str a.y, .str a.e, .int a.w] := by
  cases h with
  | tup hs ha =>
    cases ha with
    | cons h1 ha => cases ha with
      | cons h2 ha => cases ha with
        | cons h3 ha => cases ha with
          | cons h4 ha =>
            cases ha
            cases h1; cases h2; cases h3; cases h4
            exact ⟨_, rfl, hs⟩
theorem dp_tk {K : PySem.W.Frag} {H : Hp} {v : V} {t : TkS} (h : Dp K H v (tkD t)) : ∃ p, v = .ref p ∧ SqT K H p [.str t.b, .str t.e, .int t.lo, .int t.hi] := by
  cases h with
  | tup hs ha =>
    cases ha with
    | cons h1 ha => cases ha with
      | cons h2 ha => cases ha with
        | cons h3 ha => cases ha with
          | cons h4 ha =>
            cases ha
            cases h1; cases h2; cases h3; cases h4
            exact ⟨_, rfl, hs⟩
theorem ed_ed {K : PySem.W.Frag} {σ : L2.St} {H : Hp} {t1 t2 t3 t4 : TE} {a : EdS} (h1 : Ev t1 σ H (.str a.x)) (h2 : Ev t2 σ H (.str a.y)) (h3 : Ev t3 σ H (.str a.e)) (h4 : Ev t4 σ H (.int a.w)) : EvD K (tTup (tCons t1 (tCons t2 (tCons t3 (tCons t4 tNil))))) σ H (edD a) :=
  ed_tup (eds_cons (ed_str h1) (eds_cons (ed_str h2) (eds_cons (ed_str h3) (eds_cons (ed_int h4) eds_nil)))) (by show 4 ≤ 100000; decide)
section
variable {K : PySem.W.Frag} {σ : L2.St} {H B : Hp} {tl : TE} {v : V} {D : Ends} {g : TG} {tu tz : TS}
/-- over a tuple of data -/
theorem q_forTD {ds : List PyData} (h : Ev tl σ H v) (hd : Dp K B v (.tuple ds)) (eB : Ex B H) (Pv : Nat → L2.St → Hp → Prop) (h0 : ∀ H1, Ex H H1 → Pv 0 σ H1) (hl : ∀ i σ' H', Pv i σ' H' → Ex B H')
    (hs : ∀ i x d σ' H', ds[i]? = some d → Dp K B x d → Pv i σ' H' → g x σ' H' fun σ2 H2 => tu { D with nx := Pv (i + 1), ct := Pv (i + 1), bk := tz D } σ2 H2) (he : ∀ σ' H', Pv ds.length σ' H' → tz D σ' H') : tSeq (tFor (iTup K tl) g tu) tz D σ H := by
  cases hd with
  | tup hx ha =>
    have el := dpa_len ha
    refine s_forT (D := { D with nx := tz D }) h (ex_t eB hx) Pv h0 (fun i σ' H' _ p => ex_t (hl i σ' H' p) hx) (fun i x σ' H' hi p => ?_) (fun σ' H' p => he σ' H' (el ▸ p))
    obtain ⟨d, h1, h2⟩ := dpa_get ha hi
    exact hs i x d σ' H' h1 h2 p
theorem q_forLD {ds : List PyData} (h : Ev tl σ H v) (hd : Dp K B v (.list ds)) (eB : Ex B H) (Pv : Nat → L2.St → Hp → Prop) (h0 : ∀ H1, Ex H H1 → Pv 0 σ H1) (hl : ∀ i σ' H', Pv i σ' H' → Ex B H')
    (hs : ∀ i x d σ' H', ds[i]? = some d → Dp K B x d → Pv i σ' H' → g x σ' H' fun σ2 H2 => tu { D with nx := Pv (i + 1), ct := Pv (i + 1), bk := tz D } σ2 H2) (he : ∀ σ' H', Pv ds.length σ' H' → tz D σ' H') : tSeq (tFor (iList K tl) g tu) tz D σ H :=
  s_forLD (D := { D with nx := tz D }) h hd eB Pv h0 hl hs he
end
section
variable {P : Program} {w : World} {K : PySem.W.Frag} {mg : Str → Option Value} {base : Heap} {tg : Tok} {f : Addr} {fd : FuncData}
end
end Vf
end
section
set_option Elab.async false
set_option linter.all false
set_option maxRecDepth 100000
set_option maxHeartbeats 8000000
namespace Vf
open PySem PySem.Spec PyProof.Rows L2 Evl
/-! ### bounds put together -/
def IsRows (H : Hp) (rs : List Addr) (kvs : List (List Key × V)) : Prop := Paired (fun r (kv : List Key × V) => H r = some (.tup (kv.1.map kV ++ [kv.2]))) rs kvs
theorem rows_ex {H H' : Hp} (e : Ex H H') {rs : List Addr} {kvs : List (List Key × V)} (h : IsRows H rs kvs) : IsRows H' rs kvs := Paired.mapP h fun _ _ z => e _ _ z
theorem rows_dp {K : PySem.W.Frag} {H : Hp} : ∀ {kvs : List (List Key × V)} {rs : List Addr}, IsRows H rs kvs → (∀ k v, (k, v) ∈ kvs → ∃ x y i, k = keyP x y ∧ v = .int i) → DpAll K H (rs.map V.ref) (kvs.map limD) := by
  intro kvs
  induction kvs with
  | nil =>
    intro rs h _
    unfold IsRows at h
    cases h
    exact .nil
  | cons p l ih =>
    intro rs h hf
    unfold IsRows at h
    cases h with
    | @cons b _ m _ hab t =>
      obtain ⟨x, y, i, e1, e2⟩ := hf p.1 p.2 List.mem_cons_self
      refine .cons ?_ (ih t fun k v hkv => hf k v (List.mem_cons_of_mem _ hkv))
      have hl : limD p = .tuple [.str x, .str y, .int i] := by
        unfold limD
        rw [e1, e2]
        rfl
      rw [hl]
      rw [e1, e2] at hab
      exact .tup (st_of hab) (.cons (.str x) (.cons (.str y) (.cons (.int i) .nil)))
theorem t_yesX {σ : L2.St} {H : Hp} {A B : Hp → Prop} (h : A H) : tYes σ H fun b H3 => if b = true then A H3 else B H3 := by
  show if true = true then A H else B H
  rw [if_pos rfl]
  exact h
/-- [(x, y, most) for (x, y), most in mosts.items()] -/
theorem tp_items {K : PySem.W.Frag} {H : Hp} {Q : VK} {kvs : List (List Key × V)} {kd : Addr} {s0 s1 s3 s4 s5 : Option V} (hd : H kd = some (.dT kvs)) (hf : ∀ k v, (k, v) ∈ kvs → ∃ x y i, k = keyP x y ∧ v = .int i) (hz : kvs.length ≤ 1000)
    (k : ∀ p rs H2, H p = none → Ex H H2 → H2 p = some (.lst (rs.map V.ref)) → IsRows H2 rs kvs → Q (.ref p) H2) :
    tLockE (tLc (iItemsT (tVar 2)) (gTup K 2 (gCons (gTup K 2 (gCons (gName 3) (gCons (gName 4) gNil))) (gCons (gName 5) gNil))) tYes (tTup (tCons (tVar 3) (tCons (tVar 4) (tCons (tVar 5) tNil)))) [3, 4, 5]) [s0, s1, some (.ref kd), s3, s4, s5] H Q := by
  refine ⟨kd, .dT kvs, hd, trivial, fun od => ?_⟩
  refine ⟨.ref kd, rfl, kd, od, kvs, rfl, upd_same, fun Dl hD => ?_⟩
  have hDk : Dl ≠ kd := fun z => by
    rw [z, upd_same] at hD
    cases hD
  have hDH : H Dl = none := by rwa [upd_ne hDk] at hD
  have W : Walk (Itit kd od kvs) kvs.length (fun H' => H' kd = some (.frz od (.dT kvs))) (fun i H' x H'' => ∃ (T : Addr) (ky : List Key) (v : V) (q : Addr), kvs[i]? = some (ky, v) ∧ x = .ref T ∧ H' T = none ∧ H' q = some (.tup (ky.map kV)) ∧ H'' = upd H' T (.tup [.ref q, v])) :=
    ⟨fun i H' hi g => ⟨g, hi⟩, fun H' g => ⟨g, Nat.le_refl _⟩, fun i H' x H'' _ _ y => y⟩
  refine lc_it W (fun i H' => Ex (upd H kd (.frz od (.dT kvs))) H' ∧ ∃ rs : List Addr, H' Dl = some (.lst (rs.map V.ref)) ∧ rs.length = i ∧ IsRows H' rs (kvs.take i)) ⟨Ex.new hD, [], upd_same, rfl, .nil⟩ (fun i H' _ p => p.1 _ _ upd_same) (fun i x H' H'' hi p y => ?_) (fun H' p => ?_)
  · obtain ⟨p1, rs, p2, p3, p4⟩ := p
    obtain ⟨T, ky, v, q, hkv, rfl, hT, hq, rfl⟩ := y
    obtain ⟨x', y', j, rfl, rfl⟩ := hf ky v (List.mem_of_getElem? hkv)
    have eT : Ex H' (upd H' T (.tup [.ref q, .int j])) := Ex.new hT
    refine ⟨T, [.ref q, .int j], rfl, st_of upd_same, rfl, .ref q, [.int j], rfl, q, [.str x', .str y'], rfl, st_of (eT _ _ hq), rfl, _, _, rfl, _, _, rfl, rfl, .int j, [], rfl, rfl, rfl, ?_⟩
    refine t_yesX ⟨.str x', rfl, .str y', rfl, .int j, rfl, by show 3 ≤ sizeLine; decide, fun r hr => ?_⟩
    have eR : Ex (upd H' T (.tup [.ref q, .int j])) (upd (upd H' T (.tup [.ref q, .int j])) r (.tup [.str x', .str y', .int j])) := Ex.new hr
    have hDl := eR _ _ (eT _ _ p2)
    refine ⟨rs.map V.ref, hDl, by rw [List.length_map, p3]; exact sz_lt (by omega), Ex.mut ((p1.trans eT).trans eR) hD, rs ++ [r], by rw [upd_same, List.map_append]; rfl, by rw [List.length_append, p3]; rfl, ?_⟩
    have off : ∀ {H3 : Hp} {rs : List Addr} {kv : List (List Key × V)} {ys zs : List V}, H3 Dl = some (.lst ys) → IsRows H3 rs kv → IsRows (upd H3 Dl (.lst zs)) rs kv := fun hl h => Paired.mapP h fun a b z => by
      rw [upd_ne fun e => by rw [e, hl] at z; cases z]
      exact z
    rw [take_snoc hkv]
    exact off hDl (Paired.snoc (rows_ex (eT.trans eR) p4) upd_same)
  · obtain ⟨p1, rs, p2, p3, p4⟩ := p
    rw [List.take_length] at p4
    refine ⟨p1 _ _ upd_same, k Dl rs _ hDH (fun a o h => ?_) (by rw [upd_ne hDk]; exact p2) (Paired.mapP p4 fun a b z => ?_)⟩
    · by_cases ha : a = kd
      · subst ha
        rw [hd] at h
        rw [upd_same]
        exact h
      · rw [upd_ne ha]
        exact p1 _ _ (by rw [upd_ne ha]; exact h)
    · rw [upd_ne fun e => by rw [e, p1 _ _ upd_same] at z; cases z]
      exact z
abbrev spJoinB (K : PySem.W.Frag) : Sp := fun vs H Q _ => ∃ u v b c es bs fs, vs = [u, v] ∧ Dp K H u (seqD b (bs.map bdD)) ∧ Dp K H v (seqD c (fs.map bdD)) ∧ Bds es bs ∧ (∀ r ∈ fs, isPlace es (.str r.1) = true ∧ isPlace es (.str r.2.1) = true ∧ r.1 ≠ r.2.1) ∧ bs.length ≤ 100 ∧ fs.length ≤ 100 ∧ RetD K (.tuple ((joinB es bs fs).map bdD)) H Q
/-- what a dict of pairs says -/
structure MapK (kvs : List (List Key × V)) (m : BMap) : Prop where
  form : ∀ k v, (k, v) ∈ kvs → ∃ x y i, k = keyP x y ∧ v = .int i
  uniq : (kvs.map (·.1)).Nodup
  val : ∀ x y, valV kvs (keyP x y) = (m x y).map V.int
theorem keyP_inj {x y x' y' : Str} (h : keyP x y = keyP x' y') : x = x' ∧ y = y' := by
  injection h with h1 h2
  injection h2 with h2 _
  exact ⟨Sum.inr.inj h1, Sum.inr.inj h2⟩
theorem MapK.nil : MapK [] fun _ _ => none := ⟨fun k v h => (nomatch h), List.nodup_nil, fun x y => rfl⟩
theorem MapK.put {kvs : List (List Key × V)} {m : BMap} (M : MapK kvs m) (x y : Str) (i : Int) : MapK (putK kvs (keyP x y) (.int (match m x y with | some j => if j < i then j else i | none => i))) (withM m (x, y, i)) := by
  refine ⟨fun k v h => ?_, putT_keys M.uniq, fun x' y' => ?_⟩
  · rcases putT_mem h with h | ⟨h1, h2⟩
    · exact M.form k v h
    · exact ⟨x, y, _, h1, h2⟩
  · rw [valV_put]
    unfold withM
    by_cases e : x' = x ∧ y' = y
    · obtain ⟨rfl, rfl⟩ := e
      rw [if_pos rfl, if_pos ⟨rfl, rfl⟩]
      rfl
    · rw [if_neg (fun z => e (keyP_inj z)), if_neg e]
      exact M.val x' y'
theorem MapK.mem {kvs : List (List Key × V)} {m : BMap} (M : MapK kvs m) {x y : Str} {i : Int} : (keyP x y, V.int i) ∈ kvs ↔ m x y = some i := by
  constructor
  · intro h
    have h1 := valT_of M.uniq h
    rw [M.val] at h1
    cases e : m x y with
    | none => rw [e] at h1; cases h1
    | some j =>
      rw [e] at h1
      have : V.int j = V.int i := Option.some.inj h1
      cases this
      rfl
  · intro h
    have h1 := M.val x y
    rw [h] at h1
    exact valV_mem h1
def rowL (kv : List Key × V) : Bd := (firstS kv.1, secS kv.1, valI kv.2)
theorem rowL_d (kv : List Key × V) : bdD (rowL kv) = limD kv := rfl
theorem tri_lt {a b : Bd} (h : PySem.W.dataLt (prD a) (prD b) = true) : PySem.W.dataLt (bdD a) (bdD b) = true := by
  obtain ⟨x, y, i⟩ := b
  obtain ⟨x', y', j⟩ := a
  have h' : PyProof.Rows.lexLt itemOrd [.inl 1, .inr x'.cps.toList, .inl 1, .inr y'.cps.toList, .inl 0] [.inl 1, .inr x.cps.toList, .inl 1, .inr y.cps.toList, .inl 0] = true := h
  show PyProof.Rows.lexLt itemOrd [.inl 1, .inr x'.cps.toList, .inl 1, .inr y'.cps.toList, .inl 1, .inl j, .inl 0] [.inl 1, .inr x.cps.toList, .inl 1, .inr y.cps.toList, .inl 1, .inl i, .inl 0] = true
  rw [lex_self] at h' ⊢
  by_cases hx : (Sum.inr x'.cps.toList : Int ⊕ List Nat) = .inr x.cps.toList
  · rw [hx, lex_self, lex_self] at h'
    rw [hx, lex_self, lex_self]
    by_cases hy : (Sum.inr y'.cps.toList : Int ⊕ List Nat) = .inr y.cps.toList
    · rw [hy, lex_self] at h'
      rw [show PyProof.Rows.lexLt itemOrd [(.inl 0 : Int ⊕ List Nat)] [.inl 0] = false from lex_irrefl _] at h'
      cases h'
    · rw [lex_diff (O := itemOrd) hy] at h' ⊢
      exact h'
  · rw [lex_diff (O := itemOrd) hx] at h' ⊢
    exact h'
/-- sorted rows of a dict: what the map says, in the one order -/
theorem rows_canon {es : List Str} {kvs : List (List Key × V)} {m : BMap} (M : MapK kvs m) (F : Fin es m) {ps : List PyData} (hp : ps.Perm (kvs.map limD)) (hs : ps.Pairwise fun a b => PySem.W.dataLt b a = false) : ps = (canon es m).map bdD := by
  obtain ⟨rows, rfl, hr⟩ := lift_perm bdD (show ps.Perm ((kvs.map rowL).map bdD) by rw [List.map_map]; exact hp)
  have c := canon_ok F
  have mem : ∀ r, r ∈ rows ↔ r ∈ canon es m := fun ⟨x, y, i⟩ => by
    rw [hr.mem_iff, c.2, ← M.mem, List.mem_map]
    constructor
    · rintro ⟨⟨k, v⟩, hkv, e⟩
      obtain ⟨x', y', j, rfl, rfl⟩ := M.form k v hkv
      have e' : (x', y', j) = (x, y, i) := e
      cases e'
      exact hkv
    · intro h
      exact ⟨_, h, rfl⟩
  have nd : (rows.map fun b => (b.1, b.2.1)).Nodup := by
    have h1 : ((kvs.map rowL).map fun b => (b.1, b.2.1)).Nodup := by
      rw [List.map_map]
      have hN := M.uniq
      unfold List.Nodup at hN ⊢
      rw [List.pairwise_map] at hN ⊢
      refine hN.imp_of_mem fun {a b} ha hb hab he => ?_
      obtain ⟨x, y, _, ea, _⟩ := M.form a.1 a.2 ha
      obtain ⟨x', y', _, eb, _⟩ := M.form b.1 b.2 hb
      have he' : (firstS a.1, secS a.1) = (firstS b.1, secS b.1) := he
      rw [ea, eb] at he'
      have e2 : (x, y) = (x', y') := he'
      cases e2
      exact hab (ea.trans eb.symm)
    exact (hr.map _).nodup_iff.mpr h1
  rw [asc_unique (f := bdD) (a := rows) (b := canon es m) ?_ ?_ mem]
  · rw [List.pairwise_map] at hs ⊢
    unfold List.Nodup at nd
    rw [List.pairwise_map] at nd
    refine (hs.and nd).imp fun {a b} h => ?_
    cases e : PySem.W.dataLt (bdD a) (bdD b) with
    | true => rfl
    | false =>
      have tk := lex_total _ _ e h.1
      simp [bdD, PySem.W.keyToks, PySem.W.keyToksAll] at tk
      exact absurd (show (a.1, a.2.1) = (b.1, b.2.1) by rw [cp_inj (congrArg Array.toList tk.1), cp_inj (congrArg Array.toList tk.2.1)]) h.2
  · have pw := asc_pw _ (Bds.iff.mp c.1).2
    rw [List.pairwise_map] at pw ⊢
    exact pw.imp tri_lt
section
variable {K : PySem.W.Frag} {σ : L2.St} {H : Hp} {ta tb tl te : TE} {tz : TS} {D : Ends} {g : TG} {tu : TS}
theorem q_forENk {ds : List PyData} (h : EvN K tl σ H ds) {dd : Addr} {o : HO} (hd : H dd = some o) (hf : Free o) (hn : noLs ds = true) (Pv : Hp → Nat → L2.St → Hp → Prop) (h0 : ∀ H1, Ex H H1 → Pv H1 0 σ H1) (hl : ∀ H1 i σ' H', Ex H H1 → Pv H1 i σ' H' → Ex (but H1 dd) H')
    (hs : ∀ H1 i x d σ' H', Ex H H1 → ds[i]? = some d → Dp K (but H1 dd) x d → Pv H1 i σ' H' → g x σ' H' fun σ2 H2 => tu { D with nx := Pv H1 (i + 1), ct := Pv H1 (i + 1), bk := tz D } σ2 H2) (he : ∀ H1 σ' H', Ex H H1 → Pv H1 ds.length σ' H' → tz D σ' H') : tSeq (tFor (iList K tl) g tu) tz D σ H :=
  h H (Ex.refl H) _ fun l xs H1 hl1 e g1 hda => by
    have hdd := e _ _ hd
    have hld : l ≠ dd := fun z => by rw [z, hd] at hl1; cases hl1
    have hda' : DpAll K (but H1 dd) xs ds := dpa_butF hdd hf hn hda
    have el := dpa_len hda
    have hB : (but H1 dd) l = some (.lst xs) := by unfold but; rw [if_neg hld]; exact g1
    exact ⟨l, rfl, ⟨xs, sq_of g1⟩, for_list (Pv H1) (h0 H1 e) (fun i σ' H' _ p => sq_of (hl H1 i σ' H' e p _ _ hB)) (fun i x σ' H' hi p => by
      obtain ⟨d, h1, h2⟩ := dpa_get hda' hi
      exact hs H1 i x d σ' H' e h1 h2 p) (fun σ' H' p => he H1 σ' H' e (el ▸ p))⟩
theorem dpa_appH {K : PySem.W.Frag} {H : Hp} : ∀ {ds : List PyData} {xs ys : List V} {es : List PyData}, DpAll K H xs ds → DpAll K H ys es → DpAll K H (xs ++ ys) (ds ++ es)
  | [], _, _, _, h, g => by cases h; exact g
  | d :: ds, _, _, _, h, g => by
    cases h with
    | cons h1 h2 => exact .cons h1 (dpa_appH h2 g)
theorem eds_star {K : PySem.W.Frag} {σ : L2.St} {H : Hp} {te : TE} {tr : TA} {b : Bool} {ds es : List PyData} (h : EvD K te σ H (seqD b ds)) (hr : EvDs K tr σ H es) : EvDs K (StX.tStar K te tr) σ H (ds ++ es) := fun H1 e Q q =>
  h H1 e _ fun v H2 e2 hd => by
    cases b with
    | false =>
      have hd' : Dp K H2 v (.tuple ds) := hd
      cases hd' with
      | tup hs ha => exact ⟨_, _, rfl, .inl hs, hr H2 (e.trans e2) _ fun vs H3 e3 hds => q _ H3 (e2.trans e3) (dpa_appH (dpa_ex e3 ha) hds)⟩
    | true =>
      have hd' : Dp K H2 v (.list ds) := hd
      cases hd' with
      | lst hs ha => exact ⟨_, _, rfl, .inr hs, hr H2 (e.trans e2) _ fun vs H3 e3 hds => q _ H3 (e2.trans e3) (dpa_appH (dpa_ex e3 ha) hds)⟩
theorem dp_bdX {v : V} {b : Bd} (h : Dp K H v (bdD b)) : ∃ p, v = .ref p ∧ SqT K H p [.str b.1, .str b.2.1, .int b.2.2] := by
  cases h with
  | tup hs ha =>
    cases ha with
    | cons h1 ha => cases ha with
      | cons h2 ha => cases ha with
        | cons h3 ha =>
          cases ha
          cases h1; cases h2; cases h3
          exact ⟨_, rfl, hs⟩
theorem ev_dget2T {a : Addr} {kvs : List (List Key × V)} {k : List Key} {x : V} {tk tx : TE} (hd : Ev ta σ H (.ref a)) (hk : EvU tk σ H (k.map kV)) (hx : Ev tx σ H x) (h : H a = some (.dT kvs)) : Ev (tDGet2 ta tk tx) σ H ((valV kvs k).getD x) := fun H1 e Q q =>
  hd H1 e _ fun H2 e2 => ⟨a, rfl, .inr ⟨kvs, .inl ((e.trans e2) _ _ h)⟩, hk H2 (e.trans e2) _ fun p H3 _ e3 hp => hx H3 ((e.trans e2).trans e3) _ fun H4 e4 => ⟨_, .inr ⟨kvs, k, p, .inl (((e.trans e2).trans (e3.trans e4)) _ _ h), rfl, e4 _ _ hp, rfl⟩, q H4 ((e2.trans e3).trans e4)⟩⟩
end
section
variable {P : Program} {w : World} {K : PySem.W.Frag} {mg : Str → Option Value} {base : Heap} {tg : Tok} {f : Addr} {fd : FuncData}
abbrev s_joined_bounds : Stmt := topS 71
theorem sc_joined_bounds : FnScope ["bounds", "further", "mosts", "x", "y", "most"] ["bounds", "further"] (defScope s_joined_bounds) := ⟨rfl, rfl, rfl, by decide +kernel, rfl, by decide +kernel, by decide +kernel⟩
theorem ok_joined_bounds (F : Fun K "joined_bounds" "joined_bounds" s_joined_bounds f fd) (T : Txt mg tg) : FnOk P w K mg base CX0 1 f fd ["bounds", "further"] (spJoinB K) := by
  refine F.ok sc_joined_bounds (fun vs H Q E h => ?_) (fun cdv A outer s H vs Q E hr h => ?_)
  · obtain ⟨u, v, b, c, es, bs, fs, rfl, _⟩ := h
    rfl
  · obtain ⟨u, v, b, c, es, bs, fs, rfl, hu, hv, hB, hf, z1, z2, q⟩ := h
    refine ⟨_, (pss_cons (ps_set (i := 2) sc_joined_bounds.nd rfl (Or.inl rfl) pe_dnewT) (pss_cons (ps_for PassesOwn.never rfl (pi_listK (K := K) rfl (pe_lst (StX.pa_star (pv 0) (StX.pa_star (pv 1) pa_nil)))) (pg_tupK (K := K) (n := 3) rfl rfl (pgs_cons (pg_name (i := 3) sc_joined_bounds.nd rfl (Or.inl rfl)) (pgs_cons (pg_name (i := 4) sc_joined_bounds.nd rfl (Or.inl rfl)) (pgs_cons (pg_name (i := 5) sc_joined_bounds.nd rfl (Or.inl rfl)) pgs_nil)))) (pss_one (ps_dput (hu_of hr) (pv 2) (pe_tup (pa_cons (pv 3) (pa_cons (pv 4) pa_nil))) (pe_callB (call_min2 rfl) (by rfl) T.min (by decide +kernel) (pa_cons (pv 5) (pa_cons (pe_dget2 (hu_of hr) (pv 2) (pe_tup (pa_cons (pv 3) (pa_cons (pv 4) pa_nil))) (pv 5) ⟨rfl, rfl, rfl, rfl⟩) pa_nil))) rfl))) (pss_one (ps_ret (pe_callTy call_tuple_of (by rfl) T.tuple (by decide +kernel) (pa_cons (pe_callB (cr_sortedDK (K := K) rfl (hu100 hr)) (by rfl) T.sorted (by decide +kernel) (pa_cons (pe_lock (pe_lc (own := [("x", 3), ("y", 4), ("most", 5)]) rfl sc_joined_bounds.nd (pi_itemsT (pv 2)) (blkOk_by (own := [("x", 3), ("y", 4), ("most", 5)]) (N := ["bounds", "further", "mosts", "x", "y", "most"]) (sc := defScope s_joined_bounds) (by decide +kernel)) (fun _ _ _ _ _ => (pg_tupK (K := K) (n := 2) rfl rfl (pgs_cons (pg_tupK (K := K) (n := 2) rfl rfl (pgs_cons (pg_name (i := 3) sc_joined_bounds.nd rfl (Or.inl rfl)) (pgs_cons (pg_name (i := 4) sc_joined_bounds.nd rfl (Or.inl rfl)) pgs_nil))) (pgs_cons (pg_name (i := 5) sc_joined_bounds.nd rfl (Or.inl rfl)) pgs_nil)))) (fun _ _ _ _ _ => pts_nil) (fun _ _ _ _ _ => (pe_tup (pa_cons (pv 3) (pa_cons (pv 4) (pa_cons (pv 5) pa_nil))))))) pa_nil)) pa_nil)))))), ?_⟩
    intro kd hkd
    have e0 : Ex H (upd H kd (.dT [])) := Ex.new hkd
    have hk0 : (upd H kd (.dT [])) kd = some (.dT []) := upd_same
    have hlen : (bs.map bdD ++ (fs.map bdD ++ [])).length ≤ 200 := by simp only [List.length_append, List.length_map, List.length_nil]; omega
    have hds : bs.map bdD ++ (fs.map bdD ++ []) = (bs ++ fs).map bdD := by rw [List.append_nil, List.map_append]
    refine q_forENk (K := K) (ds := bs.map bdD ++ (fs.map bdD ++ [])) (dd := kd) (en_lst (eds_star (b := b) (ed_of (ev_var rfl) (dp_ex e0 hu)) (eds_star (b := c) (ed_of (ev_var rfl) (dp_ex e0 hv)) eds_nil)) (by omega)) hk0 ⟨fun zs h => (nomatch h), fun ob zs h => (nomatch h)⟩ (noLs_of fun d hd => by
      rw [hds] at hd
      obtain ⟨r, _, rfl⟩ := List.mem_map.mp hd
      rfl) (fun H1 i σ' H' => ∃ x3 x4 x5 kvs, σ' = [some u, some v, some (.ref kd), x3, x4, x5] ∧ Ex (but H1 kd) (but H' kd) ∧ H' kd = some (.dT kvs) ∧ MapK kvs (((bs ++ fs).take i).foldl withM fun _ _ => none) ∧ kvs.length ≤ i)
      (fun H1 e1 => ⟨_, _, _, [], rfl, Ex.refl _, e1 _ _ hk0, MapK.nil, Nat.le_refl _⟩) (fun H1 i σ' H' e1 ⟨_, _, _, _, _, p, _⟩ => p.trans (but_ex _ _)) ?_ ?_
    · rintro H1 i x d σ' H' e1 hi hx ⟨x3, x4, x5, kvs, rfl, p1, p2, M, hl⟩
      rw [hds, List.getElem?_map] at hi
      obtain ⟨r, hr, rfl⟩ := Option.map_eq_some_iff.mp hi
      obtain ⟨a, rfl, ha⟩ := dp_bdX hx
      have hil := (List.getElem?_eq_some_iff.mp hr).1
      have hi2 : i < 200 := by rw [List.length_append] at hil; omega
      obtain ⟨rx, ry, ri⟩ := r
      refine goes_tup3 (ex_t (p1.trans (but_ex _ _)) ha) _ _ (Ex.refl _) ?_
      have hv : ∀ {σ : L2.St}, σ[2]? = some (some (.ref kd)) → σ[3]? = some (some (.str rx)) → σ[4]? = some (some (.str ry)) → σ[5]? = some (some (.int ri)) → Ev (tCB (fun xs H Q => ∃ i j, xs = [V.int i, V.int j] ∧ Q (V.int (if j < i then j else i)) H) (tCons (tVar 5) (tCons (tDGet2 (tVar 2) (tTup (tCons (tVar 3) (tCons (tVar 4) tNil))) (tVar 5)) tNil))) σ H' (.int (match (((bs ++ fs).take i).foldl withM fun _ _ => none) rx ry with | some j => if j < ri then j else ri | none => ri)) := fun h2 h3 h4 h5 => by
        have hg := ev_dget2T (ta := tVar 2) (tx := tVar 5) (k := keyP rx ry) (ev_var h2) (eu_tup (ea_cons (ev_var h3) (ea_cons (ev_var h4) ea_nil)) (by show 2 ≤ 100000; decide)) (ev_var h5) p2
        rw [M.val] at hg
        cases em : (((bs ++ fs).take i).foldl withM fun _ _ => none) rx ry with
        | none =>
          rw [em] at hg
          exact ev_is (ev_callB (ea_cons (ev_var h5) (ea_cons hg ea_nil)) fun _ _ q => ⟨ri, ri, rfl, q⟩) (by rw [if_neg (Int.lt_irrefl ri)])
        | some j =>
          rw [em] at hg
          exact ev_callB (ea_cons (ev_var h5) (ea_cons hg ea_nil)) fun _ _ q => ⟨ri, j, rfl, q⟩
      refine (hv rfl rfl rfl rfl) H' (Ex.refl _) _ fun H2 e2 => ⟨.ref kd, rfl, ?_⟩
      refine (eu_tup (ea_cons (ev_var rfl) (ea_cons (ev_var rfl) ea_nil)) (by show 2 ≤ 100000; decide)) H2 (Ex.refl _) _ fun p3 H3 hp3 e3 hx3 => ⟨kd, _, rfl, DPut.t (k := keyP rx ry) (e3 _ _ (e2 _ _ p2)) hx3 (sz_lt (by omega)), ?_⟩
      refine ⟨_, _, _, _, rfl, ?_, upd_same, ?_, ?_⟩
      · rw [but_put]
        exact p1.trans (but_mono (e2.trans e3))
      · rw [take_snoc hr, List.foldl_append]
        exact M.put rx ry ri
      · refine Nat.le_trans (m := kvs.length + 1) ?_ (by omega)
        unfold putK
        split
        · rw [List.length_map]; omega
        · rw [List.length_append]; exact Nat.le_refl _
    · rintro H1 σ' H' e1 ⟨x3, x4, x5, kvs, rfl, p1, p2, M, hl⟩
      rw [List.take_of_length_le (by simp only [List.length_append, List.length_map, List.length_nil]; omega)] at M
      have F := fold_fin (es := es) (fs := bs ++ fs) (Fin.nil es) fun r hr => by
        rcases List.mem_append.mp hr with h | h
        · exact (Bds.iff.mp hB).1 r h
        · exact hf r h
      have ej : canon es ((bs ++ fs).foldl withM fun _ _ => none) = joinB es bs fs := by
        rw [List.foldl_append, fold_self hB]
        rfl
      refine tp_items p2 M.form (by omega) fun p rs H2 hp e2 hx hr => ?_
      refine ⟨p, rs.map V.ref, kvs.map limD, rfl, sq_of hx, rows_dp hr M.form, fun a ha b hb => ?_, .inl fun d hd => ?_, fun d hd => ?_, by rw [List.length_map]; omega, fun l2 qs hp2 hs hdq hl2 => ?_⟩
      · obtain ⟨i, _, rfl⟩ := List.mem_map.mp ha
        obtain ⟨j, _, rfl⟩ := List.mem_map.mp hb
        simp [limD, PySem.W.alike, PySem.W.alikeAll]
      · obtain ⟨i, _, rfl⟩ := List.mem_map.mp hd
        exact ⟨_, _, rfl⟩
      · obtain ⟨i, _, rfl⟩ := List.mem_map.mp hd
        simp [limD, PyData.depth, PyData.depthAll]
      have hperm := hp2.map (·.2)
      rw [zip_snd (dpa_len (rows_dp (K := K) hr M.form))] at hperm
      have hrows := rows_canon M F hperm hs
      rw [ej] at hrows
      refine ⟨l2, qs.map (·.1), rfl, .inl ⟨sq_of upd_same, fun l hl => q (.ref l) _ ?_ ?_⟩⟩
      · have e4 : Ex H H' := ((ex_but (e0.trans e1) hkd).trans p1).trans (but_ex _ _)
        exact (((e4.trans e2).trans (Ex.new hl2)).trans (Ex.new hl))
      · rw [← hrows]
        exact .tup (st_of upd_same) (dpa_ex ((Ex.new hl2).trans (Ex.new hl)) hdq)
end
end Vf
end
section
set_option Elab.async false
set_option linter.all false
set_option maxRecDepth 100000
set_option maxHeartbeats 8000000
namespace Vf
open PySem PySem.Spec PyProof.Rows L2 Evl
/-! ### ==, != and in, of data without dicts -/
def okP (d : PyData) : Bool := d.plain && decide (d.depth ≤ 60)
def rEqP (K : PySem.W.Frag) : R2 := fun x y H Q => ∃ d e, Dp K H x d ∧ Dp K H y e ∧ okP d = true ∧ okP e = true ∧ Q (.bl (PyData.eqv d e)) H
def rNeP (K : PySem.W.Frag) : R2 := fun x y H Q => ∃ d e, Dp K H x d ∧ Dp K H y e ∧ okP d = true ∧ okP e = true ∧ Q (.bl (!PyData.eqv d e)) H
def rInP (K : PySem.W.Frag) (b neg : Bool) : R2 := fun x y H Q => ∃ d ds, Dp K H x d ∧ Dp K H y (seqD b ds) ∧ okP d = true ∧ okP (.list ds) = true ∧ Q (.bl (if neg = true then !(ds.any fun e => PyData.eqv e d) else ds.any fun e => PyData.eqv e d)) H
theorem okP_two {d : PyData} (h : okP d = true) : d.plain = true ∧ d.depth ≤ 60 := ⟨(Bool.and_eq_true_iff.mp h).1, of_decide_eq_true (Bool.and_eq_true_iff.mp h).2⟩
section
variable {X : Cx}
theorem op_eqP (hu : X.A.units + 64 < cLine) : OpR X (compareOp .Eq) (rEqP X.K) := by
  intro pins s σ H x y v u Q I rx ry h
  obtain ⟨d, e, hd, he, sd, se, q⟩ := h
  obtain ⟨as, r1⟩ := Dp.reads I d x v hd rx
  obtain ⟨bs, r2⟩ := Dp.reads I e y u he ry
  have := (okP_two sd).2
  exact SeqAt.eq_plain r1 r2 (okP_two sd).1 (okP_two se).1 (by omega) ⟨.bl _, H, I, rfl, q⟩
theorem op_neP (hu : X.A.units + 64 < cLine) : OpR X (compareOp .NotEq) (rNeP X.K) := by
  intro pins s σ H x y v u Q I rx ry h
  obtain ⟨d, e, hd, he, sd, se, q⟩ := h
  obtain ⟨as, r1⟩ := Dp.reads I d x v hd rx
  obtain ⟨bs, r2⟩ := Dp.reads I e y u he ry
  have := (okP_two sd).2
  exact SeqAt.ne_plain r1 r2 (okP_two sd).1 (okP_two se).1 (by omega) ⟨.bl _, H, I, rfl, q⟩
theorem op_inP {b : Bool} (hu : X.A.units + 64 < cLine) : OpR X (compareOp .In) (rInP X.K b false) := by
  intro pins s σ H x y v u Q I rx ry h
  obtain ⟨d, ds, hd, he, sd, se, q⟩ := h
  obtain ⟨as, r1⟩ := Dp.reads I d x v hd rx
  obtain ⟨bs, r2⟩ := Dp.reads I _ y u he ry
  have := (okP_two sd).2
  cases b with
  | true => exact SeqAt.in_list_data r2 r1 (okP_two se).1 (okP_two sd).1 (by omega) ⟨.bl _, H, I, rfl, q⟩
  | false => exact SeqAt.in_tuple_data r2 r1 (okP_two se).1 (okP_two sd).1 (by omega) ⟨.bl _, H, I, rfl, q⟩
theorem op_ninP {b : Bool} (hu : X.A.units + 64 < cLine) : OpR X (compareOp .NotIn) (rInP X.K b true) := by
  intro pins s σ H x y v u Q I rx ry h
  obtain ⟨d, ds, hd, he, sd, se, q⟩ := h
  obtain ⟨as, r1⟩ := Dp.reads I d x v hd rx
  obtain ⟨bs, r2⟩ := Dp.reads I _ y u he ry
  have := (okP_two sd).2
  cases b with
  | true => exact SeqAt.notIn_list_data r2 r1 (okP_two se).1 (okP_two sd).1 (by omega) ⟨.bl _, H, I, rfl, q⟩
  | false => exact SeqAt.notIn_tuple_data r2 r1 (okP_two se).1 (okP_two sd).1 (by omega) ⟨.bl _, H, I, rfl, q⟩
variable {K : PySem.W.Frag}
theorem op_eqPK (h : X.K = K) (hu : X.A.units + 64 < cLine) : OpR X (compareOp .Eq) (rEqP K) := h ▸ op_eqP hu
theorem op_nePK (h : X.K = K) (hu : X.A.units + 64 < cLine) : OpR X (compareOp .NotEq) (rNeP K) := h ▸ op_neP hu
theorem op_inPK {b : Bool} (h : X.K = K) (hu : X.A.units + 64 < cLine) : OpR X (compareOp .In) (rInP K b false) := h ▸ op_inP hu
theorem op_ninPK {b : Bool} (h : X.K = K) (hu : X.A.units + 64 < cLine) : OpR X (compareOp .NotIn) (rInP K b true) := h ▸ op_ninP hu
end
section
variable {K : PySem.W.Frag} {H : Hp} {σ : L2.St} {te ta tb : TE} {t : TT} {tz : TS} {D : Ends}
theorem rd_eqP {d d' : PyData} (h : okP d = true) (h' : okP d' = true) : RD K (rEqP K) d d' H (.bl (PyData.eqv d d')) := fun H1 _ x y hx hy Q q => ⟨d, d', hx, hy, h, h', q⟩
theorem rd_neP {d d' : PyData} (h : okP d = true) (h' : okP d' = true) : RD K (rNeP K) d d' H (.bl (!PyData.eqv d d')) := fun H1 _ x y hx hy Q q => ⟨d, d', hx, hy, h, h', q⟩
theorem rd_inP {b : Bool} {d : PyData} {ds : List PyData} (h : okP d = true) (h' : okP (.list ds) = true) : RD K (rInP K b false) d (seqD b ds) H (.bl (ds.any fun e => PyData.eqv e d)) := fun H1 _ x y hx hy Q q => ⟨d, ds, hx, hy, h, h', q⟩
theorem rd_ninP {b : Bool} {d : PyData} {ds : List PyData} (h : okP d = true) (h' : okP (.list ds) = true) : RD K (rInP K b true) d (seqD b ds) H (.bl (!(ds.any fun e => PyData.eqv e d))) := fun H1 _ x y hx hy Q q => ⟨d, ds, hx, hy, h, h', q⟩
theorem eqv_nil0 : ∀ ds : List PyData, PyData.eqv (.list ds) (.list []) = ds.isEmpty
  | [] => rfl
  | d :: r => by rw [PyData.eqv]; rfl
theorem eqv_nilT : ∀ ds : List PyData, PyData.eqv (.tuple ds) (.tuple []) = ds.isEmpty
  | [] => rfl
  | d :: r => by rw [PyData.eqv]; rfl
theorem ok_eds : ∀ l : List EdS, PyData.plainAll (l.map edD) = true ∧ PyData.depthAll (l.map edD) ≤ 1
  | [] => ⟨rfl, Nat.zero_le _⟩
  | a :: l => by
    obtain ⟨h1, h2⟩ := ok_eds l
    refine ⟨?_, ?_⟩
    · show (true && _) = true
      exact h1
    · rw [List.map_cons, PyData.depthAll]
      exact Nat.max_le.mpr ⟨by simp [edD, PyData.depth, PyData.depthAll], h2⟩
theorem okP_eds (l : List EdS) : okP (.list (l.map edD)) = true := by
  obtain ⟨h1, h2⟩ := ok_eds l
  unfold okP
  rw [Bool.and_eq_true_iff]
  refine ⟨h1, decide_eq_true ?_⟩
  rw [PyData.depth]
  omega
theorem okP_ed (a : EdS) : okP (edD a) = true := by simp [okP, edD, PyData.plain, PyData.plainAll, PyData.depth, PyData.depthAll]
/-! ### lists, old or new -/
/-- a list of data, old or new -/
def EvP (K : PySem.W.Frag) (te : TE) (σ : L2.St) (H : Hp) (ds : List PyData) : Prop := ∀ H1, Ex H H1 → ∀ Q : VK, (∀ l xs H2, Ex H1 H2 → H2 l = some (.lst xs) → DpAll K H2 xs ds → Q (.ref l) H2) → te σ H1 Q
theorem dpa_app2 : ∀ {ds : List PyData} {xs ys : List V} {es : List PyData}, DpAll K H xs ds → DpAll K H ys es → DpAll K H (xs ++ ys) (ds ++ es)
  | _, _, _, _, .nil, g => g
  | _, _, _, _, .cons h t, g => .cons h (dpa_app2 t g)
theorem en_catP {ds es : List PyData} (ha : EvP K ta σ H ds) (hb : EvP K tb σ H es) (hl : ds.length + es.length ≤ 100000) : EvN K (tOp rCat ta tb) σ H (ds ++ es) := fun H1 e Q q =>
  ha H1 e _ fun l xs H2 e2 h2 d2 => hb H2 (e.trans e2) _ fun l' ys H3 e3 h3 d3 => ⟨l, l', xs, ys, rfl, rfl, e3 _ _ h2, h3, by
    have l1 := dpa_len d2
    have l2 := dpa_len d3
    exact sz_of (by omega), fun b hb => q b _ _ (fresh_back (e2.trans e3) hb) ((e2.trans e3).trans (Ex.new hb)) upd_same (dpa_app2 (dpa_ex (e3.trans (Ex.new hb)) d2) (dpa_ex (Ex.new hb) d3))⟩
theorem en_if {ds : List PyData} {b : Bool} (h : EvT t σ H b) (h1 : b = true → EvN K ta σ H ds) (h2 : b = false → EvN K tb σ H ds) : EvN K (tIf t ta tb) σ H ds := fun H1 e Q q => h H1 e _ fun H2 e2 => by
  cases b with
  | true =>
    show ta σ H2 Q
    exact h1 rfl H2 (e.trans e2) Q fun p xs H3 hp e3 hx hd => q p xs H3 (fresh_back e2 hp) (e2.trans e3) hx hd
  | false =>
    show tb σ H2 Q
    exact h2 rfl H2 (e.trans e2) Q fun p xs H3 hp e3 hx hd => q p xs H3 (fresh_back e2 hp) (e2.trans e3) hx hd
theorem noLs_given {n : Nat} {f : Nat → Bool} {w : Nat → PyData} (h : ∀ i, noL (w i) = true) : noLs (givenD n f w) = true := noLs_of fun d hd => by
  obtain ⟨i, _, rfl⟩ := List.mem_map.mp hd
  exact h i
/-- xs = [.. for key in a dict of numbers] -/
theorem q_lockLcI {kn : KwS} {d : Addr} {i j : Nat} {g : TG} {vs : List Nat} (w : Nat → PyData) (hd : H d = some (.dT (dV keyL kn))) (hv : σ[j]? = some (some (.ref d))) (hz : kn.length ≤ 40000) (hn : ∀ i, noL (w i) = true)
    (hg : ∀ (od : Obj) (i : Nat) (q : Addr) r H1, Ex (upd H d (.frz od (.dT (dV keyL kn)))) H1 → kn[i]? = some r → H1 q = some (.tup ((keyL r.1).map kV)) → ∃ σ2, wipe σ2 vs = wipe σ vs ∧ GoesTo g (.ref q) (wipe σ vs) σ2 H1 ∧ EvD K te σ2 H1 (w i))
    (k : ∀ p xs H1, H p = none → Ex H H1 → H1 p = some (.lst xs) → DpAll K H1 xs (givenD kn.length (fun _ => true) w) → tz D (σ.set i (some (.ref p))) H1) :
    tSeq (tLock (tAsg (tLc (iKeys (tVar j)) g tYes te vs) (gName i))) tz D σ H := by
  refine ⟨d, _, hd, True.intro, fun od => ?_⟩
  have len : (dV keyL kn).length = kn.length := dV_len kn
  refine ⟨.ref d, hv, d, od, rfl, .inr ⟨_, upd_same, fun Dl hD => ?_⟩⟩
  have hne : Dl ≠ d := fun z => by rw [z, upd_same] at hD; cases hD
  refine ⟨fun i m H' => m = kn.length - i ∧ i ≤ kn.length ∧ Cd K (upd H d (.frz od (.dT (dV keyL kn)))) (fun _ => true) w Dl i H', ⟨kn.length, by simp, Nat.zero_le _, hD, Ex.new hD, [], upd_same, .nil⟩, ?_⟩
  rintro i m H2 ⟨rfl, hi, p⟩
  have hd' := p.2.1 _ _ upd_same
  by_cases hlt : i < kn.length
  · refine .inr ⟨⟨hd', by rw [len]; exact hlt⟩, Cd K (upd H d (.frz od (.dT (dV keyL kn)))) (fun _ => true) w Dl (i + 1), fun H' p' => ⟨kn.length - (i + 1), by omega, rfl, hlt, p'⟩, fun x H' y => ?_⟩
    obtain ⟨e2, k', v', q, hk, rfl, hq⟩ := y
    subst e2
    unfold dV at hk
    rw [List.getElem?_map] at hk
    obtain ⟨r, hr, e⟩ := Option.map_eq_some_iff.mp hk
    cases e
    obtain ⟨σ2, w1, w2, w4⟩ := hg od i q r _ p.2.1 hr hq
    obtain ⟨p1, p2, xs, p3, p4⟩ := p
    refine w2 _ _ (Ex.refl _) ⟨w1, ?_⟩
    refine w4 _ (Ex.refl _) _ fun y H4 e4 hdy => ⟨xs, e4 _ _ p3, sz_lt ?_, p1, Ex.mut (p2.trans e4) p1, xs ++ [y], upd_same, ?_⟩
    · rw [dpa_len p4]
      have := givenD_len i (fun _ => true) w
      omega
    · rw [givenD_yes rfl, but_put]
      exact dpa_snoc (dpa_ex (but_mono e4) p4) (dp_but (hn i) hdy (e4 _ _ p3))
  · have e3 : i = kn.length := by omega
    subst e3
    obtain ⟨p1, p2, ys, p3, p4⟩ := p
    rw [upd_ne hne] at p1
    refine .inl ⟨⟨hd', by rw [len]; exact Nat.le_refl _⟩, hd', ?_⟩
    refine k Dl ys _ p1 (lock_back p2 hd) (by rw [upd_ne hne]; exact p3) ?_
    exact dpa_ex (but_upd (Ex.refl _)) (dpa_butF (p := d) hd' free_fT (noLs_given hn) (dpa_ex (but_ex _ _) p4))
end
end Vf
end
section
set_option Elab.async false
set_option linter.all false
set_option maxRecDepth 100000
set_option maxHeartbeats 4000000
namespace Vf
open PySem PySem.Spec PyProof.Rows L2 Evl
/-! ### tuples put together and cut, also empty ones and whole ones; comprehensions over typed rows -/
theorem op_catAK {X : Cx} {K : PySem.W.Frag} (h : X.K = K) : OpR X (binaryOp .Add) (rCatA K) := h ▸ op_catA
theorem sl_tupAK {X : Cx} {K : PySem.W.Frag} (h : X.K = K) : SlR X (rSlA K) := h ▸ sl_tupA
section
variable {K : PySem.W.Frag} {σ : L2.St} {H : Hp} {ta tb tl te : TE} {t : TT} {g : TG} {vs : List Nat}
theorem ed_catA {xs ys : List PyData} (ha : EvD K ta σ H (.tuple xs)) (hb : EvD K tb σ H (.tuple ys)) (hz : xs.length + ys.length ≤ 100000) : EvD K (tOp (rCatA K) ta tb) σ H (.tuple (xs ++ ys)) := fun H1 e Q q =>
  ha H1 e _ fun v H2 e2 hv => hb H2 (e.trans e2) _ fun u H3 e3 hu => by
    have hv3 := dp_ex e3 hv
    cases hv3 with
    | @tup a vs _ s1 d1 =>
      have hu3 := hu
      cases hu3 with
      | @tup b us _ s2 d2 =>
        have l1 := dpa_len d1
        have l2 := dpa_len d2
        refine ⟨a, b, vs, us, rfl, rfl, s1, s2, sz_of (by omega), fun z => ?_, fun _ z => ?_, fun _ _ p hp => q _ _ ((e2.trans e3).trans (Ex.new hp)) (.tup (st_of upd_same) (dpa_appH (dpa_ex (Ex.new hp) d1) (dpa_ex (Ex.new hp) d2)))⟩
        · rw [z] at l1
          have := List.length_eq_zero_iff.mp l1.symm
          subst this
          exact q _ _ (e2.trans e3) hu
        · rw [z] at l2
          have := List.length_eq_zero_iff.mp l2.symm
          subst this
          rw [List.append_nil] at q
          exact q _ _ (e2.trans e3) (.tup s1 d1)
theorem dpa_drop {H : Hp} : ∀ (i : Nat) {vs : List V} {ds : List PyData}, DpAll K H vs ds → DpAll K H (vs.drop i) (ds.drop i)
  | 0, _, _, h => h
  | i + 1, _, _, .nil => .nil
  | i + 1, _, _, .cons _ t => dpa_drop i t
theorem dpa_take {H : Hp} : ∀ (i : Nat) {vs : List V} {ds : List PyData}, DpAll K H vs ds → DpAll K H (vs.take i) (ds.take i)
  | 0, _, _, _ => .nil
  | i + 1, _, _, .nil => .nil
  | i + 1, _, _, .cons h t => .cons h (dpa_take i t)
theorem ed_slA {lo hi : Option Int} {to th : TO} {ds : List PyData} (h : EvD K te σ H (.tuple ds)) (h1 : EvO to σ H lo) (h2 : EvO th σ H hi) :
    EvD K (tSl (rSlA K) te to th) σ H (.tuple ((ds.drop (HT.sIx ds.length 0 lo)).take (HT.sIx ds.length ds.length hi - HT.sIx ds.length 0 lo))) := fun H0 e Q q => h H0 e _ fun v H1 e1 hd => by
  cases hd with
  | @tup a xs _ hs ha =>
    have el := dpa_len ha
    refine h1 H1 (e.trans e1) _ fun H2 e2 => h2 H2 ((e.trans e1).trans e2) _ fun H3 e3 => ⟨a, xs, rfl, ex_t (e2.trans e3) hs, fun hw => ?_, fun _ p hp => ?_⟩
    · rw [el] at hw
      rw [hw.1, hw.2, List.drop_zero, Nat.sub_zero, List.take_length] at q
      exact q _ _ ((e1.trans e2).trans e3) (.tup (ex_t (e2.trans e3) hs) (dpa_ex (e2.trans e3) ha))
    · refine q (.ref p) _ (((e1.trans e2).trans e3).trans (Ex.new hp)) (.tup (st_of upd_same) ?_)
      unfold cutV
      rw [el]
      exact dpa_take _ (dpa_drop _ (dpa_ex ((e2.trans e3).trans (Ex.new hp)) ha))
variable {α : Type} {l : List α} {fa fb : α → PyData}
theorem given_mf (l : List α) (p : α → Bool) (fa fb : α → PyData) (d : α) : givenD (l.map fa).length (fun i => p (l.getD i d)) (fun i => fb (l.getD i d)) = (l.filter p).map fb := by
  unfold givenD
  rw [List.length_map]
  have e : l = (List.range l.length).map fun i => l.getD i d := by
    refine List.ext_getElem (by simp) fun i h1 h2 => ?_
    have h3 : i < l.length := by simpa using h1
    simp [List.getD, h3]
  conv => rhs; rw [e]
  rw [List.filter_map, List.map_map]
  rfl
/-- [e for x in l if p], l a list -/
theorem en_mL (p : α → Bool) (h : EvD K tl σ H (.list (l.map fa))) (hz : l.length ≤ 40000) (hn : ∀ a ∈ l, p a = true → noL (fb a) = true)
    (hg : ∀ (a : α) (x : V) H1, Ex H H1 → a ∈ l → Dp K H1 x (fa a) → ∃ σ2, wipe σ2 vs = wipe σ vs ∧ GoesTo g x (wipe σ vs) σ2 H1 ∧ EvT t σ2 H1 (p a) ∧ (p a = true → EvD K te σ2 H1 (fb a))) : EvN K (tLc (iList K tl) g t te vs) σ H ((l.filter p).map fb) := by
  cases l with
  | nil => exact en_is (en_lcL (fun _ => true) (fun _ => .none) h (Nat.zero_le _) (fun _ _ => rfl) (fun i x d H1 e1 hi hx => by simp at hi)) rfl
  | cons b r =>
    refine en_is (en_lcL (fun i => p ((b :: r).getD i b)) (fun i => fb ((b :: r).getD i b)) h (by rw [List.length_map]; exact hz) (fun i hi => ?_) (fun i x d H1 e1 hi hx => ?_)) (given_mf _ p fa fb b)
    · by_cases h3 : i < (b :: r).length
      · have hm : (b :: r).getD i b ∈ b :: r := by simp only [List.getD, List.getElem?_eq_getElem h3, Option.getD_some]; exact List.getElem_mem h3
        exact hn _ hm hi
      · have e : (b :: r).getD i b = b := by simp only [List.getD, List.getElem?_eq_none (Nat.le_of_not_lt h3), Option.getD_none]
        rw [e] at hi ⊢
        exact hn _ List.mem_cons_self hi
    · rw [List.getElem?_map] at hi
      obtain ⟨a, ha, rfl⟩ := Option.map_eq_some_iff.mp hi
      have e : (b :: r).getD i b = a := by simp only [List.getD, ha, Option.getD_some]
      rw [e]
      exact hg a x H1 e1 (List.mem_of_getElem? ha) hx
/-- l a tuple -/
theorem en_mT (p : α → Bool) (h : EvD K tl σ H (.tuple (l.map fa))) (hz : l.length ≤ 40000) (hn : ∀ a ∈ l, p a = true → noL (fb a) = true)
    (hg : ∀ (a : α) (x : V) H1, Ex H H1 → a ∈ l → Dp K H1 x (fa a) → ∃ σ2, wipe σ2 vs = wipe σ vs ∧ GoesTo g x (wipe σ vs) σ2 H1 ∧ EvT t σ2 H1 (p a) ∧ (p a = true → EvD K te σ2 H1 (fb a))) : EvN K (tLc (iTup K tl) g t te vs) σ H ((l.filter p).map fb) := by
  cases l with
  | nil => exact en_is (en_lcT (fun _ => true) (fun _ => .none) h (Nat.zero_le _) (fun _ _ => rfl) (fun i x d H1 e1 hi hx => by simp at hi)) rfl
  | cons b r =>
    refine en_is (en_lcT (fun i => p ((b :: r).getD i b)) (fun i => fb ((b :: r).getD i b)) h (by rw [List.length_map]; exact hz) (fun i hi => ?_) (fun i x d H1 e1 hi hx => ?_)) (given_mf _ p fa fb b)
    · by_cases h3 : i < (b :: r).length
      · have hm : (b :: r).getD i b ∈ b :: r := by simp only [List.getD, List.getElem?_eq_getElem h3, Option.getD_some]; exact List.getElem_mem h3
        exact hn _ hm hi
      · have e : (b :: r).getD i b = b := by simp only [List.getD, List.getElem?_eq_none (Nat.le_of_not_lt h3), Option.getD_none]
        rw [e] at hi ⊢
        exact hn _ List.mem_cons_self hi
    · rw [List.getElem?_map] at hi
      obtain ⟨a, ha, rfl⟩ := Option.map_eq_some_iff.mp hi
      have e : (b :: r).getD i b = a := by simp only [List.getD, ha, Option.getD_some]
      rw [e]
      exact hg a x H1 e1 (List.mem_of_getElem? ha) hx
theorem filter_true (l : List α) : l.filter (fun _ => true) = l := List.filter_eq_self.mpr fun _ _ => rfl
theorem en_aL (h : EvD K tl σ H (.list (l.map fa))) (hz : l.length ≤ 40000) (hn : ∀ a ∈ l, noL (fb a) = true)
    (hg : ∀ (a : α) (x : V) H1, Ex H H1 → a ∈ l → Dp K H1 x (fa a) → ∃ σ2, wipe σ2 vs = wipe σ vs ∧ GoesTo g x (wipe σ vs) σ2 H1 ∧ EvD K te σ2 H1 (fb a)) : EvN K (tLc (iList K tl) g tYes te vs) σ H (l.map fb) := by
  have h2 := en_mL (t := tYes) (te := te) (g := g) (vs := vs) (fb := fb) (fun _ => true) h hz (fun a ha _ => hn a ha) fun a x H1 e1 ha hx => by
    obtain ⟨σ2, w1, w2, w3⟩ := hg a x H1 e1 ha hx
    exact ⟨σ2, w1, w2, fun H1 e Q q => q H1 (Ex.refl H1), fun _ => w3⟩
  rw [filter_true] at h2
  exact h2
theorem en_aT (h : EvD K tl σ H (.tuple (l.map fa))) (hz : l.length ≤ 40000) (hn : ∀ a ∈ l, noL (fb a) = true)
    (hg : ∀ (a : α) (x : V) H1, Ex H H1 → a ∈ l → Dp K H1 x (fa a) → ∃ σ2, wipe σ2 vs = wipe σ vs ∧ GoesTo g x (wipe σ vs) σ2 H1 ∧ EvD K te σ2 H1 (fb a)) : EvN K (tLc (iTup K tl) g tYes te vs) σ H (l.map fb) := by
  have h2 := en_mT (t := tYes) (te := te) (g := g) (vs := vs) (fb := fb) (fun _ => true) h hz (fun a ha _ => hn a ha) fun a x H1 e1 ha hx => by
    obtain ⟨σ2, w1, w2, w3⟩ := hg a x H1 e1 ha hx
    exact ⟨σ2, w1, w2, fun H1 e Q q => q H1 (Ex.refl H1), fun _ => w3⟩
  rw [filter_true] at h2
  exact h2
/-- tuple(a new list): its object is known -/
theorem ed_tupN {ds : List PyData} (h : EvN K te σ H ds) : EvD K (tCB (rTupF K) (tCons te tNil)) σ H (.tuple ds) := fun H1 e Q q =>
  h H1 e _ fun p xs H2 hp e2 h2 hd => ⟨p, xs, rfl, sq_of h2, fun l o hl ho => q _ _ (e2.trans (Ex.new hl)) (.tup (sf_of upd_same) (dpa_ex (Ex.new hl) hd))⟩
abbrev rTupOf (K : PySem.W.Frag) : List V → Hp → VK → Prop := fun xs H Q => ∃ p ys, xs = [.ref p] ∧ ((SqL K H p ys ∧ ∀ l, H l = none → Q (.ref l) (upd H l (.tup ys))) ∨ (SqT K H p ys ∧ Q (.ref p) H))
/-- tuple(a list of data) -/
theorem ed_tupOf {ds : List PyData} (h : EvD K te σ H (.list ds)) : EvD K (tCB (rTupOf K) (tCons te tNil)) σ H (.tuple ds) := fun H1 e Q q =>
  h H1 e _ fun v H2 e2 hd => by
    cases hd with
    | lst hs ha => exact ⟨_, _, rfl, .inl ⟨hs, fun l hl => q _ _ (e2.trans (Ex.new hl)) (.tup (st_of upd_same) (dpa_ex (Ex.new hl) ha))⟩⟩
end
end Vf
end
section
set_option Elab.async false
set_option linter.all false
set_option maxRecDepth 100000
set_option maxHeartbeats 8000000
namespace Vf
open PySem PySem.Spec PyProof.Rows L2 Evl
/-! ### designs -/
/-- a plan of this law -/
structure DsP (q : PlanL) : Prop where
  nm : ∀ e ∈ q.evs, isName (.str e) = true
  ha : ascD (q.evs.map .str) = true
  hb : Bds q.evs q.bs
  ht : areTasks q.evs (.tuple (q.ts.map tkD)) = true
  l0 : 0 ≤ q.lat
  n1 : 1 ≤ q.evs.length
  n7 : q.evs.length ≤ 7
  n3 : q.ts.length ≤ 3
  nb : q.bs.length ≤ 60
theorem DsP.pl {q : PlanL} (g : DsP q) : isPlan (plT q) = true := isPlan_of g.l0 g.nm g.ha g.hb g.ht
theorem DsP.po {q : PlanL} (g : DsP q) : plOk (plT q) := plOk_of g.nm (by have := g.n7; omega) (by rw [List.length_map]; have := g.nb; omega) (by rw [List.length_map]; have := g.n3; omega)
theorem DsP.ok {q : PlanL} (g : DsP q) {K : PySem.W.Frag} {H : Hp} {v : V} (h : Dp K H v (plT q)) : PlanOk K H v (plT q) := ⟨h, g.po, g.pl⟩
/-- what is known of the class -/
structure DsF (K : PySem.W.Frag) (C : Addr) : Prop where
  cl : Cls K C
  n1 : NoAttr K C "_plan"
  ha : PySem.W.findIn K (.ref C) "__class__" = some (some (.builtin "object.__class__"))
  hn : PySem.W.specialIn K (.builtin "object.__class__") "__get__" = some (some (.builtin "getset_descriptor.__get__"))
  tk : PySem.W.takesIn K (.builtin "object.__class__") = some true
  mr : PySem.W.mroIn K C (.type "object") = some true
/-- a design stands at x -/
def DsgAt (K : PySem.W.Frag) (H : Hp) (C x : Addr) (q : PlanL) : Prop := ∃ dx fs v, H x = some (.ins C dx fs) ∧ fs.lookup ("_plan" : Str) = some v ∧ Dp K H v (plT q)
theorem DsgAt.ex {K : PySem.W.Frag} {H H' : Hp} {C x : Addr} {q : PlanL} (e : Ex H H') (h : DsgAt K H C x q) : DsgAt K H' C x q := by
  obtain ⟨dx, fs, v, h1, h2, h3⟩ := h
  exact ⟨dx, fs, v, e _ _ h1, h2, dp_ex e h3⟩
abbrev spInitD (K : PySem.W.Frag) : Sp := fun vs H Q _ => ∃ x v q C dx, vs = [.ref x, v] ∧ H x = some (.ins C dx []) ∧ DsF K C ∧ PlanOk K (but H x) v (plT q) ∧ ∀ H2, Ex (but H x) (but H2 x) → H2 x = some (.ins C dx [("_plan", v)]) → Q .non H2
abbrev spGetP (K : PySem.W.Frag) : Sp := fun vs H Q _ => ∃ x q C, vs = [.ref x] ∧ DsF K C ∧ DsgAt K H C x q ∧ RetD K (plT q) H Q
/-- what the class and its __init__ are to those who make designs -/
structure DsB (P : Program) (w : World) (K : PySem.W.Frag) (mg : Str → Option Value) (base : Heap) (k : Nat) (C : Addr) : Prop where
  f : DsF K C
  g : mg "Design" = some (.ref C)
  ex : ∃ fa fd, Mk K C fa ∧ FnOk P w K mg base CX0 k fa fd ["self", "plan"] (spInitD K) ∧ Binds K fd ["self", "plan"] []
theorem pe_fldK {X : Cx} {K : PySem.W.Frag} (hK : X.K = K) {e : Expr} {f : Str} {ta : TE} {pos : Pos} (he : PE X e ta) (hb : attributeBase e f X.env (eval e X.env) = eval e X.env) : PE X (.Attribute e f pos) (tFld K ta f) := hK ▸ pe_fld he hb
theorem plan_at4 {K : PySem.W.Frag} {H : Hp} {v : V} {p : PlanL} (h : Dp K H v (plT p)) : ∃ a v1 v2 v3, v = .ref a ∧ SqT K H a [.int p.lat, v1, v2, v3] ∧ Dp K H v1 (.tuple (p.evs.map .str)) ∧ Dp K H v2 (.tuple (p.bs.map bdD)) ∧ Dp K H v3 (.tuple (p.ts.map tkD)) := by
  cases h with
  | tup hs ha =>
    cases ha with
    | cons h0 ha => cases ha with
      | cons h1 ha => cases ha with
        | cons h2 ha => cases ha with
          | cons h3 ha =>
            cases ha
            cases h0
            exact ⟨_, _, _, _, rfl, hs, h1, h2, h3⟩
theorem knows_tup {K : PySem.W.Frag} {H : Hp} {v : V} {es : List Str} (h : Dp K H v (.tuple (es.map .str))) : Knows K H v es := by
  cases h with
  | tup hs ha =>
    have := dpa_strs_inv ha
    subst this
    exact ⟨_, rfl, .inr hs⟩
theorem op_notInDK {X : Cx} {K : PySem.W.Frag} (hK : X.K = K) (hu : X.A.units + 65 < cLine) : OpR X (compareOp .NotIn) (rNotInD K) := hK ▸ op_notInD hu
theorem call_tuple_ofK {X : Cx} {K : PySem.W.Frag} (h : X.K = K) : CallR X (.type "tuple") (rTupOf K) := h ▸ call_tuple_of
theorem q_anyX {te : TE} {g : TG} {tz : TS} {D : Ends} {σ : L2.St} {H : Hp} (h : te σ H fun x H1 => g x σ H1 fun σ' H' => tz D σ' H') : tSeq (tAsg te g) tz D σ H := h
theorem hu65 {A : Around} {k : Nat} (hr : Room k A) : A.units + 65 < cLine := Nat.lt_of_le_of_lt (by omega) hr.un
section
variable {K : PySem.W.Frag} {σ : L2.St} {H : Hp} {te tl : TE} {E : XK} {Q : VK} {C x : Addr} {q : PlanL}
/-- self._plan -/
theorem ed_fldP {j : Nat} (F : DsF K C) (hv : σ[j]? = some (some (.ref x))) (h : DsgAt K H C x q) : EvD K (tFld K (tVar j) "_plan") σ H (plT q) := fun H1 e Q k => by
  obtain ⟨dx, fs, v, h1, h2, h3⟩ := h.ex e
  exact ⟨.ref x, hv, x, C, dx, fs, v, rfl, h1, F.cl, F.n1, h2, k v H1 (Ex.refl _) h3⟩
/-- Design(plan) -/
theorem s_design (F : DsF K C) (hv : EvD K te σ H (plT q)) (g : DsP q) (k : ∀ x H2, H x = none → Ex H H2 → DsgAt K H2 C x q → Q (.ref x) H2) : tMake C (spInitD K) [] E (tCons te tNil) σ H Q :=
  hv H (Ex.refl H) _ fun v H1 e1 hd x dx hx hdx hne => by
    have eB : Ex H1 (but (upd (upd H1 dx (.own x)) x (.ins C dx [])) x) := by
      rw [but_put]
      exact ex_but (Ex.new hdx) hx
    refine ⟨x, v, q, C, dx, rfl, upd_same, F, g.ok (dp_ex eB hd), fun H2 e2 h2 => ⟨rfl, k x H2 (fresh_back e1 hx) (e1.trans ((eB.trans e2).trans (but_ex H2 x))) ⟨dx, _, v, h2, rfl, dp_ex ((eB.trans e2).trans (but_ex H2 x)) hd⟩⟩⟩
/-- isinstance(o, Design) -/
theorem ev_isD {tc : TE} (F : DsF K C) (hv : Ev te σ H (.ref x)) (hc : Ev tc σ H (.ref C)) (h : DsgAt K H C x q) : Ev (tCB (rIsi K) (tCons te (tCons tc tNil))) σ H (.bl true) := ev_cb (ea_cons hv (ea_cons hc ea_nil)) fun H1 e Q k => by
  obtain ⟨dx, fs, v, h1, _⟩ := h.ex e
  exact ⟨.ref x, .ref C, .ref C, .ref C, true, rfl, .own C, .base (.ins h1 F.cl F.ha F.hn F.tk F.mr), by unfold PySem.W.kitOne; rw [if_pos (by simp)], k H1 (Ex.refl _)⟩
end
section
variable {P : Program} {w : World} {K : PySem.W.Frag} {mg : Str → Option Value} {base : Heap} {tg : Tok} {f : Addr} {fd : FuncData} {C : Addr}
abbrev s_Design_init : Stmt := inClass (topS 74) 0
theorem sc_Design_init : FnScope ["self", "plan"] ["self", "plan"] (defScope s_Design_init) := ⟨rfl, rfl, rfl, by decide +kernel, rfl, by decide +kernel, by decide +kernel⟩
theorem ok_Design_init (F : Fun K "__init__" "Design.__init__" s_Design_init f fd) (T : Txt mg tg) (C_require_plan : Cal P w K mg base 6 "require_plan" ["plan"] (spReq K)) : FnOk P w K mg base CX0 7 f fd ["self", "plan"] (spInitD K) := by
  refine F.ok sc_Design_init (fun vs H Q E h => ?_) (fun cdv A outer s H vs Q E hr h => ?_)
  · obtain ⟨x, v, q, C, dx, rfl, _⟩ := h
    rfl
  · obtain ⟨x, v, p, C, dx, rfl, hx, LV, hP, q⟩ := h
    refine ⟨_, (pss_cons (ps_expr (pe_cal C_require_plan (by first | exact hr | exact hr.mono (by decide)) (by rfl) (pa_cons (pv 1) pa_nil))) (pss_one (ps_fld (pv 0) (pv 1) rfl))), ?_⟩
    refine q_drop (ev_call (ea_cons (ev_var rfl) ea_nil) (spvReq (planOk_ex (but_ex H x) hP))) fun H1 e1 => ?_
    refine ⟨v, rfl, .ref x, rfl, x, C, dx, [], rfl, e1 _ _ hx, LV.cl, LV.n1, by decide, ?_⟩
    refine q _ ?_ upd_same
    rw [but_put]
    exact but_mono e1
abbrev s_Design_plan : Stmt := inClass (topS 74) 1
theorem sc_Design_plan : FnScope ["self"] ["self"] (defScope s_Design_plan) := ⟨rfl, rfl, rfl, by decide +kernel, rfl, by decide +kernel, by decide +kernel⟩
theorem ok_Design_plan (F : Fun K "plan" "Design.plan" s_Design_plan f fd) (T : Txt mg tg) : FnOk P w K mg base CX0 1 f fd ["self"] (spGetP K) := by
  refine F.ok sc_Design_plan (fun vs H Q E h => ?_) (fun cdv A outer s H vs Q E hr h => ?_)
  · obtain ⟨x, q, C, rfl, _⟩ := h
    rfl
  · obtain ⟨x, p, C, rfl, F, hx, q⟩ := h
    refine ⟨_, (pss_one (ps_ret (pe_fldK (K := K) rfl (pv 0) rfl))), ?_⟩
    exact s_retD (Ex.refl _) (ed_fldP (j := 0) F rfl hx) q
noncomputable def withD (q : PlanL) (r : Bd) : PlanL := ⟨q.lat, q.evs, joinB q.evs q.bs [r], q.ts⟩
def withoutD (q : PlanL) (x y : Str) : PlanL := ⟨q.lat, q.evs, q.bs.filter fun b => !decide (b.1 = x ∧ b.2.1 = y), q.ts⟩
noncomputable def joinD (q r : PlanL) : PlanL := ⟨if r.lat < q.lat then r.lat else q.lat, q.evs, joinB q.evs q.bs r.bs, q.ts⟩
theorem isB_iff {es : List Str} {r : Bd} (h : isBound es (bdD r) = true) : isPlace es (.str r.1) = true ∧ isPlace es (.str r.2.1) = true ∧ r.1 ≠ r.2.1 := by
  have h1 : (isPlace es (.str r.1) && (isPlace es (.str r.2.1) && (!decide (r.1 = r.2.1) && true))) = true := h
  rw [Bool.and_eq_true, Bool.and_eq_true, Bool.and_true, Bool.not_eq_true', decide_eq_false_iff_not] at h1
  exact ⟨h1.1, h1.2.1, h1.2.2⟩
theorem isB_of {es : List Str} {r : Bd} (h : isPlace es (.str r.1) = true ∧ isPlace es (.str r.2.1) = true ∧ r.1 ≠ r.2.1) : isBound es (bdD r) = true := by
  show (isPlace es (.str r.1) && (isPlace es (.str r.2.1) && (!decide (r.1 = r.2.1) && true))) = true
  rw [h.1, h.2.1, decide_eq_false h.2.2]
  rfl
theorem isPair_iff {es : List Str} {x y : Str} : isPair es (.tuple [.str x, .str y]) = (isPlace es (.str x) && (isPlace es (.str y) && !decide (x = y))) := rfl
theorem withD_ok {q : PlanL} {r : Bd} (g : DsP q) (hb : isBound q.evs (bdD r) = true) (hn : q.bs.length ≤ 50) : DsP (withD q r) ∧ (withD q r).bs.length ≤ q.bs.length + 1 := by
  have j := joinB_ok g.hb (fs := [r]) fun b h => by rw [List.mem_singleton.mp h]; exact isB_iff hb
  have hl : (joinB q.evs q.bs [r]).length ≤ q.bs.length + 1 := j.2
  exact ⟨⟨g.nm, g.ha, j.1, g.ht, g.l0, g.n1, g.n7, g.n3, by show (joinB q.evs q.bs [r]).length ≤ 60; omega⟩, hl⟩
theorem withoutD_ok {q : PlanL} {x y : Str} (g : DsP q) : DsP (withoutD q x y) ∧ (withoutD q x y).bs.length ≤ q.bs.length := by
  have hl : (withoutD q x y).bs.length ≤ q.bs.length := List.length_filter_le _ _
  exact ⟨⟨g.nm, g.ha, g.hb.filter _, g.ht, g.l0, g.n1, g.n7, g.n3, Nat.le_trans hl g.nb⟩, hl⟩
theorem joinD_ok {q r : PlanL} (g : DsP q) (g2 : DsP r) (he : r.evs = q.evs) (hn : q.bs.length + r.bs.length ≤ 50) : DsP (joinD q r) ∧ (joinD q r).bs.length ≤ q.bs.length + r.bs.length := by
  have j := joinB_ok g.hb (fs := r.bs) fun b h => he ▸ (Bds.iff.mp g2.hb).1 b h
  refine ⟨⟨g.nm, g.ha, j.1, g.ht, ?_, g.n1, g.n7, g.n3, Nat.le_trans j.2 (by omega)⟩, j.2⟩
  show 0 ≤ if r.lat < q.lat then r.lat else q.lat
  have h1 := g.l0
  have h2 := g2.l0
  split <;> assumption
theorem okP_prs (bs : List Bd) : okP (.list (bs.map prD)) = true ∧ okP (.list (bs.map bdD)) = true := by
  have : ∀ l : List Bd, (PyData.plainAll (l.map prD) = true ∧ PyData.depthAll (l.map prD) ≤ 1) ∧ PyData.plainAll (l.map bdD) = true ∧ PyData.depthAll (l.map bdD) ≤ 1 := by
    intro l
    induction l with
    | nil => exact ⟨⟨rfl, Nat.zero_le _⟩, rfl, Nat.zero_le _⟩
    | cons a l ih =>
      obtain ⟨⟨i1, i2⟩, i3, i4⟩ := ih
      refine ⟨⟨i1, ?_⟩, i3, ?_⟩
      · rw [List.map_cons, PyData.depthAll]
        exact Nat.max_le.mpr ⟨by simp [prD, PyData.depth, PyData.depthAll], i2⟩
      · rw [List.map_cons, PyData.depthAll]
        exact Nat.max_le.mpr ⟨by simp [bdD, PyData.depth, PyData.depthAll], i4⟩
  obtain ⟨⟨h1, h2⟩, h3, h4⟩ := this bs
  refine ⟨Bool.and_eq_true_iff.mpr ⟨h1, decide_eq_true ?_⟩, Bool.and_eq_true_iff.mpr ⟨h3, decide_eq_true ?_⟩⟩
  · rw [PyData.depth]; omega
  · rw [PyData.depth]; omega
theorem okP_pr (x y : Str) : okP (.tuple [.str x, .str y]) = true := by simp [okP, PyData.plain, PyData.plainAll, PyData.depth, PyData.depthAll]
theorem eqv_pr (a b : Bd) : PyData.eqv (prD a) (prD b) = decide (a.1 = b.1 ∧ a.2.1 = b.2.1) := by
  simp [prD, PyData.eqv, PyData.eqvAll]
  rfl
theorem okP_evs (es : List Str) : okP (.tuple (es.map .str)) = true := by
  have : ∀ l : List Str, PyData.plainAll (l.map .str) = true ∧ PyData.depthAll (l.map .str) = 0 := by
    intro l
    induction l with
    | nil => exact ⟨rfl, rfl⟩
    | cons a l ih =>
      refine ⟨ih.1, ?_⟩
      rw [List.map_cons, PyData.depthAll, ih.2]
      rfl
  obtain ⟨h1, h2⟩ := this es
  refine Bool.and_eq_true_iff.mpr ⟨h1, decide_eq_true ?_⟩
  rw [PyData.depth, h2]
  decide
theorem okP_tks (ts : List TkS) : okP (.tuple (ts.map tkD)) = true := by
  have : ∀ l : List TkS, PyData.plainAll (l.map tkD) = true ∧ PyData.depthAll (l.map tkD) ≤ 1 := by
    intro l
    induction l with
    | nil => exact ⟨rfl, Nat.zero_le _⟩
    | cons a l ih =>
      refine ⟨ih.1, ?_⟩
      rw [List.map_cons, PyData.depthAll]
      exact Nat.max_le.mpr ⟨by simp [tkD, PyData.depth, PyData.depthAll], ih.2⟩
  obtain ⟨h1, h2⟩ := this ts
  refine Bool.and_eq_true_iff.mpr ⟨h1, decide_eq_true ?_⟩
  rw [PyData.depth]
  omega
section
variable {K : PySem.W.Frag} {σ : L2.St} {H : Hp} {ta tb te tl : TE} {E : XK}
theorem ed_join {es : List Str} {bs fs : List Bd} {b c : Bool} (ha : EvD K ta σ H (seqD b (bs.map bdD))) (hb : EvD K tb σ H (seqD c (fs.map bdD))) (hB : Bds es bs) (hf : ∀ r ∈ fs, isPlace es (.str r.1) = true ∧ isPlace es (.str r.2.1) = true ∧ r.1 ≠ r.2.1) (z1 : bs.length ≤ 100) (z2 : fs.length ≤ 100) :
    EvD K (tCall (spJoinB K) [] E (tCons ta (tCons tb tNil))) σ H (.tuple ((joinB es bs fs).map bdD)) := fun H1 e Q k => ha H1 e _ fun v H2 e2 hv => hb H2 (e.trans e2) _ fun u H3 e3 hu => ⟨v, u, b, c, es, bs, fs, rfl, dp_ex e3 hv, hu, hB, hf, z1, z2, fun w H4 e4 hw => k w H4 ((e2.trans e3).trans e4) hw⟩
/-- bound[:2] -/
theorem ed_cut2 {b : Bd} (h : EvD K te σ H (bdD b)) : EvD K (tSl (rSlT K) te tNoPart (tPart (tC (.int 2)))) σ H (prD b) := ed_slT (lo := none) (hi := some 2) (ds := [.str b.1, .str b.2.1, .int b.2.2]) h eo_none (eo_some ev_c) (by show ¬ (0 = 0 ∧ 2 = 3); decide)
end
abbrev spAddD (K : PySem.W.Frag) (C : Addr) : Sp := fun vs H Q _ => ∃ a u q r, vs = [.ref a, u] ∧ DsgAt K H C a q ∧ DsP q ∧ Dp K H u (bdD r) ∧ isBound q.evs (bdD r) = true ∧ q.bs.length ≤ 50 ∧ ∀ x H2, H x = none → Ex H H2 → DsgAt K H2 C x (withD q r) → Q (.ref x) H2
abbrev spSubD (K : PySem.W.Frag) (C : Addr) : Sp := fun vs H Q _ => ∃ a u q r, vs = [.ref a, u] ∧ DsgAt K H C a q ∧ DsP q ∧ Dp K H u (prD r) ∧ r ∈ q.bs ∧ ∀ x H2, H x = none → Ex H H2 → DsgAt K H2 C x (withoutD q r.1 r.2.1) → Q (.ref x) H2
abbrev spAndD (K : PySem.W.Frag) (C : Addr) : Sp := fun vs H Q _ => ∃ a b q r, vs = [.ref a, .ref b] ∧ DsgAt K H C a q ∧ DsgAt K H C b r ∧ DsP q ∧ DsP r ∧ r.evs = q.evs ∧ r.ts = q.ts ∧ q.bs.length + r.bs.length ≤ 50 ∧ ∀ x H2, H x = none → Ex H H2 → DsgAt K H2 C x (joinD q r) → Q (.ref x) H2
abbrev spSame (K : PySem.W.Frag) : Sp := fun vs H Q _ => ∃ u v q r, vs = [u, v] ∧ Dp K H u (plT q) ∧ Dp K H v (plT r) ∧ r.evs = q.evs ∧ r.ts = q.ts ∧ RetV (.bl true) H Q
abbrev spJoinP (K : PySem.W.Frag) : Sp := fun vs H Q _ => ∃ u v q r, vs = [u, v] ∧ Dp K H u (plT q) ∧ Dp K H v (plT r) ∧ DsP q ∧ DsP r ∧ r.evs = q.evs ∧ r.ts = q.ts ∧ RetD K (plT (joinD q r)) H Q
abbrev s_same_tasks : Stmt := topS 29
theorem sc_same_tasks : FnScope ["one", "other"] ["one", "other"] (defScope s_same_tasks) := ⟨rfl, rfl, rfl, by decide +kernel, rfl, by decide +kernel, by decide +kernel⟩
theorem ok_same_tasks (F : Fun K "same_tasks" "same_tasks" s_same_tasks f fd) (T : Txt mg tg) : FnOk P w K mg base CX0 1 f fd ["one", "other"] (spSame K) := by
  refine F.ok sc_same_tasks (fun vs H Q E h => ?_) (fun cdv A outer s H vs Q E hr h => ?_)
  · obtain ⟨u, v, q, r, rfl, _⟩ := h
    rfl
  · obtain ⟨u, v, p, r, rfl, hu, hv, he, ht, q⟩ := h
    refine ⟨_, (pss_one (ps_ret (pe_and (pe_cmpR (op_eqPK (K := K) rfl (hu64 hr)) (pe_ix (ix_tupK (K := K) rfl) (pv 0) pe_int (fun _ _ => rfl)) (pe_ix (ix_tupK (K := K) rfl) (pv 1) pe_int (fun _ _ => rfl)) (nomark _)) (pe_one (pe_cmpR (op_eqPK (K := K) rfl (hu64 hr)) (pe_ix (ix_tupK (K := K) rfl) (pv 0) pe_int (fun _ _ => rfl)) (pe_ix (ix_tupK (K := K) rfl) (pv 1) pe_int (fun _ _ => rfl)) (nomark _)))))), ?_⟩
    have k1 := okP_evs p.evs
    have k2 := okP_tks p.ts
    refine s_ret (ev_is (ev_andV (a := true) (b := true) (ev_is (ev_opD (K := K) (ed_ixT 1 (ed_of (ev_var rfl) hu) ev_c rfl rfl) (ed_ixT 1 (ed_of (ev_var rfl) hv) ev_c rfl rfl) (rd_eqP k1 (by rw [he]; exact k1))) ?_) fun _ => ev_is (ev_opD (K := K) (ed_ixT 3 (ed_of (ev_var rfl) hu) ev_c rfl rfl) (ed_ixT 3 (ed_of (ev_var rfl) hv) ev_c rfl rfl) (rd_eqP k2 (by rw [ht]; exact k2))) ?_) rfl) q
    · rw [he]
      exact congrArg V.bl (SeqAt.eqv_refl_plain _ (okP_two k1).1)
    · rw [ht]
      exact congrArg V.bl (SeqAt.eqv_refl_plain _ (okP_two k2).1)
abbrev s_joined_plan : Stmt := topS 72
theorem sc_joined_plan : FnScope ["one", "other"] ["one", "other"] (defScope s_joined_plan) := ⟨rfl, rfl, rfl, by decide +kernel, rfl, by decide +kernel, by decide +kernel⟩
theorem ok_joined_plan (F : Fun K "joined_plan" "joined_plan" s_joined_plan f fd) (T : Txt mg tg) (C_same_tasks : Cal P w K mg base 1 "same_tasks" ["one", "other"] (spSame K)) (C_joined_bounds : Cal P w K mg base 1 "joined_bounds" ["bounds", "further"] (spJoinB K)) : FnOk P w K mg base CX0 2 f fd ["one", "other"] (spJoinP K) := by
  refine F.ok sc_joined_plan (fun vs H Q E h => ?_) (fun cdv A outer s H vs Q E hr h => ?_)
  · obtain ⟨u, v, q, r, rfl, _⟩ := h
    rfl
  · obtain ⟨u, v, p, r, rfl, hu, hv, g, g2, he, ht, q⟩ := h
    refine ⟨_, (pss_cons (ps_if (pt_not (pt_val (pe_cal C_same_tasks (by first | exact hr | exact hr.mono (by decide)) (by rfl) (pa_cons (pv 0) (pa_cons (pv 1) pa_nil))))) (pss_one ps_never) pss_nil) (pss_one (ps_ret (pe_tup (pa_cons (pe_callB (call_min2 rfl) (by rfl) T.min (by decide +kernel) (pa_cons (pe_ix (ix_tupK (K := K) rfl) (pv 0) pe_int (fun _ _ => rfl)) (pa_cons (pe_ix (ix_tupK (K := K) rfl) (pv 1) pe_int (fun _ _ => rfl)) pa_nil))) (pa_cons (pe_ix (ix_tupK (K := K) rfl) (pv 0) pe_int (fun _ _ => rfl)) (pa_cons (pe_cal C_joined_bounds (by first | exact hr | exact hr.mono (by decide)) (by rfl) (pa_cons (pe_ix (ix_tupK (K := K) rfl) (pv 0) pe_int (fun _ _ => rfl)) (pa_cons (pe_ix (ix_tupK (K := K) rfl) (pv 1) pe_int (fun _ _ => rfl)) pa_nil))) (pa_cons (pe_ix (ix_tupK (K := K) rfl) (pv 0) pe_int (fun _ _ => rfl)) pa_nil)))))))), ?_⟩
    have n1 := g.nb
    have n2 := g2.nb
    refine q_when (b := false) (et_is (et_not (a := true) (et_B (ev_call (ea_cons (ev_var rfl) (ea_cons (ev_var rfl) ea_nil)) fun H1 e1 Q q' E => ⟨u, v, p, r, rfl, dp_ex e1 hu, dp_ex e1 hv, he, ht, q'⟩))) rfl) (fun h => nomatch h) fun _ H1 e1 => ?_
    have hu1 := dp_ex e1 hu
    have hv1 := dp_ex e1 hv
    refine s_retD e1 (ed_tup (eds_cons (ed_of (ev_callB (ea_cons (ev_intD (ed_ixT 0 (ed_of (ev_var rfl) hu1) ev_c rfl rfl)) (ea_cons (ev_intD (ed_ixT 0 (ed_of (ev_var rfl) hv1) ev_c rfl rfl)) ea_nil)) fun _ _ q => ⟨p.lat, r.lat, rfl, q⟩) (.int _)) (eds_cons (ed_ixT 1 (ed_of (ev_var rfl) hu1) ev_c rfl rfl) (eds_cons (ed_join (b := false) (c := false) (ed_ixT 2 (ed_of (ev_var rfl) hu1) ev_c rfl rfl) (ed_ixT 2 (ed_of (ev_var rfl) hv1) ev_c rfl rfl) g.hb (fun b h => he ▸ (Bds.iff.mp g2.hb).1 b h) (by omega) (by omega)) (eds_cons (ed_ixT 3 (ed_of (ev_var rfl) hu1) ev_c rfl rfl) eds_nil)))) (by show 4 ≤ 100000; decide)) q
abbrev s_Design_add : Stmt := inClass (topS 74) 5
theorem sc_Design_add : FnScope ["self", "other", "latest", "events", "bounds", "tasks"] ["self", "other"] (defScope s_Design_add) := ⟨rfl, rfl, rfl, by decide +kernel, rfl, by decide +kernel, by decide +kernel⟩
theorem ok_Design_add (F : Fun K "__add__" "Design.__add__" s_Design_add f fd) (T : Txt mg tg) (B : DsB P w K mg base 7 C) (C_is_bound : Cal P w K mg base 3 "is_bound" ["events", "value"] (D2 K any2 isBound)) (C_joined_bounds : Cal P w K mg base 1 "joined_bounds" ["bounds", "further"] (spJoinB K)) : FnOk P w K mg base CX0 9 f fd ["self", "other"] (spAddD K C) := by
  obtain ⟨fI, fdI, MD, OD, BD⟩ := B.ex
  refine F.ok sc_Design_add (fun vs H Q E h => ?_) (fun cdv A outer s H vs Q E hr h => ?_)
  · obtain ⟨a, u, q, r, rfl, _⟩ := h
    rfl
  · obtain ⟨a, u, p, r, rfl, ha, g, hu, hb, hn, q⟩ := h
    refine ⟨_, (pss_cons (ps_asg (pe_fldK (K := K) rfl (pv 0) rfl) (pg_tupK (K := K) (n := 4) rfl rfl (pgs_cons (pg_name (i := 2) sc_Design_add.nd rfl (Or.inl rfl)) (pgs_cons (pg_name (i := 3) sc_Design_add.nd rfl (Or.inl rfl)) (pgs_cons (pg_name (i := 4) sc_Design_add.nd rfl (Or.inl rfl)) (pgs_cons (pg_name (i := 5) sc_Design_add.nd rfl (Or.inl rfl)) pgs_nil)))))) (pss_cons (ps_if (pt_not (pt_val (pe_cal C_is_bound (by first | exact hr | exact hr.mono (by decide)) (by rfl) (pa_cons (pv 3) (pa_cons (pv 1) pa_nil))))) (pss_one ps_never) pss_nil) (pss_one (ps_ret (pe_make MD OD (by first | exact hr | exact hr.mono (by decide)) (by rfl) B.g BD .nil pass0 (pa_cons (pe_tup (pa_cons (pv 2) (pa_cons (pv 3) (pa_cons (pe_cal C_joined_bounds (by first | exact hr | exact hr.mono (by decide)) (by rfl) (pa_cons (pv 4) (pa_cons (pe_lst (pa_cons (pv 1) pa_nil)) pa_nil))) (pa_cons (pv 5) pa_nil))))) pa_nil)))))), ?_⟩
    refine q_anyX ((ed_fldP (j := 0) B.f rfl ha) H (Ex.refl _) _ fun v0 H1 e1 hd => ?_)
    obtain ⟨a0, v1, v2, v3, rfl, hs, d1, d2, d3⟩ := plan_at4 hd
    refine goes_tup4 hs _ _ (Ex.refl _) ?_
    refine q_when (b := false) (et_is (et_not (a := true) (et_B (ev_is (ev_call (ea_cons (ev_var rfl) (ea_cons (ev_var rfl) ea_nil)) (spv2 (knows_tup d1) (dp_ex e1 hu) trivial)) (by rw [hb])))) rfl) (fun h => nomatch h) fun _ H2 e2 => ?_
    exact s_design (q := withD p r) B.f (ed_tup (eds_cons (ed_of (ev_var rfl) (.int _)) (eds_cons (ed_of (ev_var rfl) (dp_ex e2 d1)) (eds_cons (ed_join (es := p.evs) (bs := p.bs) (fs := [r]) (b := false) (c := true) (ed_of (ev_var rfl) (dp_ex e2 d2)) (ed_n (en_lst (eds_cons (ed_of (ev_var rfl) (dp_ex (e1.trans e2) hu)) eds_nil) (by show 1 ≤ 100000; decide))) g.hb (fun b h => by rw [List.mem_singleton.mp h]; exact isB_iff hb) (by have := g.nb; omega) (by show 1 ≤ 100; decide)) (eds_cons (ed_of (ev_var rfl) (dp_ex e2 d3)) eds_nil)))) (by show 4 ≤ 100000; decide)) (withD_ok g hb hn).1 fun x H3 hx e3 hx3 => q x H3 (fresh_back (e1.trans e2) hx) ((e1.trans e2).trans e3) hx3
abbrev s_Design_and : Stmt := inClass (topS 74) 7
theorem sc_Design_and : FnScope ["self", "other"] ["self", "other"] (defScope s_Design_and) := ⟨rfl, rfl, rfl, by decide +kernel, rfl, by decide +kernel, by decide +kernel⟩
theorem ok_Design_and (F : Fun K "__and__" "Design.__and__" s_Design_and f fd) (T : Txt mg tg) (B : DsB P w K mg base 7 C) (C_joined_plan : Cal P w K mg base 2 "joined_plan" ["one", "other"] (spJoinP K)) : FnOk P w K mg base CX0 9 f fd ["self", "other"] (spAndD K C) := by
  obtain ⟨fI, fdI, MD, OD, BD⟩ := B.ex
  refine F.ok sc_Design_and (fun vs H Q E h => ?_) (fun cdv A outer s H vs Q E hr h => ?_)
  · obtain ⟨a, b, q, r, rfl, _⟩ := h
    rfl
  · obtain ⟨a, b, p, r, rfl, ha, hb, g, g2, he, ht, hn, q⟩ := h
    refine ⟨_, (pss_cons (ps_if (pt_not (pt_val (pe_callB (call_isiK' (K := K) rfl) (by rfl) T.isinstance (by decide +kernel) (pa_cons (pv 1) (pa_cons (pe_glob (v := .ref C) (by rfl) B.g rfl) pa_nil))))) (pss_one ps_never) pss_nil) (pss_one (ps_ret (pe_make MD OD (by first | exact hr | exact hr.mono (by decide)) (by rfl) B.g BD .nil pass0 (pa_cons (pe_cal C_joined_plan (by first | exact hr | exact hr.mono (by decide)) (by rfl) (pa_cons (pe_fldK (K := K) rfl (pv 0) rfl) (pa_cons (pe_fldK (K := K) rfl (pv 1) rfl) pa_nil))) pa_nil))))), ?_⟩
    refine q_when (b := false) (et_is (et_not (a := true) (et_B (ev_isD B.f (ev_var rfl) ev_c hb))) rfl) (fun h => nomatch h) fun _ H1 e1 => ?_
    have ha1 := ha.ex e1
    have hb1 := hb.ex e1
    refine s_design (q := joinD p r) B.f (fun H2 e2 Q k => (ed_fldP (j := 0) B.f rfl ha1) H2 e2 _ fun v H3 e3 hv => (ed_fldP (j := 1) B.f rfl hb1) H3 (e2.trans e3) _ fun u H4 e4 hu => ⟨v, u, p, r, rfl, dp_ex e4 hv, hu, g, g2, he, ht, fun w H5 e5 hw => k w H5 ((e3.trans e4).trans e5) hw⟩) (joinD_ok g g2 he hn).1 fun x H3 hx e3 hx3 => q x H3 (fresh_back e1 hx) (e1.trans e3) hx3
abbrev s_Design_sub : Stmt := inClass (topS 74) 6
theorem sc_Design_sub : FnScope ["self", "other", "latest", "events", "bounds", "tasks", "bound"] ["self", "other"] (defScope s_Design_sub) := ⟨rfl, rfl, rfl, by decide +kernel, rfl, by decide +kernel, by decide +kernel⟩
theorem ok_Design_sub (F : Fun K "__sub__" "Design.__sub__" s_Design_sub f fd) (T : Txt mg tg) (B : DsB P w K mg base 7 C) (C_is_pair : Cal P w K mg base 2 "is_pair" ["events", "value"] (D2 K any2 isPair)) : FnOk P w K mg base CX0 9 f fd ["self", "other"] (spSubD K C) := by
  obtain ⟨fI, fdI, MD, OD, BD⟩ := B.ex
  refine F.ok sc_Design_sub (fun vs H Q E h => ?_) (fun cdv A outer s H vs Q E hr h => ?_)
  · obtain ⟨a, u, q, r, rfl, _⟩ := h
    rfl
  · obtain ⟨a, u, p, r, rfl, ha, g, hu, hr0, q⟩ := h
    refine ⟨_, (pss_cons (ps_asg (pe_fldK (K := K) rfl (pv 0) rfl) (pg_tupK (K := K) (n := 4) rfl rfl (pgs_cons (pg_name (i := 2) sc_Design_sub.nd rfl (Or.inl rfl)) (pgs_cons (pg_name (i := 3) sc_Design_sub.nd rfl (Or.inl rfl)) (pgs_cons (pg_name (i := 4) sc_Design_sub.nd rfl (Or.inl rfl)) (pgs_cons (pg_name (i := 5) sc_Design_sub.nd rfl (Or.inl rfl)) pgs_nil)))))) (pss_cons (ps_if (PW.pt (pw_or (pt_not (pt_val (pe_cal C_is_pair (by first | exact hr | exact hr.mono (by decide)) (by rfl) (pa_cons (pv 3) (pa_cons (pv 1) pa_nil))))) (pw_or1 (pt_cmpR (op_ninPK (K := K) (b := true) rfl (hu64 hr)) (pv 1) (pe_lc (own := [("bound", 6)]) rfl sc_Design_sub.nd (pi_tupK (K := K) rfl (pv 4)) (blkOk_by (own := [("bound", 6)]) (N := ["self", "other", "latest", "events", "bounds", "tasks", "bound"]) (sc := defScope s_Design_sub) (by decide +kernel)) (fun _ _ _ _ _ => (pg_name (i := 6) sc_Design_sub.nd rfl (Or.inl rfl))) (fun _ _ _ _ _ => pts_nil) (fun _ _ _ _ _ => (pe_slice (sl_tupK (K := K) rfl) (pv 6) po_none (po_some pe_int)))) (by rfl))))) (pss_one ps_never) pss_nil) (pss_one (ps_ret (pe_make MD OD (by first | exact hr | exact hr.mono (by decide)) (by rfl) B.g BD .nil pass0 (pa_cons (pe_tup (pa_cons (pv 2) (pa_cons (pv 3) (pa_cons (pe_callTy (call_tuple_ofK (K := K) rfl) (by rfl) T.tuple (by decide +kernel) (pa_cons (pe_lc (own := [("bound", 6)]) rfl sc_Design_sub.nd (pi_tupK (K := K) rfl (pv 4)) (blkOk_by (own := [("bound", 6)]) (N := ["self", "other", "latest", "events", "bounds", "tasks", "bound"]) (sc := defScope s_Design_sub) (by decide +kernel)) (fun _ _ _ _ _ => (pg_name (i := 6) sc_Design_sub.nd rfl (Or.inl rfl))) (fun _ _ _ _ _ => (pts_one (pt_cmpR (op_nePK (K := K) rfl (hu64 hr)) (pe_slice (sl_tupK (K := K) rfl) (pv 6) po_none (po_some pe_int)) (pv 1) (nomark _)))) (fun _ _ _ _ _ => (pv 6))) pa_nil)) (pa_cons (pv 5) pa_nil))))) pa_nil)))))), ?_⟩
    have nb := g.nb
    refine q_anyX ((ed_fldP (j := 0) B.f rfl ha) H (Ex.refl _) _ fun v0 H1 e1 hd => ?_)
    obtain ⟨a0, v1, v2, v3, rfl, hs, d1, d2, d3⟩ := plan_at4 hd
    refine goes_tup4 hs _ _ (Ex.refl _) ?_
    have hu1 := dp_ex e1 hu
    have hpr := (Bds.iff.mp g.hb).1 r hr0
    have hpair : isPair p.evs (prD r) = true := by
      show (isPlace p.evs (.str r.1) && (isPlace p.evs (.str r.2.1) && !decide (r.1 = r.2.1))) = true
      rw [hpr.1, hpr.2.1, decide_eq_false hpr.2.2]
      rfl
    have hin : ((p.bs.map prD).any fun e => PyData.eqv e (prD r)) = true := List.any_eq_true.mpr ⟨prD r, List.mem_map_of_mem hr0, SeqAt.eqv_refl_plain _ (okP_two (okP_pr r.1 r.2.1)).1⟩
    refine q_when (b := false) (et_is (et_or (a := false) (et_is (et_not (a := true) (et_B (ev_is (ev_call (ea_cons (ev_var rfl) (ea_cons (ev_var rfl) ea_nil)) (spv2 (knows_tup d1) hu1 trivial)) (by rw [hpair])))) rfl) (b := false) fun _ => et_test (ev_is (ev_opD (K := K) (ed_of (ev_var rfl) hu1) (ed_n (en_aT (fa := bdD) (fb := prD) (ed_of (ev_var rfl) d2) (by omega) (fun _ _ => rfl) fun b x H2 e2 _ hx => ?_)) (rd_ninP (b := true) (okP_pr r.1 r.2.1) (okP_prs p.bs).1)) (by rw [hin]; rfl))) rfl) (fun h => nomatch h) fun _ H2 e2 => ?_
    · refine ⟨_, ?_, goes_name, ed_cut2 (ed_of (ev_var rfl) hx)⟩
      rfl
    have hu2 := dp_ex e2 hu1
    refine s_design (q := withoutD p r.1 r.2.1) B.f (ed_tup (eds_cons (ed_of (ev_var rfl) (.int _)) (eds_cons (ed_of (ev_var rfl) (dp_ex e2 d1)) (eds_cons (ed_tupOf (ed_n (en_is (en_mT (fa := bdD) (fb := bdD) (fun b => !decide (b.1 = r.1 ∧ b.2.1 = r.2.1)) (ed_of (ev_var rfl) (dp_ex e2 d2)) (by omega) (fun _ _ _ => rfl) fun b x H3 e3 _ hx => ?_) rfl))) (eds_cons (ed_of (ev_var rfl) (dp_ex e2 d3)) eds_nil)))) (by show 4 ≤ 100000; decide)) (withoutD_ok g).1 fun x H3 hx e3 hx3 => q x H3 (fresh_back (e1.trans e2) hx) ((e1.trans e2).trans e3) hx3
    · refine ⟨_, ?_, goes_name, et_is (et_test (ev_opD (K := K) (ed_cut2 (ed_of (ev_var rfl) hx)) (ed_of (ev_var rfl) (dp_ex e3 hu2)) (rd_neP (okP_pr b.1 b.2.1) (okP_pr r.1 r.2.1)))) (by rw [eqv_pr]), fun _ => ed_of (ev_var rfl) hx⟩
      rfl
end
end Vf
end
section
set_option Elab.async false
set_option linter.all false
set_option maxRecDepth 100000
set_option maxHeartbeats 4000000
namespace Vf
open PySem PySem.Spec PyProof.Rows L2 Evl
/-! ### dict(a list of pairs whose keys are tuples) -/
def mergeT (kvs more : List (List Key × V)) : List (List Key × V) := more.foldl (fun acc kv => putK acc kv.1 kv.2) kvs
theorem mergeT_len : ∀ (more kvs : List (List Key × V)), (mergeT kvs more).length ≤ kvs.length + more.length
  | [], kvs => Nat.le_refl _
  | p :: r, kvs => by
    have h1 := mergeT_len r (putK kvs p.1 p.2)
    have h2 := length_putK kvs p.1 p.2
    show (mergeT (putK kvs p.1 p.2) r).length ≤ kvs.length + (r.length + 1)
    omega
theorem kt_merge {H : Hp} : ∀ {more : List (List Key × V)} {rs : List (List Key × Addr × Value)} {kvs : List (List Key × V)} {vs : List (List Key × Addr × Value)}, KT H more rs → KT H kvs vs → KT H (mergeT kvs more) (storedAllH vs rs) := by
  intro more rs kvs vs r
  induction r generalizing kvs vs with
  | nil => intro q; exact q
  | @cons p q ps qs h t ih =>
    intro z
    obtain ⟨h1, h2, h3⟩ := h
    have := z.put p.1 h2 h3
    obtain ⟨q1, q2, q3⟩ := q
    dsimp only at h1 h2 h3 this
    subst h1
    exact ih this
section
variable {X : Cx}
theorem pairsT_of {pins : List (Addr × Obj)} {σ : L2.St} {H : Hp} {s : Shared} (I : Inv X pins σ H s) : ∀ {rs : List (Addr × Addr)} {kvs : List (List Key × V)}, Paired (fun (r : Addr × Addr) (kv : List Key × V) => SqT X.K H r.1 [.ref r.2, kv.2] ∧ H r.2 = some (.tup (kv.1.map kV))) rs kvs →
    ∃ ps : List (List Key × Addr × Value), KT H kvs ps ∧ ps.length = rs.length ∧ (∀ x ∈ ps, H x.2.1 = some (.tup (x.1.map kV))) ∧ ∀ (j : Nat) (q : List Key × Addr × Value), ps[j]? = some q → ∃ r : Addr × Addr, rs[j]? = some r ∧ IsTup s.heap r.1 #[.ref q.2.1, q.2.2]
  | _, _, .nil => ⟨[], .nil, rfl, fun x h => (by cases h), fun j q e => by simp at e⟩
  | _, _, .cons (a := r) (b := kv) h t => by
    obtain ⟨ps, rel, hl, hk, hp⟩ := pairsT_of I t
    obtain ⟨its, rv, ht, _⟩ := I.tuple h.1
    obtain ⟨u, y, ei, ru, ry⟩ := vals2 rv
    subst ei
    cases ru
    refine ⟨(kv.1, r.2, y) :: ps, .cons ⟨rfl, h.2, ry⟩ rel, by rw [List.length_cons, List.length_cons, hl], fun x hx => ?_, fun j q e => ?_⟩
    · rcases List.mem_cons.mp hx with rfl | hx
      · exact h.2
      · exact hk x hx
    · cases j with
      | zero =>
        have e' : (kv.1, r.2, y) = q := Option.some.inj e
        subst e'
        exact ⟨r, rfl, ht⟩
      | succ j =>
        obtain ⟨r', e1, e2⟩ := hp j q (by simpa using e)
        exact ⟨r', by simpa using e1, e2⟩
def rDictT (K : PySem.W.Frag) : List V → Hp → VK → Prop := fun xs H Q => ∃ (a : Addr) (rs : List (Addr × Addr)) (kvs : List (List Key × V)), xs = [.ref a] ∧ SqL K H a (rs.map fun r => V.ref r.1) ∧
    Paired (fun (r : Addr × Addr) (kv : List Key × V) => SqT K H r.1 [.ref r.2, kv.2] ∧ H r.2 = some (.tup (kv.1.map kV))) rs kvs ∧ ∀ p, H p = none → Q (.ref p) (upd H p (.dT (mergeT [] kvs)))
theorem call_dictPT (hcalm : X.calm = true) (hu : X.A.units + 2 < cLine) : CallR X (.type "dict") (rDictT X.K) := by
  intro pins s σ H xs us Q I r q
  obtain ⟨a, rs, kvs, ex, hq, hp, q⟩ := q
  subst ex
  obtain ⟨u, eu, rx⟩ := vals1 r
  subst eu
  cases rx
  obtain ⟨its, rv, pl, hz⟩ := I.list hq
  have ei : its = rs.map fun r => Value.ref r.1 := by
    have := refs_at (ps := rs.map (·.1)) (us := its) (by rw [List.map_map]; exact rv)
    rw [this, List.map_map]
    rfl
  subst ei
  rw [List.length_map] at hz
  obtain ⟨ps, rel, hl, hk, hpr⟩ := pairsT_of I hp
  obtain ⟨o, n, ho, hc, hd, hdat⟩ := pl
  have P := PairArg.list (prog := X.prog) (w := X.w) a (rs.map fun r => Value.ref r.1).toArray (fun j => (rs.getD j (0, 0)).1) (ps.map fun q => (Value.ref q.2.1, q.2.2))
  refine call_dict_pairsH (knd := tupleKind (mixKind X.prog X.w)) (ps := ps) P (I.ok.hd hcalm) (show X.A.units + 1 + 1 < cLine from hu) ⟨⟨o, n, ho, hc, hd, hdat⟩, by simp [hl], fun j k v hj => ?_⟩ ⟨by rw [List.length_map], fun i key v hi => ?_⟩ (fun h' hh x hx => ?_) (by rw [List.length_map, hl]; exact hz) fun h' tk hd' kk => ?_
  · rw [List.getElem?_map] at hj
    obtain ⟨q', hq', e⟩ := Option.map_eq_some_iff.mp hj
    cases e
    obtain ⟨r', e1, e2⟩ := hpr j q' hq'
    refine ⟨?_, ?_⟩
    · simp [e1, List.getD]
    · have eg : (rs.getD j (0, 0)).1 = r'.1 := by simp [List.getD, e1]
      show PairAt _ (rs.getD j (0, 0)).1 _ _
      rw [eg]
      obtain ⟨ob, g1, g2, n2, g3⟩ := e2
      exact .inl ⟨ob, g1, g2, n2, g3⟩
  · have hi' : (ps.map fun q => (Value.ref q.2.1, q.2.2))[i]? = some (key, v) := hi
    rw [List.getElem?_map] at hi'
    obtain ⟨q', hq', e⟩ := Option.map_eq_some_iff.mp hi'
    cases e
    exact ⟨q'.1, q'.2.1, hq', rfl⟩
  · obtain ⟨ob, its2, n2, g1, g2⟩ := key_of I.hok (hk x hx)
    exact ⟨ob, its2, n2, hh _ _ (Nat.ne_of_lt (Heap.lt_size g1)) (by simp) g1, g2⟩
  · have hm : (s.heap.objs.size == sysModules) = false := beq_eq_false_iff_ne.mpr (Nat.ne_of_gt I.big)
    have hlen : (mergeT [] kvs).length ≤ sizeLine := by
      refine Nat.le_trans (mergeT_len kvs []) ?_
      have := Paired.length hp
      rw [List.length_nil, Nat.zero_add, ← this]
      exact hz
    have rel2 := kt_merge rel (.nil : KT H [] [])
    obtain ⟨ob, es, ep, g1, g2, g3, g4, g5, g6⟩ := hd'
    refine ⟨.ref s.heap.objs.size, upd H s.heap.objs.size (.dT (mergeT [] kvs)), I.laid (t' := tk) (fun b o e => kk b o (by simp) e) (Nat.le_refl _) (show ObjOk X.prog X.w _ _ _ (.dT (mergeT [] kvs)) from ⟨hlen, hm, _, rel2.keeps fun b ys e => ?_, ob, es, ep, g1, g2, g3, g4, g6⟩), rfl, q _ (I.hok.fresh (Nat.le_refl _))⟩
    rw [upd_ne (ne_of_none e (I.hok.fresh (Nat.le_refl _)))]
    exact e
theorem call_dictPTK {K : PySem.W.Frag} (h : X.K = K) (hc : X.calm = true) (hu : X.A.units + 2 < cLine) : CallR X (.type "dict") (rDictT K) := h ▸ call_dictPT hc hu
end
theorem hu2of {A : Around} {k : Nat} (hr : Room k A) : A.units + 2 < cLine := by
  have := hu64 hr
  omega
end Vf
end
section
set_option Elab.async false
set_option linter.all false
set_option maxRecDepth 100000
set_option maxHeartbeats 8000000
namespace Vf
open PySem PySem.Spec PyProof.Rows L2 Evl
/-! ### the law's own plans: with a bound, without, both together -/
def kvB (bs : List Bd) : List (List Key × V) := bs.map fun b => (keyP b.1 b.2.1, V.int b.2.2)
theorem kvB_map {es : List Str} {bs : List Bd} (h : Bds es bs) : MapK (kvB bs) (mapB bs) := by
  have un : ((kvB bs).map (·.1)).Nodup := by
    have nd := h.nd
    unfold kvB
    rw [List.map_map]
    unfold List.Nodup at nd ⊢
    rw [List.pairwise_map] at nd ⊢
    exact nd.imp fun {a b} hab he => hab (Prod.ext (keyP_inj he).1 (keyP_inj he).2)
  refine ⟨fun k v hk => ?_, un, fun x y => ?_⟩
  · obtain ⟨b, _, e⟩ := List.mem_map.mp hk
    cases e
    exact ⟨_, _, _, rfl, rfl⟩
  · cases e : mapB bs x y with
    | some i => exact valT_of un (List.mem_map.mpr ⟨(x, y, i), h.map.mpr e, rfl⟩)
    | none =>
      cases e2 : valV (kvB bs) (keyP x y) with
      | none => rfl
      | some v =>
        obtain ⟨b, hb, e3⟩ := List.mem_map.mp (valV_mem e2)
        have e4 := keyP_inj (Prod.mk.inj e3).1
        have h5 : (x, y, b.2.2) ∈ bs := by
          rw [← e4.1, ← e4.2]
          exact hb
        rw [h.map.mp h5] at e
        cases e
theorem mergeT_app : ∀ (l acc : List (List Key × V)), ((acc ++ l).map (·.1)).Nodup → mergeT acc l = acc ++ l
  | [], acc, _ => (List.append_nil acc).symm
  | p :: l, acc, h => by
    have hno : acc.any (fun kv => decide (kv.1 = p.1)) = false := by
      cases e : acc.any (fun kv => decide (kv.1 = p.1)) with
      | false => rfl
      | true =>
        obtain ⟨q, hq, e2⟩ := List.any_eq_true.mp e
        rw [List.map_append, List.nodup_append] at h
        exact absurd (of_decide_eq_true e2) (h.2.2 q.1 (List.mem_map_of_mem hq) p.1 (by rw [List.map_cons]; exact List.mem_cons_self))
    have e1 : putK acc p.1 p.2 = acc ++ [(p.1, p.2)] := by
      unfold putK
      rw [if_neg (by rw [hno]; decide)]
    have e : acc ++ p :: l = (acc ++ [(p.1, p.2)]) ++ l := by rw [List.append_assoc]; rfl
    rw [e] at h ⊢
    show mergeT (putK acc p.1 p.2) l = _
    rw [e1]
    exact mergeT_app l _ h
/-- rows that are what a dict says, their pairs sorted -/
theorem rows_canonP {es : List Str} {kvs : List (List Key × V)} {m : BMap} (M : MapK kvs m) (F : Fin es m) {rows : List Bd} (hr : rows.Perm (kvs.map rowL)) (hs : (rows.map prD).Pairwise fun a b => PySem.W.dataLt b a = false) : rows = canon es m := by
  have c := canon_ok F
  have mem : ∀ r, r ∈ rows ↔ r ∈ canon es m := fun ⟨x, y, i⟩ => by
    rw [hr.mem_iff, c.2, ← M.mem, List.mem_map]
    constructor
    · rintro ⟨⟨k, v⟩, hkv, e⟩
      obtain ⟨x', y', j, rfl, rfl⟩ := M.form k v hkv
      have e' : (x', y', j) = (x, y, i) := e
      cases e'
      exact hkv
    · intro h
      exact ⟨_, h, rfl⟩
  have nd : (rows.map fun b => (b.1, b.2.1)).Nodup := by
    have h1 : ((kvs.map rowL).map fun b => (b.1, b.2.1)).Nodup := by
      rw [List.map_map]
      have hN := M.uniq
      unfold List.Nodup at hN ⊢
      rw [List.pairwise_map] at hN ⊢
      refine hN.imp_of_mem fun {a b} ha hb hab he => ?_
      obtain ⟨x, y, _, ea, _⟩ := M.form a.1 a.2 ha
      obtain ⟨x', y', _, eb, _⟩ := M.form b.1 b.2 hb
      have he' : (firstS a.1, secS a.1) = (firstS b.1, secS b.1) := he
      rw [ea, eb] at he'
      have e2 : (x, y) = (x', y') := he'
      cases e2
      exact hab (ea.trans eb.symm)
    exact (hr.map _).nodup_iff.mpr h1
  refine asc_unique (f := prD) ?_ (asc_pw _ (Bds.iff.mp c.1).2) mem
  rw [List.pairwise_map] at hs ⊢
  unfold List.Nodup at nd
  rw [List.pairwise_map] at nd
  refine (hs.and nd).imp fun {a b} h => ?_
  cases e : PySem.W.dataLt (prD a) (prD b) with
  | true => rfl
  | false =>
    have tk := prD_inj (lex_total _ _ e h.1)
    exact absurd (show (a.1, a.2.1) = (b.1, b.2.1) by rw [tk.1, tk.2]) h.2
section
variable {K : PySem.W.Frag} {σ : L2.St} {H : Hp} {tl : TE} {Q : VK}
def PairR (K : PySem.W.Frag) (H : Hp) : Addr × Addr → List Key × V → Prop := fun r kv => SqT K H r.1 [.ref r.2, kv.2] ∧ H r.2 = some (.tup (kv.1.map kV))
theorem pairR_ex {H H' : Hp} (e : Ex H H') {rs : List (Addr × Addr)} {kvs : List (List Key × V)} (h : Paired (PairR K H) rs kvs) : Paired (PairR K H') rs kvs := Paired.mapP h fun _ _ z => ⟨ex_t e z.1, e _ _ z.2⟩
theorem t_tup2X {ta tb : TE} {σ : L2.St} {H : Hp} {Q : VK} (h : ta σ H fun x H1 => tb σ H1 fun y H2 => [x, y].length ≤ sizeLine ∧ ∀ p, H2 p = none → Q (.ref p) (upd H2 p (.tup [x, y]))) : tTup (tCons ta (tCons tb tNil)) σ H Q := h
/-- [(row[:2], row[2]) for row in rows] -/
theorem tp_rowsS {l : List Bd} {jr : Nat} (h : EvD K tl σ H (.tuple (l.map bdD))) (hz : l.length ≤ 1000) (hj : jr < σ.length)
    (k : ∀ p rs H2, H p = none → Ex H H2 → H2 p = some (.lst (rs.map fun r : Addr × Addr => V.ref r.1)) → Paired (PairR K H2) rs (kvB l) → Q (.ref p) H2) :
    tLc (iTup K tl) (gName jr) tYes (tTup (tCons (tSl (rSlT K) (tVar jr) tNoPart (tPart (tC (.int 2)))) (tCons (tOp (rIxT K) (tVar jr) (tC (.int 2))) tNil))) [jr] σ H Q :=
  h H (Ex.refl _) _ fun a0 H1 e1 hd => by
    cases hd with
    | @tup a xs _ hs hall =>
      have el := dpa_len hall
      rw [List.length_map] at el
      refine ⟨a, rfl, ⟨xs, hs⟩, fun Dl hD => lc_tup (xs := xs) (fun i H' => Ex H1 H' ∧ ∃ rs, H' Dl = some (.lst (rs.map fun r : Addr × Addr => V.ref r.1)) ∧ rs.length = i ∧ Paired (PairR K (but H' Dl)) rs (kvB (l.take i)))
        ⟨Ex.new hD, [], upd_same, rfl, .nil⟩ (fun i H' _ p => ex_t p.1 hs) (fun i x H' hi p => ?_) (fun H' p => ?_)⟩
      · obtain ⟨p1, rs, p2, p3, p4⟩ := p
        obtain ⟨d, h1, h2⟩ := dpa_get hall hi
        rw [List.getElem?_map] at h1
        obtain ⟨b, hb, rfl⟩ := Option.map_eq_some_iff.mp h1
        obtain ⟨q, rfl, hq⟩ := dp_bdX h2
        have hσ : ((wipe σ [jr]).set jr (some (V.ref q)))[jr]? = some (some (.ref q)) := by
          show ((σ.set jr none).set jr (some (V.ref q)))[jr]? = _
          rw [List.getElem?_set_self (by rw [List.length_set]; exact hj)]
        have hw : wipe ((wipe σ [jr]).set jr (some (V.ref q))) [jr] = wipe σ [jr] := by
          show (((σ.set jr none).set jr (some (V.ref q))).set jr none) = σ.set jr none
          rw [List.set_set, List.set_set]
        refine ⟨hw, ?_⟩
        have hq' := ex_t p1 hq
        refine t_yesX ?_
        refine t_tup2X ?_
        refine (eu_slT (lo := none) (hi := some 2) (xs := [.str b.1, .str b.2.1, .int b.2.2]) (ev_var hσ) hq' eo_none (eo_some ev_c) (by show ¬ (0 = 0 ∧ 2 = 3); decide)) H' (Ex.refl _) _ fun r2 H2 hr2 e2 hx2 => ?_
        refine (ev_op (ev_var hσ) ev_c (rv_ixT (ex_t e2 hq') (at_of (j := 2) rfl rfl)) : Ev (tOp (rIxT K) (tVar jr) (tC (.int 2))) _ H2 (.int b.2.2)) H2 (Ex.refl _) _ fun H3 e3 => ?_
        refine ⟨by show 2 ≤ sizeLine; decide, fun r1 hr1 => ?_⟩
        have e23 := e2.trans e3
        have hDl := e23 _ _ p2
        have n1 : r1 ≠ Dl := (ne_of_none hDl hr1).symm
        have n2 : r2 ≠ Dl := (ne_of_none p2 hr2).symm
        have eN : Ex H3 (upd H3 r1 (.tup [.ref r2, .int b.2.2])) := Ex.new hr1
        refine ⟨rs.map fun r => V.ref r.1, eN _ _ hDl, by rw [List.length_map, p3]; have := (List.getElem?_eq_some_iff.mp hb).1; exact sz_lt (by omega), Ex.mut ((p1.trans e23).trans eN) hD, rs ++ [(r1, r2)], ?_, by rw [List.length_append, p3]; rfl, ?_⟩
        · rw [upd_same, List.map_append]; rfl
        · have eb : kvB (l.take (i + 1)) = kvB (l.take i) ++ [(keyP b.1 b.2.1, V.int b.2.2)] := by unfold kvB; rw [take_snoc hb, List.map_append]; rfl
          rw [but_put, eb]
          refine Paired.snoc (pairR_ex (but_mono (e23.trans eN)) p4) ⟨?_, ?_⟩
          · exact .inl (.inl (by rw [but_ne n1, upd_same]))
          · rw [but_ne n2, eN r2 _ (e3 _ _ hx2)]
            rfl
      · obtain ⟨p1, rs, p2, p3, p4⟩ := p
        rw [el, List.take_length] at p4
        exact k Dl rs H' (fresh_back e1 hD) (e1.trans p1) p2 (pairR_ex (but_ex _ _) p4)
theorem keys_of {H : Hp} : ∀ {kvs : List (List Key × V)} {bs : List Addr}, IsKeys H kvs bs → (∀ k v, (k, v) ∈ kvs → ∃ x y i, k = keyP x y ∧ v = .int i) → DpAll K H (bs.map V.ref) (kvs.map fun kv => pairD kv.1) := by
  intro kvs
  induction kvs with
  | nil =>
    intro bs h _
    unfold IsKeys at h
    cases h
    exact .nil
  | cons p l ih =>
    intro bs h hf
    unfold IsKeys at h
    cases h with
    | @cons _ b _ m hab t =>
      obtain ⟨x, y, i, e1, e2⟩ := hf p.1 p.2 List.mem_cons_self
      refine .cons ?_ (ih t fun k v hkv => hf k v (List.mem_cons_of_mem _ hkv))
      have hab' : H b = some (.tup (p.1.map kV)) := hab
      show Dp K H (.ref b) (pairD p.1)
      rw [e1] at hab' ⊢
      exact .tup (st_of hab') (.cons (.str x) (.cons (.str y) .nil))
abbrev rListT : List V → Hp → VK → Prop := fun xs H Q => ∃ d kvs, xs = [V.ref d] ∧ Rd H d (.dT kvs) ∧ ∀ p bs, H p = none → IsKeys H kvs bs → Q (.ref p) (upd H p (.lst (bs.map V.ref)))
/-- [pair + (d[pair],) for pair in sorted(list(d))] -/
theorem tp_sortedP {kvs : List (List Key × V)} {m : BMap} {jd jp : Nat} {kd : Addr} (hd : H kd = some (.dT kvs)) (M : MapK kvs m) (hz : kvs.length ≤ 1000) (hj : σ[jd]? = some (some (.ref kd))) (hp : jp < σ.length) (hne : jd ≠ jp)
    (k : ∀ (rows : List Bd) (p : Addr) (xs : List V) (H2 : Hp), rows.Perm (kvs.map rowL) → ((rows.map prD).Pairwise fun a b => PySem.W.dataLt b a = false) → H p = none → Ex H H2 → H2 p = some (.lst xs) → DpAll K H2 xs (rows.map bdD) → Q (.ref p) H2) :
    tLc (iList K (tCB (rSortedD K) (tCons (tCB rListT (tCons (tVar jd) tNil)) tNil))) (gName jp) tYes (tOp (rCatA K) (tVar jp) (tTup (tCons (tDGet (tVar jd) (tVar jp)) tNil))) [jp] σ H Q := by
  refine ⟨.ref kd, hj, kd, _, rfl, .inl hd, fun l1 bs hl1 hks => ?_⟩
  have e1 : Ex H (upd H l1 (.lst (bs.map V.ref))) := Ex.new hl1
  have hks' : IsKeys (upd H l1 (.lst (bs.map V.ref))) kvs bs := Paired.mapP hks fun a b h => e1 _ _ h
  refine ⟨l1, bs.map V.ref, kvs.map fun kv => pairD kv.1, rfl, sq_of upd_same, keys_of hks' M.form, fun a ha b hb => ?_, .inl fun d hd => ?_, fun d hd => ?_, by rw [List.length_map]; omega, fun l2 qs hp2 hs hdq hl2 => ?_⟩
  · obtain ⟨i, _, rfl⟩ := List.mem_map.mp ha
    obtain ⟨j, _, rfl⟩ := List.mem_map.mp hb
    simp [pairD, PySem.W.alike, PySem.W.alikeAll]
  · obtain ⟨i, _, rfl⟩ := List.mem_map.mp hd
    exact ⟨_, _, rfl⟩
  · obtain ⟨i, _, rfl⟩ := List.mem_map.mp hd
    simp [pairD, PyData.depth, PyData.depthAll]
  · obtain ⟨rs, rfl, hrp, hrt⟩ := keys_back (K := K) hks' hp2
    have e2 : Ex (upd H l1 (.lst (bs.map V.ref))) (upd (upd H l1 (.lst (bs.map V.ref))) l2 (.lst (rs.map fun r => V.ref r.1))) := Ex.new hl2
    have eqs : (rs.map fun r => (V.ref r.1, pairD r.2.1)).map (·.1) = rs.map fun r => V.ref r.1 := by rw [List.map_map]; rfl
    rw [eqs]
    have hk2 := e2 _ _ (e1 _ _ hd)
    have hrt2 := fun r hr => e2 _ _ (hrt r hr)
    have hl2s : (upd (upd H l1 (.lst (bs.map V.ref))) l2 (.lst (rs.map fun r => V.ref r.1))) l2 = some (.lst (rs.map fun r => V.ref r.1)) := upd_same
    have e12 := e1.trans e2
    generalize (upd (upd H l1 (.lst (bs.map V.ref))) l2 (.lst (rs.map fun r => V.ref r.1))) = H4 at hk2 hrt2 hl2s e12 ⊢
    have hrz : rs.length ≤ 1000 := by have := hrp.length_eq; rw [List.length_map] at this; omega
    have hsP : ((rs.map fun r => rowL r.2).map prD).Pairwise fun a b => PySem.W.dataLt b a = false := by
      have h := hs
      rw [List.map_map] at h ⊢
      exact h
    have hperm : (rs.map fun r => rowL r.2).Perm (kvs.map rowL) := by
      have h := hrp.map rowL
      rw [List.map_map] at h
      exact h
    refine ⟨l2, rfl, ⟨_, sq_of hl2s⟩, fun Dl hD => ?_⟩
    refine lc_list (K := K) (a := l2) (xs := rs.map fun r => V.ref r.1) (Cd K H4 (fun _ => true) (fun i => ((rs.map fun r => rowL r.2).map bdD).getD i .none) Dl) ⟨hD, Ex.new hD, [], upd_same, .nil⟩ (fun i H' _ p => sq_of (p.2.1 _ _ hl2s)) (fun i x H' hi p => ?_) (fun H' p => ?_)
    · rw [List.getElem?_map] at hi
      obtain ⟨r, hr, rfl⟩ := Option.map_eq_some_iff.mp hi
      have hrm := List.mem_of_getElem? hr
      have hil := (List.getElem?_eq_some_iff.mp hr).1
      have hkv : r.2 ∈ kvs := hrp.mem_iff.mp (List.mem_map_of_mem hrm)
      obtain ⟨x', y', j, ek, ev⟩ := M.form r.2.1 r.2.2 hkv
      have hgd : ((rs.map fun r => rowL r.2).map bdD).getD i .none = bdD (x', y', j) := by
        have e : rowL r.2 = (x', y', j) := by unfold rowL; rw [ek, ev]; rfl
        rw [← e]
        exact getD_of (by rw [List.map_map, List.getElem?_map, hr]; rfl)
      have hkt : H4 r.1 = some (.tup ((keyP x' y').map kV)) := by
        have := hrt2 r hrm
        rw [ek] at this
        exact this
      have hσ : ((wipe σ [jp]).set jp (some (V.ref r.1)))[jp]? = some (some (.ref r.1)) := by
        show ((σ.set jp none).set jp (some (V.ref r.1)))[jp]? = _
        rw [List.getElem?_set_self (by rw [List.length_set]; exact hp)]
      have hσ2 : ((wipe σ [jp]).set jp (some (V.ref r.1)))[jd]? = some (some (.ref kd)) := by
        show ((σ.set jp none).set jp (some (V.ref r.1)))[jd]? = _
        rw [List.getElem?_set_ne (Ne.symm hne), List.getElem?_set_ne (Ne.symm hne)]
        exact hj
      refine ⟨?_, cd_turn p (by omega) (fun H1 e Q q => q H1 (Ex.refl H1)) (fun _ => ?_) (fun _ => ?_)⟩
      · show (((σ.set jp none).set jp (some (V.ref r.1))).set jp none) = σ.set jp none
        rw [List.set_set, List.set_set]
      · rw [hgd]
        have hdp2 : Dp K H4 (.ref r.1) (.tuple [.str x', .str y']) := .tup (st_of hkt) (.cons (.str _) (.cons (.str _) .nil))
        refine ed_catA (xs := [.str x', .str y']) (ys := [.int j]) (ed_of (ev_var hσ) hdp2) (ed_tup (eds_cons (ed_int ?_) eds_nil) (by show 1 ≤ 100000; decide)) (by show 2 + 1 ≤ 100000; decide)
        intro H5 e5 Q5 q5
        refine ⟨.ref kd, hσ2, .ref r.1, hσ, kd, .int j, rfl, .inr ⟨kvs, keyP x' y', r.1, .inl (e5 _ _ hk2), rfl, e5 _ _ hkt, ?_⟩, q5 H5 (Ex.refl H5)⟩
        have e : r.2 = (keyP x' y', V.int j) := Prod.ext ek ev
        exact (valT_of M.uniq (by rw [← e]; exact hkv)).symm
      · rw [hgd]
        rfl
    · obtain ⟨p1, p2, ys, p3, p4⟩ := p
      have egv : givenD (rs.map fun r => V.ref r.1).length (fun _ => true) (fun i => ((rs.map fun r => rowL r.2).map bdD).getD i .none) = (rs.map fun r => rowL r.2).map bdD := by
        have h := givenD_sel ((rs.map fun r => rowL r.2).map bdD) (fun _ => true) id
        rw [List.map_id, filter_true, List.length_map, List.length_map] at h
        rw [List.length_map]
        exact h
      rw [egv] at p4
      exact k _ Dl ys H' hperm hsP (fresh_back e12 p1) (e12.trans p2) p3 (dpa_ex (but_ex _ _) p4)
end
theorem t_cb1 {r : List V → Hp → VK → Prop} {te : TE} {σ : L2.St} {H : Hp} {Q : VK} (h : te σ H fun x H1 => r [x] H1 Q) : tCB r (tCons te tNil) σ H Q := h
theorem q_sdp {ta tk tv : TE} {tz : TS} {D : Ends} {σ : L2.St} {H : Hp} {v : V} (hv : Ev tv σ H v) (h : ∀ H1, Ex H H1 → ta σ H1 fun x H2 => tk σ H2 fun y H3 => ∃ a H', x = .ref a ∧ DPut H3 a y v H' ∧ tz D σ H') : tSeq (sDPut ta tk tv) tz D σ H := hv H (Ex.refl H) _ h
abbrev spWithL (K : PySem.W.Frag) : Sp := fun vs H Q _ => ∃ v u q r, vs = [v, u] ∧ Dp K H v (plT q) ∧ Dp K H u (bdD r) ∧ DsP q ∧ isBound q.evs (bdD r) = true ∧ q.bs.length ≤ 50 ∧ RetD K (plT (withD q r)) H Q
section
variable {P : Program} {w : World} {K : PySem.W.Frag} {mg : Str → Option Value} {base : Heap} {tg : Tok} {f : Addr} {fd : FuncData}
abbrev s_law_with : Stmt := topS 83
theorem sc_law_with : FnScope ["plan_here", "limit_here", "row", "known", "pair", "rows"] ["plan_here", "limit_here"] (defScope s_law_with) := ⟨rfl, rfl, rfl, by decide +kernel, rfl, by decide +kernel, by decide +kernel⟩
theorem ok_law_with (F : Fun K "_law_with" "_law_with" s_law_with f fd) (T : Txt mg tg) : FnOk P w K mg base CX0 1 f fd ["plan_here", "limit_here"] (spWithL K) := by
  refine F.ok sc_law_with (fun vs H Q E h => ?_) (fun cdv A outer s H vs Q E hr h => ?_)
  · obtain ⟨v, u, q, r, rfl, _⟩ := h
    rfl
  · obtain ⟨v, u, p, r, rfl, hv, hu, g, hb, hn, q⟩ := h
    refine ⟨_, (pss_cons (ps_set (i := 3) sc_law_with.nd rfl (Or.inr rfl) (pe_callTy (call_dictPTK (K := K) rfl rfl (hu2of hr)) (by rfl) T.dict (by decide +kernel) (pa_cons (pe_lc (own := [("row", 2)]) rfl sc_law_with.nd (pi_tupK (K := K) rfl (pe_ix (ix_tupK (K := K) rfl) (pv 0) pe_int (fun _ _ => rfl))) (blkOk_by (own := [("row", 2)]) (N := ["plan_here", "limit_here", "row", "known", "pair", "rows"]) (sc := defScope s_law_with) (by decide +kernel)) (fun _ _ _ _ _ => (pg_name (i := 2) sc_law_with.nd rfl (Or.inl rfl))) (fun _ _ _ _ _ => pts_nil) (fun _ _ _ _ _ => (pe_tup (pa_cons (pe_slice (sl_tupK (K := K) rfl) (pv 2) po_none (po_some pe_int)) (pa_cons (pe_ix (ix_tupK (K := K) rfl) (pv 2) pe_int (fun _ _ => rfl)) pa_nil))))) pa_nil))) (pss_cons (ps_dput (hu_of hr) (pv 3) (pe_slice (sl_tupK (K := K) rfl) (pv 1) po_none (po_some pe_int)) (pe_callB (call_min2 rfl) (by rfl) T.min (by decide +kernel) (pa_cons (pe_ix (ix_tupK (K := K) rfl) (pv 1) pe_int (fun _ _ => rfl)) (pa_cons (pe_dget2 (hu_of hr) (pv 3) (pe_slice (sl_tupK (K := K) rfl) (pv 1) po_none (po_some pe_int)) (pe_ix (ix_tupK (K := K) rfl) (pv 1) pe_int (fun _ _ => rfl)) ⟨rfl, rfl, rfl, rfl⟩) pa_nil))) rfl) (pss_cons (ps_set (i := 5) sc_law_with.nd rfl (Or.inl rfl) (pe_callTy (call_tuple_ofK (K := K) rfl) (by rfl) T.tuple (by decide +kernel) (pa_cons (pe_lc (own := [("pair", 4)]) rfl sc_law_with.nd (pi_listK (K := K) rfl (pe_callB (cr_sortedDK (K := K) rfl (hu100 hr)) (by rfl) T.sorted (by decide +kernel) (pa_cons (pe_callTy (call_list_dT rfl) (by rfl) T.list (by decide +kernel) (pa_cons (pv 3) pa_nil)) pa_nil))) (blkOk_by (own := [("pair", 4)]) (N := ["plan_here", "limit_here", "row", "known", "pair", "rows"]) (sc := defScope s_law_with) (by decide +kernel)) (fun _ _ _ _ _ => (pg_name (i := 4) sc_law_with.nd rfl (Or.inl rfl))) (fun _ _ _ _ _ => pts_nil) (fun _ _ _ _ _ => (pe_op (op_catAK (K := K) rfl) (pv 4) (pe_tup (pa_cons (pe_dget (hu_of hr) (pv 3) (pv 4) (fun _ _ => rfl)) pa_nil))))) pa_nil))) (pss_one (ps_ret (pe_tup (pa_cons (pe_ix (ix_tupK (K := K) rfl) (pv 0) pe_int (fun _ _ => rfl)) (pa_cons (pe_ix (ix_tupK (K := K) rfl) (pv 0) pe_int (fun _ _ => rfl)) (pa_cons (pv 5) (pa_cons (pe_ix (ix_tupK (K := K) rfl) (pv 0) pe_int (fun _ _ => rfl)) pa_nil)))))))))), ?_⟩
    have hB := g.hb
    obtain ⟨a, rfl, ha⟩ := dp_bdX hu
    obtain ⟨rx, ry, ri⟩ := r
    have hi := isB_iff hb
    refine q_anyX (t_cb1 <| tp_rowsS (jr := 2) (ed_ixT 2 (ed_of (ev_var rfl) hv) ev_c rfl rfl) (by omega) (by show 2 < 6; decide) fun p0 rs H1 hp0 e1 hx1 hP => ⟨p0, rs, kvB p.bs, rfl, sq_of hx1, hP, fun kd hkd => ?_⟩)
    rw [mergeT_app (kvB p.bs) [] (by rw [List.nil_append]; exact (kvB_map hB).uniq), List.nil_append]
    have hkH : H kd = none := fresh_back e1 hkd
    have hk2 : (upd H1 kd (.dT (kvB p.bs))) kd = some (.dT (kvB p.bs)) := upd_same
    have e2 : Ex H (upd H1 kd (.dT (kvB p.bs))) := e1.trans (Ex.new hkd)
    generalize (upd H1 kd (.dT (kvB p.bs))) = H2 at hk2 e2 ⊢
    have a2 := ex_t e2 ha
    have hlk : (kvB p.bs).length = p.bs.length := List.length_map ..
    have hix : ∀ {σ : L2.St} {H3 : Hp}, Ex H2 H3 → σ[1]? = some (some (.ref a)) → Ev (tOp (rIxT K) (tVar 1) (tC (.int 2))) σ H3 (.int ri) := fun e h => ev_op (ev_var h) ev_c (rv_ixT (ex_t e a2) (at_of (j := 2) rfl rfl))
    have hsl : ∀ {σ : L2.St} {H3 : Hp}, Ex H2 H3 → σ[1]? = some (some (.ref a)) → EvU (tSl (rSlT K) (tVar 1) tNoPart (tPart (tC (.int 2)))) σ H3 ((keyP rx ry).map kV) := fun e h => eu_slT (lo := none) (hi := some 2) (xs := [.str rx, .str ry, .int ri]) (ev_var h) (ex_t e a2) eo_none (eo_some ev_c) (by show ¬ (0 = 0 ∧ 2 = 3); decide)
    have hval : ∀ {σ : L2.St}, σ[1]? = some (some (.ref a)) → σ[3]? = some (some (.ref kd)) → Ev (tCB (fun xs H Q => ∃ i j, xs = [V.int i, V.int j] ∧ Q (V.int (if j < i then j else i)) H) (tCons (tOp (rIxT K) (tVar 1) (tC (.int 2))) (tCons (tDGet2 (tVar 3) (tSl (rSlT K) (tVar 1) tNoPart (tPart (tC (.int 2)))) (tOp (rIxT K) (tVar 1) (tC (.int 2)))) tNil))) σ H2 (.int (match mapB p.bs rx ry with | some j => if j < ri then j else ri | none => ri)) := fun h1 h3 => by
      have hg := ev_dget2T (ta := tVar 3) (k := keyP rx ry) (ev_var h3) (hsl (Ex.refl _) h1) (hix (Ex.refl _) h1) hk2
      rw [(kvB_map hB).val] at hg
      cases em : mapB p.bs rx ry with
      | none =>
        rw [em] at hg
        exact ev_is (ev_callB (ea_cons (hix (Ex.refl _) h1) (ea_cons hg ea_nil)) fun _ _ q => ⟨ri, ri, rfl, q⟩) (by rw [if_neg (Int.lt_irrefl ri)])
      | some j =>
        rw [em] at hg
        exact ev_callB (ea_cons (hix (Ex.refl _) h1) (ea_cons hg ea_nil)) fun _ _ q => ⟨ri, j, rfl, q⟩
    refine q_sdp (hval rfl rfl) fun H3 e3 => ⟨.ref kd, rfl, ?_⟩
    refine (hsl e3 rfl) H3 (Ex.refl _) _ fun p4 H4 hp4 e4 hx4 => ⟨kd, _, rfl, DPut.t (k := keyP rx ry) (e4 _ _ (e3 _ _ hk2)) hx4 (sz_lt (by omega)), ?_⟩
    have M := (kvB_map hB).put rx ry ri
    have F := (Fin.of hB).put (r := (rx, ry, ri)) hi.1 hi.2.1 hi.2.2
    have e5 := Ex.mut (o := .dT (putK (kvB p.bs) (keyP rx ry) (.int (match mapB p.bs rx ry with | some j => if j < ri then j else ri | none => ri)))) ((e2.trans e3).trans e4) hkH
    have hk5 : (upd H4 kd (.dT (putK (kvB p.bs) (keyP rx ry) (.int (match mapB p.bs rx ry with | some j => if j < ri then j else ri | none => ri))))) kd = some (.dT (putK (kvB p.bs) (keyP rx ry) (.int (match mapB p.bs rx ry with | some j => if j < ri then j else ri | none => ri)))) := upd_same
    have hl5 : (putK (kvB p.bs) (keyP rx ry) (.int (match mapB p.bs rx ry with | some j => if j < ri then j else ri | none => ri))).length ≤ 1000 := by
      refine Nat.le_trans (m := (kvB p.bs).length + 1) ?_ (by omega)
      unfold putK
      split
      · rw [List.length_map]; omega
      · rw [List.length_append]; exact Nat.le_refl _
    generalize (upd H4 kd (.dT (putK (kvB p.bs) (keyP rx ry) (.int (match mapB p.bs rx ry with | some j => if j < ri then j else ri | none => ri))))) = H5 at e5 hk5 ⊢
    refine q_anyX (t_cb1 <| tp_sortedP (jd := 3) (jp := 4) hk5 M hl5 rfl (by show 4 < 6; decide) (by decide) fun rows p6 xs H6 hperm hs hp6 e6 hx6 hd6 => ⟨p6, xs, rfl, .inl ⟨sq_of hx6, fun l hl => ?_⟩⟩)
    have hrows := rows_canonP M F hperm hs
    have e7 : Ex H (upd H6 l (.tup xs)) := (e5.trans e6).trans (Ex.new hl)
    have hd7 : Dp K (upd H6 l (.tup xs)) (.ref l) (.tuple ((joinB p.evs p.bs [(rx, ry, ri)]).map bdD)) := by
      rw [joinB_one, ← hrows]
      exact .tup (st_of upd_same) (dpa_ex (Ex.new hl) hd6)
    generalize (upd H6 l (.tup xs)) = H7 at e7 hd7 ⊢
    have hv7 := dp_ex e7 hv
    exact s_retD e7 (d := plT (withD p (rx, ry, ri))) (ed_tup (eds_cons (ed_ixT 0 (ed_of (ev_var rfl) hv7) ev_c rfl rfl) (eds_cons (ed_ixT 1 (ed_of (ev_var rfl) hv7) ev_c rfl rfl) (eds_cons (ed_of (ev_var rfl) hd7) (eds_cons (ed_ixT 3 (ed_of (ev_var rfl) hv7) ev_c rfl rfl) eds_nil)))) (by show 4 ≤ 100000; decide)) q
end
end Vf
end
section
set_option Elab.async false
set_option linter.all false
set_option maxRecDepth 100000
set_option maxHeartbeats 8000000
namespace Vf
open PySem PySem.Spec PyProof.Rows L2 Evl
theorem t_ifc {c : Bool} {A B : Prop} (h1 : c = true → A) (h2 : c = false → B) : if c = true then A else B := by
  cases c with
  | true => exact h1 rfl
  | false => exact h2 rfl
abbrev spWithoutL (K : PySem.W.Frag) : Sp := fun vs H Q _ => ∃ v u q r, vs = [v, u] ∧ Dp K H v (plT q) ∧ Dp K H u (prD r) ∧ DsP q ∧ RetD K (plT (withoutD q r.1 r.2.1)) H Q
abbrev spJoinL (K : PySem.W.Frag) : Sp := fun vs H Q _ => ∃ v u q r, vs = [v, u] ∧ Dp K H v (plT q) ∧ Dp K H u (plT r) ∧ DsP q ∧ DsP r ∧ r.evs = q.evs ∧ q.bs.length + r.bs.length ≤ 40 ∧ RetD K (plT (joinD q r)) H Q
abbrev spLimitL (K : PySem.W.Frag) : Sp := fun vs H Q _ => ∃ (p : Addr) (v : V) (es : List Str) (n : Nat), vs = [.ref p, v] ∧ Dp K (but H p) v (.tuple (es.map .str)) ∧ (∀ e ∈ es, e ≠ "go") ∧ es.Nodup ∧ 1 ≤ es.length ∧ es.length ≤ 7 ∧ SackAt H p n ∧ n + 100 < LIM ∧
  ∀ x r H', Dp K (but H' p) x (bdD r) → isBound es (bdD r) = true → Ex (but H p) (but H' p) → SackAt H' p (n + 10) → Q x H'
abbrev spMateL (K : PySem.W.Frag) : Sp := fun vs H Q _ => ∃ (p : Addr) (v : V) (q : PlanL) (n : Nat), vs = [.ref p, v] ∧ Dp K (but H p) v (plT q) ∧ DsP q ∧ SackAt H p n ∧ n + 200 < LIM ∧
  ∀ x r H', Dp K (but H' p) x (plT r) → DsP r → r.evs = q.evs → r.ts = q.ts → r.bs.length ≤ 3 → Ex (but H p) (but H' p) → SackAt H' p (n + 60) → Q x H'
section
variable {P : Program} {w : World} {K : PySem.W.Frag} {mg : Str → Option Value} {base : Heap} {tg : Tok} {f : Addr} {fd : FuncData}
abbrev s_law_without : Stmt := topS 84
theorem sc_law_without : FnScope ["plan_here", "pair", "row"] ["plan_here", "pair"] (defScope s_law_without) := ⟨rfl, rfl, rfl, by decide +kernel, rfl, by decide +kernel, by decide +kernel⟩
theorem ok_law_without (F : Fun K "_law_without" "_law_without" s_law_without f fd) (T : Txt mg tg) : FnOk P w K mg base CX0 1 f fd ["plan_here", "pair"] (spWithoutL K) := by
  refine F.ok sc_law_without (fun vs H Q E h => ?_) (fun cdv A outer s H vs Q E hr h => ?_)
  · obtain ⟨v, u, q, r, rfl, _⟩ := h
    rfl
  · obtain ⟨v, u, p, r, rfl, hv, hu, g, q⟩ := h
    refine ⟨_, (pss_one (ps_ret (pe_tup (pa_cons (pe_ix (ix_tupK (K := K) rfl) (pv 0) pe_int (fun _ _ => rfl)) (pa_cons (pe_ix (ix_tupK (K := K) rfl) (pv 0) pe_int (fun _ _ => rfl)) (pa_cons (pe_callTy (call_tuple_ofK (K := K) rfl) (by rfl) T.tuple (by decide +kernel) (pa_cons (pe_lc (own := [("row", 2)]) rfl sc_law_without.nd (pi_tupK (K := K) rfl (pe_ix (ix_tupK (K := K) rfl) (pv 0) pe_int (fun _ _ => rfl))) (blkOk_by (own := [("row", 2)]) (N := ["plan_here", "pair", "row"]) (sc := defScope s_law_without) (by decide +kernel)) (fun _ _ _ _ _ => (pg_name (i := 2) sc_law_without.nd rfl (Or.inl rfl))) (fun _ _ _ _ _ => (pts_one (pt_cmpR (op_nePK (K := K) rfl (hu64 hr)) (pe_slice (sl_tupK (K := K) rfl) (pv 2) po_none (po_some pe_int)) (pv 1) (nomark _)))) (fun _ _ _ _ _ => (pv 2))) pa_nil)) (pa_cons (pe_ix (ix_tupK (K := K) rfl) (pv 0) pe_int (fun _ _ => rfl)) pa_nil))))))), ?_⟩
    have nb := g.nb
    refine s_retD (Ex.refl _) (d := plT (withoutD p r.1 r.2.1)) (ed_tup (eds_cons (ed_ixT 0 (ed_of (ev_var rfl) hv) ev_c rfl rfl) (eds_cons (ed_ixT 1 (ed_of (ev_var rfl) hv) ev_c rfl rfl) (eds_cons (ed_tupOf (ed_n (en_mT (fa := bdD) (fb := bdD) (fun b => !decide (b.1 = r.1 ∧ b.2.1 = r.2.1)) (ed_ixT 2 (ed_of (ev_var rfl) hv) ev_c rfl rfl) (by omega) (fun _ _ _ => rfl) fun b x H3 e3 _ hx => ?_))) (eds_cons (ed_ixT 3 (ed_of (ev_var rfl) hv) ev_c rfl rfl) eds_nil)))) (by show 4 ≤ 100000; decide)) q
    refine ⟨_, ?_, goes_name, et_is (et_test (ev_opD (K := K) (ed_cut2 (ed_of (ev_var rfl) hx)) (ed_of (ev_var rfl) (dp_ex e3 hu)) (rd_neP (okP_pr b.1 b.2.1) (okP_pr r.1 r.2.1)))) (by rw [eqv_pr]), fun _ => ed_of (ev_var rfl) hx⟩
    rfl
abbrev s_law_joined : Stmt := topS 85
theorem sc_law_joined : FnScope ["plan_here", "mate", "found", "row"] ["plan_here", "mate"] (defScope s_law_joined) := ⟨rfl, rfl, rfl, by decide +kernel, rfl, by decide +kernel, by decide +kernel⟩
theorem ok_law_joined (F : Fun K "_law_joined" "_law_joined" s_law_joined f fd) (T : Txt mg tg) (C_law_with : Cal P w K mg base 1 "_law_with" ["plan_here", "limit_here"] (spWithL K)) : FnOk P w K mg base CX0 2 f fd ["plan_here", "mate"] (spJoinL K) := by
  refine F.ok sc_law_joined (fun vs H Q E h => ?_) (fun cdv A outer s H vs Q E hr h => ?_)
  · obtain ⟨v, u, q, r, rfl, _⟩ := h
    rfl
  · obtain ⟨v, u, p, r, rfl, hv, hu, g, g2, he, hn, q⟩ := h
    refine ⟨_, (pss_cons (ps_set (i := 2) sc_law_joined.nd rfl (Or.inl rfl) (pe_op (op_catAK (K := K) rfl) (pe_tup (pa_cons (pe_callB (call_min2 rfl) (by rfl) T.min (by decide +kernel) (pa_cons (pe_ix (ix_tupK (K := K) rfl) (pv 0) pe_int (fun _ _ => rfl)) (pa_cons (pe_ix (ix_tupK (K := K) rfl) (pv 1) pe_int (fun _ _ => rfl)) pa_nil))) pa_nil)) (pe_slice (sl_tupAK (K := K) rfl) (pv 0) (po_some pe_int) po_none))) (pss_cons (ps_for PassesOwn.never rfl (pi_tupK (K := K) rfl (pe_ix (ix_tupK (K := K) rfl) (pv 1) pe_int (fun _ _ => rfl))) (pg_name (i := 3) sc_law_joined.nd rfl (Or.inl rfl)) (pss_one (ps_set (i := 2) sc_law_joined.nd rfl (Or.inl rfl) (pe_cal C_law_with (by first | exact hr | exact hr.mono (by decide)) (by rfl) (pa_cons (pv 2) (pa_cons (pv 3) pa_nil)))))) (pss_one (ps_ret (pv 2))))), ?_⟩
    have nb := g.nb
    have nb2 := g2.nb
    obtain ⟨a2, w1, w2, w3, rfl, hs2, dw1, dw2, dw3⟩ := plan_at4 hu
    -- found = ..
    refine q_asgD (K := K) (d := plT ⟨if r.lat < p.lat then r.lat else p.lat, p.evs, p.bs, p.ts⟩) (ed_is (ed_catA (xs := [.int (if r.lat < p.lat then r.lat else p.lat)]) (ed_tup (eds_cons (ed_of (ev_callB (ea_cons (ev_intD (ed_ixT 0 (ed_of (ev_var rfl) hv) ev_c rfl rfl)) (ea_cons (ev_intD (ed_ixT 0 (ed_of (ev_var rfl) hu) ev_c rfl rfl)) ea_nil)) fun _ _ q => ⟨p.lat, r.lat, rfl, q⟩) (.int _)) eds_nil) (by show 1 ≤ 100000; decide)) (ed_slA (lo := some 1) (hi := none) (ds := [.int p.lat, .tuple (p.evs.map .str), .tuple (p.bs.map bdD), .tuple (p.ts.map tkD)]) (ed_of (ev_var rfl) hv) (eo_some ev_c) eo_none) (by show 1 + 3 ≤ 100000; decide)) rfl) fun x H1 e1 hx => ?_
    refine q_forTD (K := K) (B := H1) (ev_op (ev_var rfl) ev_c (rv_ixT (ex_t e1 hs2) (at_of (j := 2) rfl rfl))) (dp_ex e1 dw2) (Ex.refl _) (fun i σ' H' => ∃ x3 x, σ' = [some v, some (.ref a2), some x, x3] ∧ Ex H1 H' ∧ Dp K H' x (plT ⟨if r.lat < p.lat then r.lat else p.lat, p.evs, joinB p.evs p.bs (r.bs.take i), p.ts⟩))
      (fun H2 e2 => ⟨_, x, rfl, e2, by
        have e0 : joinB p.evs p.bs (r.bs.take 0) = p.bs := canon_self g.hb
        rw [e0]
        exact dp_ex e2 hx⟩) (fun i σ' H' ⟨_, _, _, e, _⟩ => e) ?_ ?_
    · rintro i y d σ' H2 hi hy ⟨x3, x, rfl, e2, hx2⟩
      rw [List.getElem?_map] at hi
      obtain ⟨b, hb, rfl⟩ := Option.map_eq_some_iff.mp hi
      have hil := (List.getElem?_eq_some_iff.mp hb).1
      have hfs : ∀ c ∈ r.bs, isPlace p.evs (.str c.1) = true ∧ isPlace p.evs (.str c.2.1) = true ∧ c.1 ≠ c.2.1 := fun c h => he ▸ (Bds.iff.mp g2.hb).1 c h
      have jo := joinB_ok g.hb (fs := r.bs.take i) fun c h => hfs c (List.mem_of_mem_take h)
      have jl : (joinB p.evs p.bs (r.bs.take i)).length ≤ 40 := Nat.le_trans jo.2 (by rw [List.length_take]; omega)
      have l0 := g.l0
      have l2 := g2.l0
      refine s_asgCall (ea_cons (ev_var rfl) (ea_cons (ev_var rfl) ea_nil)) fun H3 e3 => ⟨x, y, _, b, rfl, dp_ex e3 hx2, dp_ex (e2.trans e3) hy, ⟨g.nm, g.ha, jo.1, g.ht, by show 0 ≤ if r.lat < p.lat then r.lat else p.lat; split <;> assumption, g.n1, g.n7, g.n3, by show (joinB p.evs p.bs (r.bs.take i)).length ≤ 60; omega⟩, isB_of (hfs b (List.mem_of_getElem? hb)), by show (joinB p.evs p.bs (r.bs.take i)).length ≤ 50; omega, fun w H4 e4 hw => ⟨_, w, rfl, (e2.trans e3).trans e4, ?_⟩⟩
      rw [take_snoc hb, joinB_snoc g.hb fun c h => hfs c (List.mem_of_mem_take h)]
      exact hw
    · rintro σ' H2 ⟨x3, x, rfl, e2, hx2⟩
      rw [List.length_map, List.take_length] at hx2
      exact ⟨x, rfl, q x H2 (e1.trans e2) hx2⟩
abbrev s_law_limit : Stmt := topS 82
theorem sc_law_limit : FnScope ["sack", "points", "spots", "left", "spot", "right", "great"] ["sack", "points"] (defScope s_law_limit) := ⟨rfl, rfl, rfl, by decide +kernel, rfl, by decide +kernel, by decide +kernel⟩
theorem ok_law_limit (F : Fun K "_law_limit" "_law_limit" s_law_limit f fd) (T : Txt mg tg) (C_law_dip : Cal P w K mg base 1 "_law_dip" ["sack", "below"] spDip) : FnOk P w K mg base CX0 2 f fd ["sack", "points"] (spLimitL K) := by
  refine F.ok sc_law_limit (fun vs H Q E h => ?_) (fun cdv A outer s H vs Q E hr h => ?_)
  · obtain ⟨p, v, es, n, rfl, _⟩ := h
    rfl
  · obtain ⟨p, v, es, n, rfl, hv, hgo, hN, h1, h7, hsk, hn, q⟩ := h
    refine ⟨_, (pss_cons (ps_set (i := 2) sc_law_limit.nd rfl (Or.inl rfl) (pe_op op_cat (pe_callTy call_list_of (by rfl) T.list (by decide +kernel) (pa_cons (pv 1) pa_nil)) (pe_lst (pa_cons pe_str pa_nil)))) (pss_cons (ps_set (i := 3) sc_law_limit.nd rfl (Or.inr rfl) (pe_ix (ix_listK (K := K) rfl) (pv 2) (pe_cal C_law_dip (by first | exact hr | exact hr.mono (by decide)) (by rfl) (pa_cons (pv 0) (pa_cons (pe_callB (call_len_seqK (K := K) rfl) (by rfl) T.len (by decide +kernel) (pa_cons (pv 2) pa_nil)) pa_nil))) (fun _ _ => rfl))) (pss_cons (ps_setLc (i := 2) (own := [("spot", 4)]) rfl sc_law_limit.nd rfl rfl (sw_true rfl rfl rfl (by decide +kernel)) (pi_listK (K := K) rfl (pv 2)) (blkOk_by (own := [("spot", 4)]) (N := ["sack", "points", "spots", "left", "spot", "right", "great"]) (sc := defScope s_law_limit) (by decide +kernel)) (fun _ _ _ _ _ => (pg_name (i := 4) sc_law_limit.nd rfl (Or.inl rfl))) (fun _ _ _ _ _ => (pts_one (pt_cmpR op_ne (pv 4) (pv 3) (nomark _)))) (fun _ _ _ _ _ => (pv 4))) (pss_cons (ps_set (i := 5) sc_law_limit.nd rfl (Or.inl rfl) (pe_ix (ix_listK (K := K) rfl) (pv 2) (pe_cal C_law_dip (by first | exact hr | exact hr.mono (by decide)) (by rfl) (pa_cons (pv 0) (pa_cons (pe_callB (call_len_seqK (K := K) rfl) (by rfl) T.len (by decide +kernel) (pa_cons (pv 2) pa_nil)) pa_nil))) (fun _ _ => rfl))) (pss_cons (ps_set (i := 6) sc_law_limit.nd rfl (Or.inl rfl) (pe_ifExp (pt_cmpR op_eq (pe_cal C_law_dip (by first | exact hr | exact hr.mono (by decide)) (by rfl) (pa_cons (pv 0) (pa_cons pe_int pa_nil))) pe_int (nomark _)) pe_int pe_int)) (pss_one (ps_ret (pe_tup (pa_cons (pv 3) (pa_cons (pv 5) (pa_cons (pe_ix (ix_listK (K := K) rfl) (pe_lst (pa_cons pe_int (pa_cons pe_int (pa_cons (pe_cal C_law_dip (by first | exact hr | exact hr.mono (by decide)) (by rfl) (pa_cons (pv 0) (pa_cons (pv 6) pa_nil))) (pa_cons (pe_op op_sub pe_int (pe_cal C_law_dip (by first | exact hr | exact hr.mono (by decide)) (by rfl) (pa_cons (pv 0) (pa_cons (pv 6) pa_nil)))) pa_nil))))) (pe_cal C_law_dip (by first | exact hr | exact hr.mono (by decide)) (by rfl) (pa_cons (pv 0) (pa_cons pe_int pa_nil))) (fun _ _ => rfl)) pa_nil))))))))))), ?_⟩
    have hn' : n + 100 < 100000 := hn
    have R0 : Run p n (but H p) H := ⟨Ex.refl _, hsk⟩
    obtain ⟨u, rfl, hu⟩ : ∃ u, v = .ref u ∧ SqT K (but H p) u (es.map V.str) := by
      cases hv with
      | tup hs ha =>
        have := dpa_strs_inv ha
        subst this
        exact ⟨_, rfl, hs⟩
    -- spots = ..
    refine q_any ⟨.ref u, rfl, u, _, rfl, .inr (ex_t (but_ex H p) hu), fun ls hls => ?_⟩
    obtain ⟨hBs, hsp⟩ := R0.fresh hls
    have R1 := R0.upd (o := .lst (es.map V.str)) hBs hsp
    refine ⟨by show 1 ≤ sizeLine; decide, fun lg hlg => ?_⟩
    obtain ⟨hBg, hgp⟩ := R1.fresh hlg
    have R2 := R1.upd (o := .lst [.str "go"]) hBg hgp
    have hsg : ls ≠ lg := fun e => by subst e; rw [upd_same] at hlg; cases hlg
    refine ⟨ls, lg, es.map V.str, [.str "go"], rfl, rfl, by rw [upd_ne hsg, upd_same], upd_same, sz_of (by rw [List.length_map]; show es.length + 1 ≤ 100000; omega), fun sp hspn => ?_⟩
    obtain ⟨hBp, hpp⟩ := R2.fresh hspn
    have R3 := R2.upd (o := .lst (es.map V.str ++ [.str "go"])) hBp hpp
    have hspots : es.map V.str ++ [.str "go"] = (es ++ GO1).map V.str := by rw [List.map_append]; rfl
    have hS : (upd (upd (upd H ls (.lst (es.map V.str))) lg (.lst [.str "go"])) sp (.lst (es.map V.str ++ [.str "go"]))) sp = some (.lst ((es ++ GO1).map V.str)) := by rw [upd_same, hspots]
    generalize (upd (upd (upd H ls (.lst (es.map V.str))) lg (.lst [.str "go"])) sp (.lst (es.map V.str ++ [.str "go"]))) = H3 at R3 hS ⊢
    have hlS : ((es ++ GO1).length : Int) = (es.length : Int) + 1 := by simp
    -- left = ..
    refine q_any ⟨.ref sp, rfl, st_dip (B := but H p) (b := ((es ++ GO1).length : Int)) rfl (ev_is (ev_lenL (K := K) (ed_of (ev_var rfl) (Dp.lst (sq_of hS) (dpa_strs _)))) (by rw [List.length_map])) (by omega) (by omega) R3 (by unfold LIM; omega) fun r1 H4 a0 a1 R4 e4 => ?_⟩
    have hS4 := kept e4 hS hpp
    have hr1 : r1.toNat < (es ++ GO1).length := by omega
    refine ⟨sp, _, r1, .str (es ++ GO1)[r1.toNat], rfl, rfl, sq_of hS4, at_of (j := r1.toNat) (by omega) (by rw [List.getElem?_map, List.getElem?_eq_getElem hr1]; rfl), ?_⟩
    have hxm := List.getElem_mem hr1
    generalize (es ++ GO1)[r1.toNat] = x at hxm ⊢
    have hx := place_of hxm
    -- spots = those that are not left
    refine q_asgN (K := K) (ds := ((es ++ GO1).filter fun y => !decide (y = x)).map .str) (en_mL (fa := PyData.str) (fb := PyData.str) (fun y => !decide (y = x)) (ed_of (ev_var rfl) (Dp.lst (sq_of hS4) (dpa_strs _))) (by rw [List.length_append]; show es.length + 1 ≤ 40000; omega) (fun _ _ _ => rfl) fun y w H5 e5 _ hw => ?_) fun L2 xs H5 hL2 e5 hx5 hd5 => ?_
    · cases hw
      refine ⟨_, ?_, goes_name, et_is (et_test (ev_opD (K := K) (ed_of (ev_var rfl) (.str y)) (ed_of (ev_var rfl) (.str x)) rd_neS)) rfl, fun _ => ed_of (ev_var rfl) (.str y)⟩
      rfl
    have := dpa_strs_inv hd5
    subst this
    obtain ⟨hBL, hLp⟩ := R4.fresh hL2
    have R5 := R4.on e5
    have hfl : 1 ≤ ((es ++ GO1).filter fun y => !decide (y = x)).length := by
      by_cases hg : x = "go"
      · obtain ⟨e0, he0⟩ : ∃ e, e ∈ es := by
          cases es with
          | nil => cases h1
          | cons e r => exact ⟨e, List.mem_cons_self⟩
        refine List.length_pos_of_mem (a := e0) (List.mem_filter.mpr ⟨List.mem_append_left _ he0, ?_⟩)
        rw [hg, decide_eq_false (hgo e0 he0)]
        rfl
      · refine List.length_pos_of_mem (a := ("go" : Str)) (List.mem_filter.mpr ⟨List.mem_append_right _ (List.mem_singleton.mpr rfl), ?_⟩)
        rw [decide_eq_false (fun z => hg z.symm)]
        rfl
    have hfz : ((es ++ GO1).filter fun y => !decide (y = x)).length ≤ 8 := Nat.le_trans (List.length_filter_le _ _) (by rw [List.length_append]; show es.length + 1 ≤ 8; omega)
    have hfm : ∀ y ∈ (es ++ GO1).filter (fun y => !decide (y = x)), isPlace es (.str y) = true ∧ x ≠ y := fun y hy => ⟨place_of (List.mem_filter.mp hy).1, fun z => by
      have h := (List.mem_filter.mp hy).2
      rw [decide_eq_true z.symm] at h
      cases h⟩
    generalize (es ++ GO1).filter (fun y => !decide (y = x)) = fl at hx5 hfl hfz hfm ⊢
    -- right = ..
    refine q_any ⟨.ref L2, rfl, st_dip (B := but H p) (b := (fl.length : Int)) rfl (ev_is (ev_lenL (K := K) (ed_of (ev_var rfl) (Dp.lst (sq_of hx5) (dpa_strs _)))) (by rw [List.length_map])) (by omega) (by omega) R5 (by unfold LIM; omega) fun r2 H6 b0 b1 R6 e6 => ?_⟩
    have hS6 := kept e6 hx5 hLp
    have hr2 : r2.toNat < fl.length := by omega
    refine ⟨L2, _, r2, .str fl[r2.toNat], rfl, rfl, sq_of hS6, at_of (j := r2.toNat) (by omega) (by rw [List.getElem?_map, List.getElem?_eq_getElem hr2]; rfl), ?_⟩
    have hym := hfm _ (List.getElem_mem hr2)
    generalize fl[r2.toNat] = y at hym ⊢
    -- great = ..
    suffices key : ∀ (gr : Int) (H7 : Hp), 1 ≤ gr → gr ≤ 60 → Run p (n + 3) (but H p) H7 → tRet _ { nx := fun x H' => Q V.non H', rt := Q } [some (.ref p), some (.ref u), some (.ref L2), some (.str x), none, some (.str y), some (.int gr)] H7 by
      refine q_any ?_
      refine st_dip (B := but H p) (b := 8) rfl ev_c (by decide) (by decide) R6 (by unfold LIM; omega) fun r3 H7 c0 c1 R7 e7 => ?_
      refine ⟨rfl, _, rfl, t_ifc (fun _ => ?_) fun _ => ?_⟩
      · exact key 60 H7 (by decide) (by decide) (R7.mono (by omega))
      · exact key 12 H7 (by decide) (by decide) (R7.mono (by omega))
    intro gr H7 g1 g60 R7
    refine ⟨_, rfl, _, rfl, ?_⟩
    refine st_dip (B := but H p) (b := gr) rfl (ev_var rfl) (by omega) (by omega) R7 (by unfold LIM; omega) fun r3 H8 c0 c1 R8 e8 => ?_
    refine st_dip (B := but H p) (b := gr) rfl (ev_var rfl) (by omega) (by omega) R8 (by unfold LIM; omega) fun r4 H9 d0 d1 R9 e9 => ?_
    refine ⟨_, _, rfl, rfl, by show 4 ≤ sizeLine; decide, fun w hw => ?_⟩
    obtain ⟨hBw, hwp⟩ := R9.fresh hw
    refine st_dip (B := but H p) (b := 4) rfl ev_c (by decide) (by decide) (R9.upd hBw hwp) (by unfold LIM; omega) fun r5 Ha g0 g1' Ra ea => ?_
    have hwa : Ha w = some (.lst [.int 0, .int 1, .int r3, .int (0 - r4)]) := kept ea upd_same hwp
    obtain ⟨z, hzv⟩ : ∃ z : Int, atI [V.int 0, .int 1, .int r3, .int (0 - r4)] r5 = some (.int z) := by
      have h4 : r5 = 0 ∨ r5 = 1 ∨ r5 = 2 ∨ r5 = 3 := by omega
      rcases h4 with rfl | rfl | rfl | rfl
      · exact ⟨0, rfl⟩
      · exact ⟨1, rfl⟩
      · exact ⟨r3, rfl⟩
      · exact ⟨0 - r4, rfl⟩
    refine ⟨w, _, r5, _, rfl, rfl, sq_of hwa, hzv, by show 3 ≤ sizeLine; decide, fun t ht => ?_⟩
    obtain ⟨hBt, htp⟩ := Ra.fresh ht
    have Rt := Ra.upd (o := .tup [.str x, .str y, .int z]) hBt htp
    refine q (.ref t) (x, y, z) _ (.tup (st_of (by rw [but_ne htp, upd_same])) (.cons (.str _) (.cons (.str _) (.cons (.int _) .nil)))) (isB_of ⟨hx, hym.1, hym.2⟩) Rt.ex (Rt.sk.mono (by omega))
abbrev s_law_mate_plan : Stmt := topS 86
theorem sc_law_mate_plan : FnScope ["sack", "plan_here", "found", "k"] ["sack", "plan_here"] (defScope s_law_mate_plan) := ⟨rfl, rfl, rfl, by decide +kernel, rfl, by decide +kernel, by decide +kernel⟩
theorem ok_law_mate_plan (F : Fun K "_law_mate_plan" "_law_mate_plan" s_law_mate_plan f fd) (T : Txt mg tg) (C_law_dip : Cal P w K mg base 1 "_law_dip" ["sack", "below"] spDip) (C_law_limit : Cal P w K mg base 2 "_law_limit" ["sack", "points"] (spLimitL K)) (C_law_with : Cal P w K mg base 1 "_law_with" ["plan_here", "limit_here"] (spWithL K)) : FnOk P w K mg base CX0 3 f fd ["sack", "plan_here"] (spMateL K) := by
  refine F.ok sc_law_mate_plan (fun vs H Q E h => ?_) (fun cdv A outer s H vs Q E hr h => ?_)
  · obtain ⟨p, v, q, n, rfl, _⟩ := h
    rfl
  · obtain ⟨p, v, pl, n, rfl, hv, g, hsk, hn, q⟩ := h
    refine ⟨_, (pss_cons (ps_set (i := 2) sc_law_mate_plan.nd rfl (Or.inl rfl) (pe_tup (pa_cons (pe_cal C_law_dip (by first | exact hr | exact hr.mono (by decide)) (by rfl) (pa_cons (pv 0) (pa_cons pe_int pa_nil))) (pa_cons (pe_ix (ix_tupK (K := K) rfl) (pv 1) pe_int (fun _ _ => rfl)) (pa_cons (pe_tup pa_nil) (pa_cons (pe_ix (ix_tupK (K := K) rfl) (pv 1) pe_int (fun _ _ => rfl)) pa_nil)))))) (pss_cons (ps_for PassesOwn.never rfl (pi_range1 rfl T.range (pa_cons (pe_cal C_law_dip (by first | exact hr | exact hr.mono (by decide)) (by rfl) (pa_cons (pv 0) (pa_cons pe_int pa_nil))) pa_nil)) (pg_name (i := 3) sc_law_mate_plan.nd rfl (Or.inl rfl)) (pss_one (ps_set (i := 2) sc_law_mate_plan.nd rfl (Or.inl rfl) (pe_cal C_law_with (by first | exact hr | exact hr.mono (by decide)) (by rfl) (pa_cons (pv 2) (pa_cons (pe_cal C_law_limit (by first | exact hr | exact hr.mono (by decide)) (by rfl) (pa_cons (pv 0) (pa_cons (pe_ix (ix_tupK (K := K) rfl) (pv 1) pe_int (fun _ _ => rfl)) pa_nil))) pa_nil)))))) (pss_one (ps_ret (pv 2))))), ?_⟩
    have hn' : n + 200 < 100000 := hn
    have R0 : Run p n (but H p) H := ⟨Ex.refl _, hsk⟩
    have lst_of : ∀ {m : Nat} {H' : Hp}, SackAt H' p m → ∃ ys, H' p = some (.lst ys) := fun h => by
      obtain ⟨_, _, _, h, _⟩ := h
      exact ⟨_, h⟩
    -- found = ..
    refine q_any ?_
    refine st_dip (B := but H p) (b := 20) rfl ev_c (by decide) (by decide) R0 (by unfold LIM; omega) fun r1 H1 a0 a1 R1 e1 => ?_
    have hv1 := dp_ex (but_ex H1 p) (dp_ex e1 hv)
    refine (eds_cons (K := K) (ed_ixT 1 (ed_of (ev_var rfl) hv1) ev_c rfl rfl) (eds_cons (ed_tup eds_nil (by decide)) (eds_cons (ed_ixT 3 (ed_of (ev_var rfl) hv1) ev_c rfl rfl) eds_nil))) H1 (Ex.refl _) _ fun vs H2 e2 hvs => ?_
    have hvl := dpa_len hvs
    refine ⟨sz_of (by rw [List.length_cons, hvl]; show 3 + 1 ≤ 100000; decide), fun t ht => ?_⟩
    have hdt : Dp K (upd H2 t (.tup (.int r1 :: vs))) (.ref t) (plT ⟨r1, pl.evs, [], pl.ts⟩) := .tup (st_of upd_same) (.cons (.int _) (dpa_ex (Ex.new ht) hvs))
    have R3 := (R1.on e2).on (Ex.new (o := .tup (.int r1 :: vs)) ht)
    generalize (upd H2 t (.tup (.int r1 :: vs))) = H3 at hdt R3 ⊢
    obtain ⟨ys3, hy3⟩ := lst_of R3.sk
    have hdt3 := dp_but (noL_plT _) hdt hy3
    -- for k in range(..)
    refine q_forRdip (B := but H p) (b := 4) rfl ev_c (by decide) (by decide) R3 (by unfold LIM; omega) fun r2 H4 b0 b1 R4 e4 => ?_
    refine q_forR1 (n := r2) (ea_cons ev_c ea_nil) (by omega) (fun i σ' H' => ∃ x3 x r, σ' = [some (.ref p), some v, some x, x3] ∧ Run p (n + 2 + 11 * i) (but H p) H' ∧ Dp K (but H' p) x (plT r) ∧ DsP r ∧ r.evs = pl.evs ∧ r.ts = pl.ts ∧ r.bs.length ≤ i)
      (fun H5 e5 => ⟨_, _, ⟨r1, pl.evs, [], pl.ts⟩, rfl, R4.on e5, dp_ex (e4.trans (but_mono e5)) hdt3, ⟨g.nm, g.ha, rfl, g.ht, a0, g.n1, g.n7, g.n3, Nat.zero_le _⟩, rfl, rfl, Nat.zero_le _⟩) ?_ ?_
    · rintro i σ' H5 hi ⟨x3, x, r, rfl, R5, hx, gr, he, ht', hl⟩
      have hi4 : i < 4 := by omega
      have hv5 := dp_ex R5.ex hv
      obtain ⟨a, v1, v2, v3, rfl, hs, d1, d2, d3⟩ := plan_at4 hv5
      have hN := asc_nodup _ g.ha
      refine ⟨x, rfl, .ref p, rfl, ?_⟩
      refine (ev_op (ev_var rfl) ev_c (rv_ixT (ex_t (but_ex H5 p) hs) (at_of (j := 1) rfl rfl)) : Ev (tOp (rIxT K) (tVar 1) (tC (.int 1))) _ H5 v1) H5 (Ex.refl _) _ fun H6 e6 => ?_
      have R6 := R5.on e6
      refine ⟨p, v1, pl.evs, n + 2 + 11 * i, rfl, dp_ex (but_mono e6) d1, fun e h => (of_isName (g.nm e h)).1, hN, g.n1, g.n7, R6.sk, by unfold LIM; omega, fun y b H7 hy hb e7 sk7 => ?_⟩
      have R7 : Run p (n + 2 + 11 * i + 10) (but H p) H7 := ⟨R6.ex.trans e7, sk7⟩
      have hx7 := dp_ex ((but_mono e6).trans e7) hx
      refine ⟨x, y, r, b, rfl, dp_ex (but_ex H7 p) hx7, dp_ex (but_ex H7 p) hy, gr, by rw [he]; exact hb, by omega, fun w H8 e8 hw => ?_⟩
      have R8 := R7.on e8
      obtain ⟨ys8, hy8⟩ := lst_of R8.sk
      have wo := withD_ok gr (r := b) (by rw [he]; exact hb) (by omega)
      exact ⟨_, w, withD r b, rfl, R8.mono (by omega), dp_but (noL_plT _) hw hy8, wo.1, he, ht', by have := wo.2; omega⟩
    · rintro σ' H5 ⟨x3, x, r, rfl, R5, hx, gr, he, ht', hl⟩
      exact ⟨x, rfl, q x r H5 hx gr he ht' (by omega) R5.ex (R5.sk.mono (by omega))⟩
end
end Vf
end
section
set_option Elab.async false
set_option linter.all false
set_option maxRecDepth 100000
set_option maxHeartbeats 8000000
namespace Vf
open PySem PySem.Spec PyProof.Rows L2 Evl
/-! ### one long task -/
abbrev prJ (j : Job) : PyData := .tuple [.str j.1, .str j.2.1]
theorem job_lt {a b : Job} (h : PySem.W.dataLt (prJ a) (prJ b) = true) : PySem.W.dataLt (jobD a) (jobD b) = true := by
  obtain ⟨x, y, i, i'⟩ := b
  obtain ⟨x', y', j, j'⟩ := a
  have h' : PyProof.Rows.lexLt itemOrd [.inl 1, .inr x'.cps.toList, .inl 1, .inr y'.cps.toList, .inl 0] [.inl 1, .inr x.cps.toList, .inl 1, .inr y.cps.toList, .inl 0] = true := h
  show PyProof.Rows.lexLt itemOrd [.inl 1, .inr x'.cps.toList, .inl 1, .inr y'.cps.toList, .inl 1, .inl j, .inl 1, .inl j', .inl 0] [.inl 1, .inr x.cps.toList, .inl 1, .inr y.cps.toList, .inl 1, .inl i, .inl 1, .inl i', .inl 0] = true
  rw [lex_self] at h' ⊢
  by_cases hx : (Sum.inr x'.cps.toList : Int ⊕ List Nat) = .inr x.cps.toList
  · rw [hx, lex_self, lex_self] at h'
    rw [hx, lex_self, lex_self]
    by_cases hy : (Sum.inr y'.cps.toList : Int ⊕ List Nat) = .inr y.cps.toList
    · rw [hy, lex_self] at h'
      rw [show PyProof.Rows.lexLt itemOrd [(.inl 0 : Int ⊕ List Nat)] [.inl 0] = false from lex_irrefl _] at h'
      cases h'
    · rw [lex_diff (O := itemOrd) hy] at h' ⊢
      exact h'
  · rw [lex_diff (O := itemOrd) hx] at h' ⊢
    exact h'
theorem prJ_inj {a b : Job} (h : PySem.W.keyToks (prJ a) = PySem.W.keyToks (prJ b)) : a.2.1 = b.2.1 := by
  simp [prJ, PySem.W.keyToks, PySem.W.keyToksAll] at h
  exact cp_inj (congrArg Array.toList h.2)
theorem long_tasks {es : List Str} {js us : List Job} {sp : List Str} {j0 : Job} {l g : Int} (J : Jobs es js sp) (hp : (j0 :: us).Perm js) (ht : areTasks es (.tuple ((j0 :: us).map jobD)) = true) (h1 : 1 ≤ l) (h2 : l ≤ g) (h3 : g ≤ 40) : areTasks es (.tuple (((j0.1, j0.2.1, l, g) :: us).map jobD)) = true := by
  have hN : ((j0 :: us).map (·.2.1)).Nodup := (hp.map (·.2.1)).nodup_iff.mpr J.uniq
  rw [List.map_cons, List.nodup_cons] at hN
  have f : Job → Job := fun j => j
  let F : Job → Job := fun j => if j.2.1 = j0.2.1 then (j.1, j.2.1, l, g) else j
  have F1 : ∀ j, (F j).1 = j.1 := fun j => by show (if _ then _ else _ : Job).1 = _; split <;> rfl
  have F2 : ∀ j, (F j).2.1 = j.2.1 := fun j => by show (if _ then _ else _ : Job).2.1 = _; split <;> rfl
  have hF : (j0 :: us).map F = (j0.1, j0.2.1, l, g) :: us := by
    rw [List.map_cons]
    have e1 : F j0 = (j0.1, j0.2.1, l, g) := if_pos rfl
    have e2 : us.map F = us := by
      conv => rhs; rw [← List.map_id us]
      refine List.map_congr_left fun j hj => ?_
      exact if_neg fun e => hN.1 (List.mem_map.mpr ⟨j, hj, e⟩)
    rw [e1, e2]
  have ends : (js.map F).map (·.2.1) = js.map (·.2.1) := by
    rw [List.map_map]
    exact List.map_congr_left fun j _ => F2 j
  have J2 : Jobs es (js.map F) sp := by
    refine ⟨fun j hj => ?_, fun x => by rw [ends]; exact J.sp x, by rw [ends]; exact J.uniq, ?_, fun j hj => ?_⟩
    · obtain ⟨i, hi, rfl⟩ := List.mem_map.mp hj
      have o := J.ok i hi
      rw [F1, F2]
      refine ⟨o.1, o.2.1, ?_⟩
      show 1 ≤ (if _ then _ else _ : Job).2.2.1 ∧ (if _ then _ else _ : Job).2.2.1 ≤ (if _ then _ else _ : Job).2.2.2 ∧ (if _ then _ else _ : Job).2.2.2 ≤ 40
      split
      · exact ⟨h1, h2, h3⟩
      · exact o.2.2
    · rw [List.pairwise_map]
      refine J.back.imp fun {a b} h => ?_
      rw [F1, F2]
      exact h
    · obtain ⟨i, hi, rfl⟩ := List.mem_map.mp hj
      rw [F1, F2]
      exact J.own i hi
  rw [← hF]
  refine J2.tasks (by rw [List.map_map, List.map_map]; exact hp.map _) ?_
  rw [hF]
  have A := Bool.and_eq_true_iff.mp (show ((((j0 :: us).map jobD).all (isTask es)) && (ascD ((j0 :: us).map jobD) && _)) = true from ht)
  have pw := asc_pw _ (Bool.and_eq_true_iff.mp A.2).1
  rw [List.map_cons, List.pairwise_cons] at pw ⊢
  refine ⟨fun d hd => ?_, pw.2.imp fun h => lt_asymm h⟩
  obtain ⟨j, hj, rfl⟩ := List.mem_map.mp hd
  have h4 := pw.1 _ hd
  have h5 : PySem.W.dataLt (prJ j0) (prJ j) = true := by
    cases e : PySem.W.dataLt (prJ j0) (prJ j) with
    | true => rfl
    | false =>
      cases e2 : PySem.W.dataLt (prJ j) (prJ j0) with
      | true =>
        have := lt_asymm (job_lt e2)
        rw [this] at h4
        cases h4
      | false => exact absurd (List.mem_map.mpr ⟨j, hj, (prJ_inj (lex_total _ _ e e2)).symm⟩) hN.1
  exact lt_asymm (job_lt (a := (j0.1, j0.2.1, l, g)) (b := j) h5)
theorem q_ifAnd {σ : L2.St} {H : Hp} {ta tb : TT} {t : TS} {tz : TS} {D : Ends} {b : Bool} (ha : EvT ta σ H b) (h1 : b = true → ∀ H1, Ex H H1 → tb σ H1 fun c H2 => if c = true then t { D with nx := tz D } σ H2 else tz D σ H2) (h2 : b = false → ∀ H1, Ex H H1 → tz D σ H1) : tSeq (tIfS (tAnd ta tb) t tNext) tz D σ H := ha H (Ex.refl H) _ fun H1 e1 => by
  cases b with
  | true => exact h1 rfl H1 e1
  | false => exact h2 rfl H1 e1
theorem rd_catA {K : PySem.W.Frag} {H : Hp} {v u : V} {xs ys : List PyData} {Q : VK} (hv : Dp K H v (.tuple xs)) (hu : Dp K H u (.tuple ys)) (hz : xs.length + ys.length ≤ 100000) (k : ∀ w H2, Ex H H2 → Dp K H2 w (.tuple (xs ++ ys)) → Q w H2) : rCatA K v u H Q :=
  (ed_catA (K := K) (σ := []) (ta := tC v) (tb := tC u) (ed_of ev_c hv) (ed_of ev_c hu) hz) H (Ex.refl H) Q k
theorem noL_strs (es : List Str) : noL (.tuple (es.map .str)) = true := noLs_of fun d hd => by
  obtain ⟨e, _, rfl⟩ := List.mem_map.mp hd
  rfl
theorem noL_jobs (us : List Job) : noL (.tuple (us.map jobD)) = true := noLs_of fun d hd => by
  obtain ⟨e, _, rfl⟩ := List.mem_map.mp hd
  rfl
abbrev spGreatD (K : PySem.W.Frag) : Sp := fun vs H Q _ => ∃ (p : Addr) (n : Nat), vs = [.ref p] ∧ SackAt H p n ∧ n + 700 < LIM ∧
  ∀ x q H', Dp K (but H' p) x (plT q) → DsP q → q.bs.length ≤ 4 → Ex (but H p) (but H' p) → SackAt H' p (n + 400) → Q x H'
section
variable {P : Program} {w : World} {K : PySem.W.Frag} {mg : Str → Option Value} {base : Heap} {tg : Tok} {f : Addr} {fd : FuncData} {C : Addr}
abbrev s_law_great_plan : Stmt := topS 88
theorem sc_law_great_plan : FnScope ["sack", "points", "great", "jobs", "limits_here"] ["sack"] (defScope s_law_great_plan) := ⟨rfl, rfl, rfl, by decide +kernel, rfl, by decide +kernel, by decide +kernel⟩
theorem ok_law_great_plan (F : Fun K "_law_great_plan" "_law_great_plan" s_law_great_plan f fd) (T : Txt mg tg) (C_law_dip : Cal P w K mg base 1 "_law_dip" ["sack", "below"] spDip) (C_law_names : Cal P w K mg base 2 "_law_names" ["sack", "many_here"] (spNames K)) (C_law_jobs : Cal P w K mg base 2 "_law_jobs" ["sack", "points", "many_here", "great"] (spJobs K)) (C_law_limits : Cal P w K mg base 2 "_law_limits" ["sack", "points", "many_here", "great"] (spLimits K)) : FnOk P w K mg base CX0 3 f fd ["sack"] (spGreatD K) := by
  refine F.ok sc_law_great_plan (fun vs H Q E h => ?_) (fun cdv A outer s H vs Q E hr h => ?_)
  · obtain ⟨p, n, rfl, _⟩ := h
    rfl
  · obtain ⟨p, n, rfl, hsk, hn, q⟩ := h
    refine ⟨_, (pss_cons (ps_set (i := 1) sc_law_great_plan.nd rfl (Or.inl rfl) (pe_cal C_law_names (by first | exact hr | exact hr.mono (by decide)) (by rfl) (pa_cons (pv 0) (pa_cons (pe_op op_add pe_int (pe_cal C_law_dip (by first | exact hr | exact hr.mono (by decide)) (by rfl) (pa_cons (pv 0) (pa_cons (pe_ix (ix_listK (K := K) rfl) (pe_lst (pa_cons pe_int (pa_cons pe_int pa_nil))) (pe_cal C_law_dip (by first | exact hr | exact hr.mono (by decide)) (by rfl) (pa_cons (pv 0) (pa_cons pe_int pa_nil))) (fun _ _ => rfl)) pa_nil)))) pa_nil)))) (pss_cons (ps_set (i := 2) sc_law_great_plan.nd rfl (Or.inl rfl) (pe_ix (ix_listK (K := K) rfl) (pe_lst (pa_cons pe_int (pa_cons pe_int pa_nil))) (pe_cal C_law_dip (by first | exact hr | exact hr.mono (by decide)) (by rfl) (pa_cons (pv 0) (pa_cons pe_int pa_nil))) (fun _ _ => rfl))) (pss_cons (ps_set (i := 3) sc_law_great_plan.nd rfl (Or.inl rfl) (pe_cal C_law_jobs (by first | exact hr | exact hr.mono (by decide)) (by rfl) (pa_cons (pv 0) (pa_cons (pv 1) (pa_cons (pe_cal C_law_dip (by first | exact hr | exact hr.mono (by decide)) (by rfl) (pa_cons (pv 0) (pa_cons pe_int pa_nil))) (pa_cons (pv 2) pa_nil)))))) (pss_cons (ps_if (PW.pt (pw_and (pt_cmpR (op_nePK (K := K) rfl (hu64 hr)) (pv 3) (pe_tup pa_nil) (nomark _)) (pw_and1 (pt_cmpR op_eq (pe_cal C_law_dip (by first | exact hr | exact hr.mono (by decide)) (by rfl) (pa_cons (pv 0) (pa_cons pe_int pa_nil))) pe_int (nomark _))))) (pss_one (ps_set (i := 3) sc_law_great_plan.nd rfl (Or.inl rfl) (pe_op (op_catAK (K := K) rfl) (pe_tup (pa_cons (pe_op (op_catAK (K := K) rfl) (pe_slice (sl_tupK (K := K) rfl) (pe_ix (ix_tupK (K := K) rfl) (pv 3) pe_int (fun _ _ => rfl)) po_none (po_some pe_int)) (pe_tup (pa_cons (pe_op op_add pe_int (pe_cal C_law_dip (by first | exact hr | exact hr.mono (by decide)) (by rfl) (pa_cons (pv 0) (pa_cons pe_int pa_nil)))) (pa_cons (pe_op op_add pe_int (pe_cal C_law_dip (by first | exact hr | exact hr.mono (by decide)) (by rfl) (pa_cons (pv 0) (pa_cons pe_int pa_nil)))) pa_nil)))) pa_nil)) (pe_slice (sl_tupAK (K := K) rfl) (pv 3) (po_some pe_int) po_none)))) pss_nil) (pss_cons (ps_set (i := 4) sc_law_great_plan.nd rfl (Or.inl rfl) (pe_cal C_law_limits (by first | exact hr | exact hr.mono (by decide)) (by rfl) (pa_cons (pv 0) (pa_cons (pv 1) (pa_cons (pe_cal C_law_dip (by first | exact hr | exact hr.mono (by decide)) (by rfl) (pa_cons (pv 0) (pa_cons pe_int pa_nil))) (pa_cons (pe_ix (ix_listK (K := K) rfl) (pe_lst (pa_cons pe_int (pa_cons pe_int (pa_cons pe_int (pa_cons pe_int pa_nil))))) (pe_cal C_law_dip (by first | exact hr | exact hr.mono (by decide)) (by rfl) (pa_cons (pv 0) (pa_cons pe_int pa_nil))) (fun _ _ => rfl)) pa_nil)))))) (pss_one (ps_ret (pe_tup (pa_cons (pe_ix (ix_listK (K := K) rfl) (pe_lst (pa_cons pe_int (pa_cons pe_int (pa_cons pe_int (pa_cons pe_int pa_nil))))) (pe_cal C_law_dip (by first | exact hr | exact hr.mono (by decide)) (by rfl) (pa_cons (pv 0) (pa_cons pe_int pa_nil))) (fun _ _ => rfl)) (pa_cons (pv 1) (pa_cons (pv 4) (pa_cons (pv 3) pa_nil)))))))))))), ?_⟩
    have hn' : n + 700 < 100000 := hn
    have R0 : Run p n (but H p) H := ⟨Ex.refl _, hsk⟩
    have lst_of : ∀ {m : Nat} {H' : Hp}, SackAt H' p m → ∃ ys, H' p = some (.lst ys) := fun h => by
      obtain ⟨_, _, _, h, _⟩ := h
      exact ⟨_, h⟩
    -- points = ..
    refine q_any ⟨.ref p, rfl, .ref p, rfl, by show 2 ≤ sizeLine; decide, fun w hw => ?_⟩
    obtain ⟨hBw, hwp⟩ := R0.fresh hw
    refine st_dip (B := but H p) (b := 2) rfl ev_c (by decide) (by decide) (R0.upd hBw hwp) (by unfold LIM; omega) fun r1 H1 a0 a1 R1 e1 => ?_
    have hw1 : H1 w = some (.lst [.int 5, .int 7]) := kept e1 upd_same hwp
    obtain ⟨m, hm, m0, m7⟩ : ∃ m : Int, atI [V.int 5, .int 7] r1 = some (.int m) ∧ 1 ≤ m ∧ m ≤ 7 := by
      have h4 : r1 = 0 ∨ r1 = 1 := by omega
      rcases h4 with rfl | rfl
      · exact ⟨5, rfl, by decide, by decide⟩
      · exact ⟨7, rfl, by decide, by decide⟩
    refine ⟨w, _, r1, _, rfl, rfl, sq_of hw1, hm, ?_⟩
    refine ⟨p, m, n + 1, rfl, by omega, by omega, R1.sk, by unfold LIM; omega, fun r2 H2 b0 b1 e2 sk2 => ?_⟩
    have R2 : Run p (n + 2) (but H p) H2 := ⟨R1.ex.trans e2, sk2⟩
    refine ⟨1, r2, rfl, rfl, ?_⟩
    refine ⟨p, 1 + r2.toNat, n + 2, by show [V.ref p, V.int (1 + r2)] ++ [] = _; rw [show ((1 + r2.toNat : Nat) : Int) = 1 + r2 by omega]; rfl, by omega, R2.sk, by unfold LIM; omega, fun u ou es H3 hod hl hnm hasc e3 sk3 hu => ?_⟩
    have R3 : Run p (n + 102) (but H p) H3 := ⟨R2.ex.trans e3, sk3⟩
    have l1 : 1 ≤ es.length := by omega
    have l7 : es.length ≤ 7 := by omega
    have hN := asc_nodup es hasc
    have hu3 : SqT K (but H3 p) u (es.map V.str) := sf_of hu
    -- great = ..
    refine q_any ⟨by show 2 ≤ sizeLine; decide, fun w2 hw2 => ?_⟩
    obtain ⟨hBw2, hwp2⟩ := R3.fresh hw2
    refine st_dip (B := but H p) (b := 2) rfl ev_c (by decide) (by decide) (R3.upd hBw2 hwp2) (by unfold LIM; omega) fun r3 H4 c0 c1 R4 e4 => ?_
    have hw4 : H4 w2 = some (.lst [.int 3, .int 8]) := kept e4 upd_same hwp2
    obtain ⟨gr, hgr, gr1, gr8⟩ : ∃ m : Int, atI [V.int 3, .int 8] r3 = some (.int m) ∧ 1 ≤ m ∧ m ≤ 8 := by
      have h4 : r3 = 0 ∨ r3 = 1 := by omega
      rcases h4 with rfl | rfl
      · exact ⟨3, rfl, by decide, by decide⟩
      · exact ⟨8, rfl, by decide, by decide⟩
    refine ⟨w2, _, r3, _, rfl, rfl, sq_of hw4, hgr, ?_⟩
    have e34 : Ex (but H3 p) (but H4 p) := (but_mono (Ex.new hw2)).trans e4
    -- jobs = ..
    refine q_any ⟨.ref p, rfl, .ref u, rfl, ?_⟩
    refine st_dip (B := but H p) (b := 4) rfl ev_c (by decide) (by decide) R4 (by unfold LIM; omega) fun r4 H5 d0 d1 R5 e5 => ?_
    refine ⟨.int gr, rfl, ?_⟩
    refine ⟨p, u, es, r4.toNat, n + 104, gr, by show [V.ref p, V.ref u, V.int r4, V.int gr] ++ [] = _; rw [show ((r4.toNat : Nat) : Int) = r4 by omega]; rfl, ex_t (e34.trans e5) hu3, hN, by omega, by omega, by omega, by omega, R5.sk, by unfold LIM; omega, fun a ts H6 htl htk ⟨js, sp, J, hperm⟩ e6 sk6 hts => ?_⟩
    have R6 : Run p (n + 130) (but H p) H6 := ⟨R5.ex.trans e6, sk6.mono (by omega)⟩
    obtain ⟨us, rfl, hus⟩ := lift_perm jobD hperm
    rw [List.length_map] at htl
    have e36 : Ex (but H3 p) (but H6 p) := (e34.trans e5).trans e6
    have hu6 := ex_t e36 hu3
    -- what follows, with any tasks
    have key : ∀ (x : V) (us2 : List Job) (H7 : Hp), areTasks es (.tuple (us2.map jobD)) = true → us2.length ≤ 3 → Dp K (but H7 p) x (.tuple (us2.map jobD)) → SqT K (but H7 p) u (es.map V.str) → Run p (n + 140) (but H p) H7 →
        tSeq (tAsg (tCall (spLimits K) [] E0 (tCons (tVar 0) (tCons (tVar 1) (tCons (tCall spDip [] E0 (tCons (tVar 0) (tCons (tC (.int 5)) tNil))) (tCons (tOp (rIxL K) (tLst (tCons (tC (.int 2)) (tCons (tC (.int 10)) (tCons (tC (.int 60)) (tCons (tC (.int 80)) tNil))))) (tCall spDip [] E0 (tCons (tVar 0) (tCons (tC (.int 4)) tNil)))) tNil))))) (gName 4))
          (tRet (tTup (tCons (tOp (rIxL K) (tLst (tCons (tC (.int 0)) (tCons (tC (.int 4)) (tCons (tC (.int 12)) (tCons (tC (.int 40)) tNil))))) (tCall spDip [] E0 (tCons (tVar 0) (tCons (tC (.int 4)) tNil)))) (tCons (tVar 1) (tCons (tVar 4) (tCons (tVar 3) tNil)))))) { nx := fun x H' => Q V.non H', rt := Q } [some (.ref p), some (.ref u), some (.int gr), some x, none] H7 := by
      intro x us2 H7 ht2 hl2 hx7 hu7 R7
      refine q_any ⟨.ref p, rfl, .ref u, rfl, ?_⟩
      refine st_dip (B := but H p) (b := 5) rfl ev_c (by decide) (by decide) R7 (by unfold LIM; omega) fun r5 H8 f0 f1 R8 e8 => ?_
      refine ⟨by show 4 ≤ sizeLine; decide, fun w3 hw3 => ?_⟩
      obtain ⟨hBw3, hwp3⟩ := R8.fresh hw3
      refine st_dip (B := but H p) (b := 4) rfl ev_c (by decide) (by decide) (R8.upd hBw3 hwp3) (by unfold LIM; omega) fun r6 H9 g0 g1 R9 e9 => ?_
      have hw9 : H9 w3 = some (.lst [.int 2, .int 10, .int 60, .int 80]) := kept e9 upd_same hwp3
      obtain ⟨gl, hgl, gl0, gl8⟩ : ∃ m : Int, atI [V.int 2, .int 10, .int 60, .int 80] r6 = some (.int m) ∧ 0 ≤ m ∧ m ≤ 200 := by
        have h4 : r6 = 0 ∨ r6 = 1 ∨ r6 = 2 ∨ r6 = 3 := by omega
        rcases h4 with rfl | rfl | rfl | rfl
        · exact ⟨2, rfl, by decide, by decide⟩
        · exact ⟨10, rfl, by decide, by decide⟩
        · exact ⟨60, rfl, by decide, by decide⟩
        · exact ⟨80, rfl, by decide, by decide⟩
      refine ⟨w3, _, r6, _, rfl, rfl, sq_of hw9, hgl, ?_⟩
      have e79 : Ex (but H7 p) (but H9 p) := e8.trans ((but_mono (Ex.new hw3)).trans e9)
      refine ⟨p, u, es, r5.toNat, n + 142, gl, by show [V.ref p, V.ref u, V.int r5, V.int gl] ++ [] = _; rw [show ((r5.toNat : Nat) : Int) = r5 by omega]; rfl, ex_t e79 hu7, by omega, by omega, by omega, by omega, R9.sk, by unfold LIM; omega, fun y bs Ha hbl hbk htop ea ska hbs => ?_⟩
      have Ra : Run p (n + 170) (but H p) Ha := ⟨R9.ex.trans ea, ska.mono (by omega)⟩
      have hb2 := (Bool.and_eq_true_iff.mp (show (bs.all (isBound es) && ascD (bs.map cut2)) = true from hbk)).1
      rw [List.all_eq_true] at hb2
      obtain ⟨bl, rfl⟩ : ∃ bl : List (Str × Str × Int), bs = bl.map bdD := form_map fun d hd => by
        obtain ⟨x, y, i, rfl⟩ := isBound_form (hb2 d hd)
        exact ⟨(x, y, i), rfl⟩
      rw [List.length_map] at hbl
      refine ⟨by show 4 ≤ sizeLine; decide, fun w4 hw4 => ?_⟩
      obtain ⟨hBw4, hwp4⟩ := Ra.fresh hw4
      refine st_dip (B := but H p) (b := 4) rfl ev_c (by decide) (by decide) (Ra.upd hBw4 hwp4) (by unfold LIM; omega) fun r7 Hb i0 i1 Rb eb => ?_
      have hwb : Hb w4 = some (.lst [.int 0, .int 4, .int 12, .int 40]) := kept eb upd_same hwp4
      obtain ⟨la, hla, la0⟩ : ∃ m : Int, atI [V.int 0, .int 4, .int 12, .int 40] r7 = some (.int m) ∧ 0 ≤ m := by
        have h4 : r7 = 0 ∨ r7 = 1 ∨ r7 = 2 ∨ r7 = 3 := by omega
        rcases h4 with rfl | rfl | rfl | rfl
        · exact ⟨0, rfl, by decide⟩
        · exact ⟨4, rfl, by decide⟩
        · exact ⟨12, rfl, by decide⟩
        · exact ⟨40, rfl, by decide⟩
      refine ⟨w4, _, r7, _, rfl, rfl, sq_of hwb, hla, ?_⟩
      refine ⟨.ref u, rfl, .ref y, rfl, x, rfl, by show 4 ≤ sizeLine; decide, fun t ht => ?_⟩
      obtain ⟨hBt, htp⟩ := Rb.fresh ht
      have Rt := Rb.upd (o := .tup [.int la, .ref u, .ref y, x]) hBt htp
      have eab : Ex (but Ha p) (but (upd Hb t (.tup [.int la, .ref u, .ref y, x])) p) := ((but_mono (Ex.new hw4)).trans eb).trans (but_mono (Ex.new ht))
      have e7b := (e79.trans ea).trans eab
      refine q (.ref t) ⟨la, es, bl, us2.map tkOf⟩ _ ?_ ⟨hnm, hasc, hbk, by show areTasks es (.tuple ((us2.map tkOf).map tkD)) = true; rw [← tkD_of]; exact ht2, la0, l1, l7, by show (us2.map tkOf).length ≤ 3; rw [List.length_map]; exact hl2, by show bl.length ≤ 60; omega⟩ (by show bl.length ≤ 4; omega) Rt.ex (Rt.sk.mono (by omega))
      refine .tup (st_of (by rw [but_ne htp, upd_same])) (.cons (.int _) (.cons (.tup (ex_t e7b hu7) (dpa_strs _)) (.cons (dp_ex eab hbs) (.cons ?_ .nil))))
      show Dp K _ x (.tuple ((us2.map tkOf).map tkD))
      rw [← tkD_of]
      exact dp_ex e7b hx7
    -- if jobs != () and ..
    have hts6 := dp_ex (but_ex H6 p) hts
    refine q_ifAnd (b := !decide (us = [])) (et_is (et_test (ev_opD (K := K) (ed_of (ev_var rfl) hts6) (ed_tup eds_nil (by decide)) (rd_neP ?_ rfl))) ?_) (fun hb H7 e7 => ?_) fun hb H7 e7 => key (.ref a) us H7 htk (by omega) (dp_ex (but_mono e7) hts) (ex_t (but_mono e7) hu6) ((R6.on e7).mono (by omega))
    · have h := okP_tks (us.map tkOf)
      rw [← tkD_of] at h
      exact h
    · have h := eqv_nilT (us.map jobD)
      show (!PyData.eqv (.tuple (us.map jobD)) (.tuple [])) = _
      rw [h]
      cases us <;> rfl
    have R7 := R6.on e7
    refine st_dip (B := but H p) (b := 4) rfl ev_c (by decide) (by decide) R7 (by unfold LIM; omega) fun r8 H8 f0 f1 R8 e8 => ?_
    have e68 : Ex (but H6 p) (but H8 p) := (but_mono e7).trans e8
    have hts8 := dp_ex e68 hts
    have hu8 := ex_t e68 hu6
    refine ⟨rfl, _, rfl, t_ifc (fun _ => ?_) fun _ => key (.ref a) us H8 htk (by omega) hts8 hu8 (R8.mono (by omega))⟩
    obtain ⟨j0, us', rfl⟩ : ∃ j0 us', us = j0 :: us' := by
      cases us with
      | nil => cases hb
      | cons j r => exact ⟨j, r, rfl⟩
    have hts8' := dp_ex (but_ex H8 p) hts8
    -- jobs[0][:2]
    refine (ed_slT (K := K) (lo := none) (hi := some 2) (ds := [.str j0.1, .str j0.2.1, .int j0.2.2.1, .int j0.2.2.2]) (ed_ixT 0 (ed_of (ev_var rfl) hts8') ev_c rfl rfl) eo_none (eo_some ev_c) (by show ¬ (0 = 0 ∧ 2 = 4); decide) : EvD K (tSl (rSlT K) (tOp (rIxT K) (tVar 3) (tC (.int 0))) tNoPart (tPart (tC (.int 2)))) _ H8 (prJ j0)) H8 (Ex.refl _) _ fun v1 H9 e9 hv1 => ?_
    have R9 := R8.on e9
    obtain ⟨ys9, hy9⟩ := lst_of R9.sk
    have hv9 := dp_but (by rfl : noL (prJ j0) = true) hv1 hy9
    refine st_dip (B := but H p) (b := 20) rfl ev_c (by decide) (by decide) R9 (by unfold LIM; omega) fun r9 Ha g0 g1 Ra ea => ?_
    refine ⟨1, r9, rfl, rfl, ?_⟩
    refine st_dip (B := but H p) (b := 20) rfl ev_c (by decide) (by decide) Ra (by unfold LIM; omega) fun ra Hb i0 i1 Rb eb => ?_
    refine ⟨20, ra, rfl, rfl, by show 2 ≤ sizeLine; decide, fun t2 ht2 => ?_⟩
    have Rc := Rb.on (Ex.new (o := .tup [.int (1 + r9), .int (20 + ra)]) ht2)
    have hvc : Dp K (upd Hb t2 (.tup [.int (1 + r9), .int (20 + ra)])) v1 (prJ j0) := dp_ex (Ex.new ht2) (dp_ex (but_ex Hb p) (dp_ex (ea.trans eb) hv9))
    have htc : Dp K (upd Hb t2 (.tup [.int (1 + r9), .int (20 + ra)])) (.ref t2) (.tuple [.int (1 + r9), .int (20 + ra)]) := .tup (st_of upd_same) (.cons (.int _) (.cons (.int _) .nil))
    have e8c : Ex (but H8 p) (but (upd Hb t2 (.tup [.int (1 + r9), .int (20 + ra)])) p) := (but_mono e9).trans ((ea.trans eb).trans (but_mono (Ex.new ht2)))
    generalize (upd Hb t2 (.tup [.int (1 + r9), .int (20 + ra)])) = Hc at Rc hvc htc e8c ⊢
    refine rd_catA hvc htc (by show 2 + 2 ≤ 100000; decide) fun v3 Hd ed hv3 => ?_
    refine ⟨by show 1 ≤ sizeLine; decide, fun t4 ht4 => ?_⟩
    have hd4 : Dp K (upd Hd t4 (.tup [v3])) (.ref t4) (.tuple [jobD (j0.1, j0.2.1, 1 + r9, 20 + ra)]) := .tup (st_of upd_same) (.cons (dp_ex (Ex.new ht4) hv3) .nil)
    have Re := (Rc.on ed).on (Ex.new (o := .tup [v3]) ht4)
    have e8e := e8c.trans (but_mono (ed.trans (Ex.new (o := .tup [v3]) ht4)))
    generalize (upd Hd t4 (.tup [v3])) = He at hd4 Re e8e ⊢
    have htse := dp_ex (but_ex He p) (dp_ex e8e hts8)
    refine (ed_slA (K := K) (lo := some 1) (hi := none) (ed_of (ev_var rfl) htse) (eo_some ev_c) eo_none) He (Ex.refl _) _ fun v5 Hf ef hv5 => ?_
    have hv5' : Dp K Hf v5 (.tuple (us'.map jobD)) := by
      have e : ((((j0 :: us').map jobD).drop (HT.sIx ((j0 :: us').map jobD).length 0 (some 1))).take (HT.sIx ((j0 :: us').map jobD).length ((j0 :: us').map jobD).length none - HT.sIx ((j0 :: us').map jobD).length 0 (some 1))) = us'.map jobD := by
        have i2 : HT.sIx ((j0 :: us').map jobD).length 0 (some 1) = 1 := by
          rw [show ((1 : Int)) = ((1 : Nat) : Int) by rfl, HT.sIx_nat, List.length_map, List.length_cons]; omega
        have i4 : HT.sIx ((j0 :: us').map jobD).length ((j0 :: us').map jobD).length none = ((j0 :: us').map jobD).length := rfl
        rw [i2, i4, List.map_cons, List.drop_succ_cons, List.drop_zero, List.length_cons, Nat.add_sub_cancel, List.take_length]
      rw [e] at hv5
      exact hv5
    refine rd_catA (dp_ex ef hd4) hv5' (by rw [List.length_singleton, List.length_map]; rw [List.length_cons] at htl; omega) fun v6 Hg eg hv6 => ?_
    have Rg := (Re.on ef).on eg
    obtain ⟨ysg, hyg⟩ := lst_of Rg.sk
    refine key v6 ((j0.1, j0.2.1, 1 + r9, 20 + ra) :: us') Hg (long_tasks J hus htk (by omega) (by omega) (by omega)) (by rw [List.length_cons] at htl ⊢; omega) (dp_but (noL_jobs ((j0.1, j0.2.1, 1 + r9, 20 + ra) :: us')) hv6 hyg) (ex_t (e8e.trans (but_mono (ef.trans eg))) hu8) (Rg.mono (by omega))
end
end Vf
end
section
set_option Elab.async false
set_option linter.all false
set_option maxRecDepth 100000
set_option maxHeartbeats 8000000
namespace Vf
open PySem PySem.Spec PyProof.Rows L2 Evl
mutual
/-- no dicts, no list too long -/
def twOk : PyData → Bool
  | .dict _ => false
  | .list xs => decide (xs.length ≤ 30000) && twAll xs
  | .tuple xs => decide (xs.length ≤ 30000) && twAll xs
  | _ => true
def twAll : List PyData → Bool
  | [] => true
  | x :: xs => twOk x && twAll xs
end
theorem twAll_mem : ∀ {xs : List PyData}, twAll xs = true → ∀ x ∈ xs, twOk x = true
  | [], _, x, h => by cases h
  | y :: r, h, x, hx => by
    have h' : (twOk y && twAll r) = true := h
    rw [Bool.and_eq_true] at h'
    cases hx with
    | head => exact h'.1
    | tail _ hx => exact twAll_mem h'.2 x hx
theorem twAll_of : ∀ {xs : List PyData}, (∀ x ∈ xs, twOk x = true) → twAll xs = true
  | [], _ => rfl
  | y :: r, h => by
    show (twOk y && twAll r) = true
    rw [h y List.mem_cons_self, twAll_of fun x hx => h x (List.mem_cons_of_mem _ hx)]
    rfl
theorem depth_mem : ∀ {xs : List PyData} {x : PyData}, x ∈ xs → x.depth ≤ PyData.depthAll xs
  | [], _, h => by cases h
  | y :: r, x, h => by
    rw [PyData.depthAll]
    cases h with
    | head => exact Nat.le_max_left _ _
    | tail _ h => exact Nat.le_trans (depth_mem h) (Nat.le_max_right _ _)
abbrev spTwin (K : PySem.W.Frag) (m : Nat) : Sp := fun vs H Q _ => ∃ v u a, vs = [v, u] ∧ Dp K H v a ∧ Dp K H u a ∧ twOk a = true ∧ a.depth < m ∧ RetV (.bl true) H Q
theorem spvT {K : PySem.W.Frag} {H : Hp} {v u : V} {a : PyData} {m : Nat} (h1 : Dp K H v a) (h2 : Dp K H u a) (h3 : twOk a = true) (h4 : a.depth < m) : SpV (spTwin K m) [v, u] H (.bl true) := fun H1 e Q q E => ⟨v, u, a, rfl, dp_ex e h1, dp_ex e h2, h3, h4, q⟩
/-- isinstance(x, (list, tuple)) -/
theorem kit_lt {K : PySem.W.Frag} {d : PyData} : PySem.W.kitAny K (.type (tyN d)) [.type "list", .type "tuple"] = some (isT "list" d || isT "tuple" d) := by
  have h1 := kit_ty (K := K) (kit_isT (n := "list") (d := d) okT_list)
  have h2 := kit_ty (K := K) (kit_isT (n := "tuple") (d := d) okT_tuple)
  refine kitAny_cons h1 (fun hb => ?_) (fun hb => by rw [hb]; rfl)
  rw [hb, Bool.false_or]
  refine kitAny_cons h2 (fun hb2 => ?_) (fun hb2 => hb2)
  rw [hb2]
  rfl
theorem ev_isi2 {K : PySem.W.Frag} {σ : L2.St} {H : Hp} {te : TE} {v : V} {d : PyData} (hv : Ev te σ H v) (h : Dp K H v d) : Ev (tCB (rIsiT K) (tCons te (tCons (tTup (tCons (tC (.ty "list")) (tCons (tC (.ty "tuple")) tNil))) tNil))) σ H (.bl (isT "list" d || isT "tuple" d)) := fun H1 e Q q =>
  hv H1 e _ fun H2 e2 => ⟨by show 2 ≤ sizeLine; decide, fun p hp => ⟨v, p, [.ty "list", .ty "tuple"], .type (tyN d), [.type "list", .type "tuple"], _, rfl, upd_same, .cons (.ty _) (.cons (.ty _) .nil), ty_dp (dp_ex ((e.trans e2).trans (Ex.new hp)) h), kit_lt, q _ (e2.trans (Ex.new hp))⟩⟩
theorem rv_neB {H : Hp} {a b : Bool} : RV rNe (.bl a) (.bl b) H (.bl (!decide (a = b))) := fun H1 _ Q q => ⟨rfl, by
  have e : decide (V.bl a = V.bl b) = decide (a = b) := by
    by_cases h : a = b
    · subst h; simp
    · rw [decide_eq_false h]; exact decide_eq_false fun z => h (V.bl.inj z)
  rw [e]
  exact q H1 (Ex.refl H1)⟩
theorem rv_eqB {H : Hp} {a b : Bool} : RV rEq (.bl a) (.bl b) H (.bl (decide (a = b))) := fun H1 _ Q q => ⟨rfl, by
  have e : decide (V.bl a = V.bl b) = decide (a = b) := by
    by_cases h : a = b
    · subst h; simp
    · rw [decide_eq_false h]; exact decide_eq_false fun z => h (V.bl.inj z)
  rw [e]
  exact q H1 (Ex.refl H1)⟩
/-- isinstance(x, T) != isinstance(y, T) of equal data -/
theorem ev_same {K : PySem.W.Frag} {σ : L2.St} {H : Hp} {ta tb : TE} {v u : V} {d : PyData} {n : String} (ok : okT n = true) (ha : Ev ta σ H v) (hb : Ev tb σ H u) (h1 : Dp K H v d) (h2 : Dp K H u d) : Ev (tOp rNe (tCB (rIsi K) (tCons ta (tCons (tC (.ty n)) tNil))) (tCB (rIsi K) (tCons tb (tCons (tC (.ty n)) tNil)))) σ H (.bl false) :=
  ev_is (ev_op (ev_isi ok ha h1) (ev_isi ok hb h2) rv_neB) (by simp)
theorem givenD_none (n : Nat) (w : Nat → PyData) : givenD n (fun _ => false) w = [] := by
  unfold givenD
  rw [List.filter_eq_nil_iff.mpr (fun _ _ => by decide)]
  rfl
section
variable {P : Program} {w : World} {K : PySem.W.Frag} {mg : Str → Option Value} {base : Heap} {tg : Tok} {f : Addr} {fd : FuncData}
abbrev s_law_twin : Stmt := topS 78
theorem sc_law_twin : FnScope ["found", "due", "k"] ["found", "due"] (defScope s_law_twin) := ⟨rfl, rfl, rfl, by decide +kernel, rfl, by decide +kernel, by decide +kernel⟩
theorem ok_law_twin (F : Fun K "_law_twin" "_law_twin" s_law_twin f fd) (T : Txt mg tg) (hg : mg "_law_twin" = some (.ref f)) (hb : Binds K fd ["found", "due"] []) : ∀ m, FnOk P w K mg base CX0 m f fd ["found", "due"] (spTwin K m)
  | 0 => ⟨fun vs H Q E h => by
      obtain ⟨_, _, _, _, _, _, _, h, _⟩ := h
      exact absurd h (Nat.not_lt_zero _), fun A outer s H args us vs Q E _ _ _ _ h => by
      obtain ⟨_, _, _, _, _, _, _, h, _⟩ := h
      exact absurd h (Nat.not_lt_zero _)⟩
  | m + 1 => by
    have C_law_twin : Cal P w K mg base m "_law_twin" ["found", "due"] (spTwin K m) := ⟨⟨f, fd, ok_law_twin F T hg hb m, hg, F.kp, hb⟩⟩
    refine F.ok sc_law_twin (fun vs H Q E h => ?_) (fun cdv A outer s H vs Q E hr h => ?_)
    · obtain ⟨v, u, a, rfl, _⟩ := h
      rfl
    · obtain ⟨v, u, a, rfl, hv, hu, hok, hdp, q⟩ := h
      refine ⟨_, (pss_cons (ps_if (PW.pt (pw_or (pt_val (pe_callB (call_isiK' (K := K) rfl) (by rfl) T.isinstance (by decide +kernel) (pa_cons (pv 0) (pa_cons (pe_bltn (v := .ty "bool") (u := .type "bool") (by rfl) T.bool (by decide +kernel) rfl) pa_nil)))) (pw_or1 (pt_val (pe_callB (call_isiK' (K := K) rfl) (by rfl) T.isinstance (by decide +kernel) (pa_cons (pv 1) (pa_cons (pe_bltn (v := .ty "bool") (u := .type "bool") (by rfl) T.bool (by decide +kernel) rfl) pa_nil))))))) (pss_one (ps_ret (pe_and (pe_callB (call_isiK' (K := K) rfl) (by rfl) T.isinstance (by decide +kernel) (pa_cons (pv 0) (pa_cons (pe_bltn (v := .ty "bool") (u := .type "bool") (by rfl) T.bool (by decide +kernel) rfl) pa_nil))) (pe_and (pe_callB (call_isiK' (K := K) rfl) (by rfl) T.isinstance (by decide +kernel) (pa_cons (pv 1) (pa_cons (pe_bltn (v := .ty "bool") (u := .type "bool") (by rfl) T.bool (by decide +kernel) rfl) pa_nil))) (pe_one (pe_cmpR op_eq (pv 0) (pv 1) (nomark _))))))) pss_nil) (pss_cons (ps_if (PW.pt (pw_or (pt_cmpR op_ne (pe_callB (call_isiK' (K := K) rfl) (by rfl) T.isinstance (by decide +kernel) (pa_cons (pv 0) (pa_cons (pe_bltn (v := .ty "list") (u := .type "list") (by rfl) T.list (by decide +kernel) rfl) pa_nil))) (pe_callB (call_isiK' (K := K) rfl) (by rfl) T.isinstance (by decide +kernel) (pa_cons (pv 1) (pa_cons (pe_bltn (v := .ty "list") (u := .type "list") (by rfl) T.list (by decide +kernel) rfl) pa_nil))) (nomark _)) (pw_or1 (pt_cmpR op_ne (pe_callB (call_isiK' (K := K) rfl) (by rfl) T.isinstance (by decide +kernel) (pa_cons (pv 0) (pa_cons (pe_bltn (v := .ty "tuple") (u := .type "tuple") (by rfl) T.tuple (by decide +kernel) rfl) pa_nil))) (pe_callB (call_isiK' (K := K) rfl) (by rfl) T.isinstance (by decide +kernel) (pa_cons (pv 1) (pa_cons (pe_bltn (v := .ty "tuple") (u := .type "tuple") (by rfl) T.tuple (by decide +kernel) rfl) pa_nil))) (nomark _))))) (pss_one (ps_ret pe_bl)) pss_nil) (pss_cons (ps_if (PW.pt (pw_or (pt_cmpR op_ne (pe_callB (call_isiK' (K := K) rfl) (by rfl) T.isinstance (by decide +kernel) (pa_cons (pv 0) (pa_cons (pe_bltn (v := .ty "str") (u := .type "str") (by rfl) T.str (by decide +kernel) rfl) pa_nil))) (pe_callB (call_isiK' (K := K) rfl) (by rfl) T.isinstance (by decide +kernel) (pa_cons (pv 1) (pa_cons (pe_bltn (v := .ty "str") (u := .type "str") (by rfl) T.str (by decide +kernel) rfl) pa_nil))) (nomark _)) (pw_or1 (pt_cmpR op_ne (pe_callB (call_isiK' (K := K) rfl) (by rfl) T.isinstance (by decide +kernel) (pa_cons (pv 0) (pa_cons (pe_bltn (v := .ty "int") (u := .type "int") (by rfl) T.int (by decide +kernel) rfl) pa_nil))) (pe_callB (call_isiK' (K := K) rfl) (by rfl) T.isinstance (by decide +kernel) (pa_cons (pv 1) (pa_cons (pe_bltn (v := .ty "int") (u := .type "int") (by rfl) T.int (by decide +kernel) rfl) pa_nil))) (nomark _))))) (pss_one (ps_ret pe_bl)) pss_nil) (pss_cons (ps_if (pt_val (pe_callB (call_isiTK (K := K) rfl) (by rfl) T.isinstance (by decide +kernel) (pa_cons (pv 1) (pa_cons (pe_tup (pa_cons (pe_bltn (v := .ty "list") (u := .type "list") (by rfl) T.list (by decide +kernel) rfl) (pa_cons (pe_bltn (v := .ty "tuple") (u := .type "tuple") (by rfl) T.tuple (by decide +kernel) rfl) pa_nil))) pa_nil)))) (pss_cons (ps_if (pt_cmpR op_ne (pe_callB (call_len_seqK (K := K) rfl) (by rfl) T.len (by decide +kernel) (pa_cons (pv 0) pa_nil)) (pe_callB (call_len_seqK (K := K) rfl) (by rfl) T.len (by decide +kernel) (pa_cons (pv 1) pa_nil)) (nomark _)) (pss_one (ps_ret pe_bl)) pss_nil) (pss_one (ps_ret (pe_cmpR (op_eqDK (K := K) rfl (hu64 hr)) (pe_lc (own := [("k", 2)]) rfl sc_law_twin.nd (pi_range1 rfl T.range (pa_cons (pe_callB (call_len_seqK (K := K) rfl) (by rfl) T.len (by decide +kernel) (pa_cons (pv 1) pa_nil)) pa_nil)) (blkOk_by (own := [("k", 2)]) (N := ["found", "due", "k"]) (sc := defScope s_law_twin) (by decide +kernel)) (fun _ _ _ _ _ => (pg_name (i := 2) sc_law_twin.nd rfl (Or.inl rfl))) (fun _ _ _ _ _ => (pts_one (pt_not (pt_val (pe_cal C_law_twin (by first | exact hr | exact hr.mono (by decide)) (by rfl) (pa_cons (pe_ix (ix_seqK (K := K) rfl) (pv 0) (pv 2) (fun _ _ => rfl)) (pa_cons (pe_ix (ix_seqK (K := K) rfl) (pv 1) (pv 2) (fun _ _ => rfl)) pa_nil))))))) (fun _ _ _ _ _ => (pv 2))) (pe_lst pa_nil) (nomark _))))) pss_nil) (pss_one (ps_ret (pe_and (pe_cmpR op_eq (pe_cmpR op_isN (pv 0) pe_non (nomark _)) (pe_cmpR op_isN (pv 1) pe_non (nomark _)) (nomark _)) (pe_one (pe_cmpR op_eq (pv 0) (pv 1) (nomark _)))))))))), ?_⟩
      by_cases hbo : isT "bool" a = true
      · obtain ⟨k, rfl⟩ : ∃ k, a = .bool k := by
          rw [isT_bool] at hbo
          cases a with
          | bool k => exact ⟨k, rfl⟩
          | _ => cases hbo
        cases hv
        cases hu
        refine q_when (b := true) (et_is (et_or (a := true) (b := true) (et_is (et_B (ev_isi (K := K) okT_bool (ev_var rfl) (.bl k))) (by rw [isT_bool])) fun h => (nomatch h)) rfl) (fun _ H1 e1 => ?_) (fun h => nomatch h)
        have hi : ∀ {i : Nat} {H2 : Hp}, [some (V.bl k), some (V.bl k), none][i]? = some (some (V.bl k)) → Ev (tCB (rIsi K) (tCons (tVar i) (tCons (tC (.ty "bool")) tNil))) [some (.bl k), some (.bl k), none] H2 (.bl true) := fun hv => ev_is (ev_isi (K := K) okT_bool (ev_var hv) (.bl k)) (by rw [isT_bool])
        exact s_ret (ev_is (ev_andV (a := true) (b := true) (hi rfl) fun _ => ev_is (ev_andV (a := true) (b := true) (hi rfl) fun _ => ev_is (ev_op (ev_var rfl) (ev_var rfl) rv_eqB) (by simp)) rfl) rfl) fun H2 e2 => q H2 (e1.trans e2)
      have nb : isT "bool" a = false := by simpa using hbo
      refine q_when (b := false) (et_is (et_or (et_B (ev_isi okT_bool (ev_var rfl) hv)) fun _ => et_B (ev_isi okT_bool (ev_var rfl) hu)) (by rw [nb]; rfl)) (fun h => nomatch h) fun _ H1 e1 => ?_
      have hv1 := dp_ex e1 hv
      have hu1 := dp_ex e1 hu
      refine q_when (b := false) (et_is (et_or (et_test (ev_same okT_list (ev_var rfl) (ev_var rfl) hv1 hu1)) fun _ => et_test (ev_same okT_tuple (ev_var rfl) (ev_var rfl) hv1 hu1)) rfl) (fun h => nomatch h) fun _ H2 e2 => ?_
      have hv2 := dp_ex e2 hv1
      have hu2 := dp_ex e2 hu1
      refine q_when (b := false) (et_is (et_or (et_test (ev_same okT_str (ev_var rfl) (ev_var rfl) hv2 hu2)) fun _ => et_test (ev_same okT_int (ev_var rfl) (ev_var rfl) hv2 hu2)) rfl) (fun h => nomatch h) fun _ H3 e3 => ?_
      have hv3 := dp_ex e3 hv2
      have hu3 := dp_ex e3 hu2
      have e03 := (e1.trans e2).trans e3
      have hseq : ∀ (b : Bool) (xs : List PyData), a = seqD b xs → xs.length ≤ 30000 → (∀ x ∈ xs, twOk x = true ∧ x.depth < m) → ∀ H4, Ex H3 H4 → tSeq (tIfS (tTest (tOp rNe (tCB (rLenS K) (tCons (tVar 0) tNil)) (tCB (rLenS K) (tCons (tVar 1) tNil)))) (tRet (tC (.bl false))) tNext)
          (tRet (tOp (rEqD K) (tLc (iRng1 (tCons (tCB (rLenS K) (tCons (tVar 1) tNil)) tNil)) (gName 2) (tNot (tB (tCall (spTwin K m) [] E0 (tCons (tOp (rIx K) (tVar 0) (tVar 2)) (tCons (tOp (rIx K) (tVar 1) (tVar 2)) tNil))))) (tVar 2) [2]) (tLst tNil))) { nx := fun x H' => Q V.non H', rt := Q } [some v, some u, none] H4 := by
        intro b xs ea hz hall H4 e4
        subst ea
        have hv4 := dp_ex e4 hv3
        have hu4 := dp_ex e4 hu3
        refine q_when (b := false) (et_is (et_test (ev_opD (K := K) (ed_of (ev_lenSeq (ed_of (ev_var rfl) hv4)) (.int _)) (ed_of (ev_lenSeq (ed_of (ev_var rfl) hu4)) (.int _)) rd_neI)) (by simp)) (fun h => nomatch h) fun _ H5 e5 => ?_
        have hv5 := dp_ex e5 hv4
        have hu5 := dp_ex e5 hu4
        have key : EvD K (tLc (iRng1 (tCons (tCB (rLenS K) (tCons (tVar 1) tNil)) tNil)) (gName 2) (tNot (tB (tCall (spTwin K m) [] E0 (tCons (tOp (rIx K) (tVar 0) (tVar 2)) (tCons (tOp (rIx K) (tVar 1) (tVar 2)) tNil))))) (tVar 2) [2]) [some v, some u, none] H5 (.list []) := by
          have hn := givenD_none xs.length fun i => .int (i : Int)
          rw [← hn]
          refine ed_n (en_lcR xs.length (fun _ => false) _ (ea_cons (ev_lenSeq (ed_of (ev_var rfl) hu5)) ea_nil) (by omega) (by omega) (fun _ _ => rfl) fun i H6 e6 hi => ?_)
          refine ⟨_, ?_, goes_name, ?_, fun h => nomatch h⟩
          · rfl
          · have g1 : xs[i]? = some (xs.getD i .none) := by simp [List.getD, hi]
            obtain ⟨o1, o2⟩ := hall _ (List.mem_of_getElem? g1)
            refine et_is (et_not (a := true) (et_B (ev_callD (K := K) (eds_cons (ed_ixS i (ed_of (ev_var rfl) (dp_ex e6 hv5)) (ev_var rfl) rfl g1) (eds_cons (ed_ixS i (ed_of (ev_var rfl) (dp_ex e6 hu5)) (ev_var rfl) rfl g1) eds_nil)) fun H7 vs e7 hvs => ?_))) rfl
            cases hvs with
            | cons q1 hvs => cases hvs with
              | cons q2 hvs =>
                cases hvs
                exact spvT q1 q2 o1 o2
        refine s_ret (ev_is (ev_opD key (ed_n (en_lst eds_nil (by decide))) (rd_eqD rfl rfl)) rfl) fun H6 e6 => q H6 (((e03.trans e4).trans e5).trans e6)
      cases a with
      | bool k => exact absurd (by rw [isT_bool]) hbo
      | dict _ => cases hok
      | list xs =>
        have hok' : (decide (xs.length ≤ 30000) && twAll xs) = true := hok
        rw [Bool.and_eq_true, decide_eq_true_eq] at hok'
        refine q_when (b := true) (et_is (et_B (ev_isi2 (ev_var rfl) hu3)) (by rw [isT_list]; rfl)) (fun _ H4 e4 => hseq true xs rfl hok'.1 (fun x hx => ⟨twAll_mem hok'.2 x hx, ?_⟩) H4 e4) fun h => nomatch h
        have h1 := depth_mem hx
        rw [PyData.depth] at hdp
        omega
      | tuple xs =>
        have hok' : (decide (xs.length ≤ 30000) && twAll xs) = true := hok
        rw [Bool.and_eq_true, decide_eq_true_eq] at hok'
        refine q_when (b := true) (et_is (et_B (ev_isi2 (ev_var rfl) hu3)) (by rw [isT_tuple, Bool.or_true])) (fun _ H4 e4 => hseq false xs rfl hok'.1 (fun x hx => ⟨twAll_mem hok'.2 x hx, ?_⟩) H4 e4) fun h => nomatch h
        have h1 := depth_mem hx
        rw [PyData.depth] at hdp
        omega
      | none =>
        cases hv3
        cases hu3
        refine q_when (b := false) (et_is (et_B (ev_isi2 (K := K) (ev_var rfl) .non)) (by rw [isT_list, isT_tuple]; rfl)) (fun h => nomatch h) fun _ H4 e4 => ?_
        refine s_ret (ev_is (ev_andV (a := true) (b := true) (ev_is (ev_op (ev_op (ev_var rfl) ev_c fun H5 _ Q5 q5 => ⟨rfl, q5 H5 (Ex.refl H5)⟩) (ev_op (ev_var rfl) ev_c fun H5 _ Q5 q5 => ⟨rfl, q5 H5 (Ex.refl H5)⟩) rv_eqB) (by simp)) fun _ => ev_is (ev_op (ev_var rfl) (ev_var rfl) (rv_eq rfl)) (by simp)) rfl) fun H5 e5 => q H5 ((e03.trans e4).trans e5)
      | int i =>
        cases hv3
        cases hu3
        refine q_when (b := false) (et_is (et_B (ev_isi2 (K := K) (ev_var rfl) (.int i))) (by rw [isT_list, isT_tuple]; rfl)) (fun h => nomatch h) fun _ H4 e4 => ?_
        refine s_ret (ev_is (ev_andV (a := true) (b := true) (ev_is (ev_op (ev_op (ev_var rfl) ev_c fun H5 _ Q5 q5 => ⟨rfl, q5 H5 (Ex.refl H5)⟩) (ev_op (ev_var rfl) ev_c fun H5 _ Q5 q5 => ⟨rfl, q5 H5 (Ex.refl H5)⟩) rv_eqB) (by simp)) fun _ => ev_is (ev_op (ev_var rfl) (ev_var rfl) (rv_eq rfl)) (by simp)) rfl) fun H5 e5 => q H5 ((e03.trans e4).trans e5)
      | str i =>
        cases hv3
        cases hu3
        refine q_when (b := false) (et_is (et_B (ev_isi2 (K := K) (ev_var rfl) (.str i))) (by rw [isT_list, isT_tuple]; rfl)) (fun h => nomatch h) fun _ H4 e4 => ?_
        refine s_ret (ev_is (ev_andV (a := true) (b := true) (ev_is (ev_op (ev_op (ev_var rfl) ev_c fun H5 _ Q5 q5 => ⟨rfl, q5 H5 (Ex.refl H5)⟩) (ev_op (ev_var rfl) ev_c fun H5 _ Q5 q5 => ⟨rfl, q5 H5 (Ex.refl H5)⟩) rv_eqB) (by simp)) fun _ => ev_is (ev_op (ev_var rfl) (ev_var rfl) (rv_eq rfl)) (by simp)) rfl) fun H5 e5 => q H5 ((e03.trans e4).trans e5)
end
end Vf
end
section
set_option Elab.async false
set_option linter.all false
set_option maxRecDepth 100000
set_option maxHeartbeats 8000000
namespace Vf
open PySem PySem.Spec PyProof.Rows L2 Evl
/-! ### walks of designs -/
structure DsO (P : Program) (w : World) (K : PySem.W.Frag) (mg : Str → Option Value) (base : Heap) (C : Addr) : Prop where
  B : DsB P w K mg base 7 C
  pr : ∃ p g fd, PropOf K C "plan" p g ∧ FnOk P w K mg base CX0 1 g fd ["self"] (spGetP K) ∧ Binds K fd ["self"] []
  ad : ∃ g fd, Op2 K C g "add" ∧ FnOk P w K mg base CX0 9 g fd ["self", "other"] (spAddD K C) ∧ Binds K fd ["self", "other"] []
  su : ∃ g fd, Op2 K C g "sub" ∧ FnOk P w K mg base CX0 9 g fd ["self", "other"] (spSubD K C) ∧ Binds K fd ["self", "other"] []
  an : ∃ g fd, Op2 K C g "and" ∧ FnOk P w K mg base CX0 9 g fd ["self", "other"] (spAndD K C) ∧ Binds K fd ["self", "other"] []
theorem DsgAt.but {K : PySem.W.Frag} {H : Hp} {C x p : Addr} {q : PlanL} {ys : List V} (h : DsgAt K H C x q) (hp : H p = some (.lst ys)) : DsgAt K (but H p) C x q := by
  obtain ⟨dx, fs, v, h1, h2, h3⟩ := h
  refine ⟨dx, fs, v, ?_, h2, dp_but (noL_plT q) h3 hp⟩
  rw [but_ne fun e => by rw [e, hp] at h1; cases h1]
  exact h1
theorem joinB_self {es : List Str} {bs : List Bd} (h : Bds es bs) : joinB es bs bs = bs := by
  have key : ∀ fs : List Bd, (∀ r ∈ fs, r ∈ bs) → fs.foldl withM (mapB bs) = mapB bs := by
    intro fs
    induction fs with
    | nil => exact fun _ => rfl
    | cons r fs ih =>
      intro hf
      rw [List.foldl_cons]
      have e : withM (mapB bs) r = mapB bs := funext fun x => funext fun y => by
        unfold withM
        split
        · rename_i hxy
          obtain ⟨rfl, rfl⟩ := hxy
          have hm : mapB bs r.1 r.2.1 = some r.2.2 := h.map.mp (hf r List.mem_cons_self)
          rw [hm]
          show some (if r.2.2 < r.2.2 then r.2.2 else r.2.2) = some r.2.2
          rw [if_neg (Int.lt_irrefl _)]
        · rfl
      rw [e]
      exact ih fun a ha => hf a (List.mem_cons_of_mem _ ha)
  show canon es (bs.foldl withM (mapB bs)) = bs
  rw [key bs fun r h => h]
  exact canon_self h
theorem joinD_self {q : PlanL} (g : DsP q) : joinD q q = q := by
  unfold joinD
  rw [joinB_self g.hb, if_neg (Int.lt_irrefl _)]
section
variable {K : PySem.W.Frag} {H : Hp} {C x y : Addr} {v : V} {q r : PlanL} {b : Bd} {E : XK} {Q : VK}
theorem r_sub (hx : DsgAt K H C x q) (g : DsP q) (hv : Dp K H v (prD b)) (hm : b ∈ q.bs) (k : ∀ z H2, H z = none → Ex H H2 → DsgAt K H2 C z (withoutD q b.1 b.2.1) → Q (.ref z) H2) : rOpT K C (spSubD K C) E (.ref x) v H Q := by
  obtain ⟨dx, fs, u, h1, _, _⟩ := id hx
  have hv' := hv
  cases hv with
  | tup hs ha => exact ⟨x, dx, fs, _, _, rfl, rfl, h1, hs, x, _, q, b, rfl, hx, g, hv', hm, fun z H2 hz e hd => ⟨⟨z, rfl⟩, k z H2 hz e hd⟩⟩
theorem r_add (hx : DsgAt K H C x q) (g : DsP q) (hv : Dp K H v (bdD b)) (hb : isBound q.evs (bdD b) = true) (hn : q.bs.length ≤ 50) (k : ∀ z H2, H z = none → Ex H H2 → DsgAt K H2 C z (withD q b) → Q (.ref z) H2) : rOpT K C (spAddD K C) E (.ref x) v H Q := by
  obtain ⟨dx, fs, u, h1, _, _⟩ := id hx
  have hv' := hv
  cases hv with
  | tup hs ha => exact ⟨x, dx, fs, _, _, rfl, rfl, h1, hs, x, _, q, b, rfl, hx, g, hv', hb, hn, fun z H2 hz e hd => ⟨⟨z, rfl⟩, k z H2 hz e hd⟩⟩
theorem r_and (hx : DsgAt K H C x q) (hy : DsgAt K H C y r) (g : DsP q) (g2 : DsP r) (he : r.evs = q.evs) (ht : r.ts = q.ts) (hn : q.bs.length + r.bs.length ≤ 50) (k : ∀ z H2, H z = none → Ex H H2 → DsgAt K H2 C z (joinD q r) → Q (.ref z) H2) : rOpO C (spAndD K C) E (.ref x) (.ref y) H Q := by
  obtain ⟨dx, fs, u, h1, _, _⟩ := id hx
  obtain ⟨dy, gs, u', h2, _, _⟩ := id hy
  exact ⟨x, dx, fs, y, dy, gs, rfl, rfl, h1, h2, x, y, q, r, rfl, hx, hy, g, g2, he, ht, hn, fun z H2 hz e hd => ⟨⟨z, rfl⟩, k z H2 hz e hd⟩⟩
end
section
variable {K : PySem.W.Frag} {σ : L2.St} {H : Hp} {te ti ta tb tu : TE} {E : XK} {C x : Addr} {q : PlanL}
theorem dpa_atI {vs : List V} {ds : List PyData} {i : Int} {d : PyData} (h : DpAll K H vs ds) (hd : atI ds i = some d) : ∃ v, atI vs i = some v ∧ Dp K H v d := by
  unfold atI at hd ⊢
  rw [dpa_len h]
  obtain ⟨j, hj, hd⟩ := Option.bind_eq_some_iff.mp hd
  obtain ⟨v, h1, h2⟩ := dpa_at h hd
  exact ⟨v, by rw [hj]; exact h1, h2⟩
theorem ed_ixI {ds : List PyData} {i : Int} {d : PyData} (h : EvD K te σ H (.tuple ds)) (hi : Ev ti σ H (.int i)) (hd : atI ds i = some d) : EvD K (tOp (rIxT K) te ti) σ H d := fun H1 e Q k => h H1 e _ fun v H2 e2 hv => hi H2 (e.trans e2) _ fun H3 e3 => by
  have hv3 := dp_ex e3 hv
  cases hv3 with
  | tup hs ha =>
    obtain ⟨w, h1, h2⟩ := dpa_atI ha hd
    exact ⟨_, _, i, w, rfl, rfl, hs, h1, k w H3 (e2.trans e3) h2⟩
/-- o.plan -/
theorem ed_prop (F : DsF K C) (hv : Ev te σ H (.ref x)) (h : DsgAt K H C x q) : EvD K (tProp C (spGetP K) [] E te) σ H (plT q) := fun H1 e Q k => hv H1 e _ fun H2 e2 => by
  have hx := h.ex (e.trans e2)
  obtain ⟨dx, fs, v, h1, h2, h3⟩ := id hx
  exact ⟨x, dx, fs, rfl, h1, x, q, C, rfl, F, hx, fun w H3 e3 hw => k w H3 (e2.trans e3) hw⟩
theorem ed_withL {b : Bd} (ha : EvD K ta σ H (plT q)) (hb : EvD K tb σ H (bdD b)) (g : DsP q) (hi : isBound q.evs (bdD b) = true) (hn : q.bs.length ≤ 50) : EvD K (tCall (spWithL K) [] E (tCons ta (tCons tb tNil))) σ H (plT (withD q b)) := fun H1 e Q k =>
  ha H1 e _ fun v H2 e2 hv => hb H2 (e.trans e2) _ fun u H3 e3 hu => ⟨v, u, q, b, rfl, dp_ex e3 hv, hu, g, hi, hn, fun w H4 e4 hw => k w H4 ((e2.trans e3).trans e4) hw⟩
theorem ev_twinD {m : Nat} {a : PyData} (h1 : EvD K te σ H a) (h2 : EvD K tu σ H a) (h3 : twOk a = true) (h4 : a.depth < m) : Ev (tCall (spTwin K m) [] E (tCons te (tCons tu tNil))) σ H (.bl true) :=
  ev_callD (eds_cons h1 (eds_cons h2 eds_nil)) fun H1 vs e1 hvs => by
    cases hvs with
    | cons q1 hvs => cases hvs with
      | cons q2 hvs =>
        cases hvs
        exact spvT q1 q2 h3 h4
end
theorem q_ifI {σ : L2.St} {H : Hp} {c : TT} {t : TS} {tz : TS} {D : Ends} {b : Bool} (F : L2.St → Hp → Prop) (hc : EvT c σ H b) (h1 : b = true → ∀ H1, Ex H H1 → ∀ N : L2.St → Hp → Prop, (∀ σ' H', F σ' H' → N σ' H') → t { D with nx := N } σ H1) (h2 : b = false → ∀ H1, Ex H H1 → F σ H1) (k : ∀ σ' H', F σ' H' → tz D σ' H') : tSeq (tIfS c t tNext) tz D σ H := hc H (Ex.refl H) _ fun H1 e1 => by
  cases b with
  | true => exact h1 rfl H1 e1 (tz D) k
  | false => exact k σ H1 (h2 rfl H1 e1)
theorem row_tw {α : Type} {f : α → PyData} (h : ∀ a, twOk (f a) = true ∧ (f a).depth ≤ 1) (l : List α) : twAll (l.map f) = true ∧ PyData.depthAll (l.map f) ≤ 1 := by
  induction l with
  | nil => exact ⟨rfl, Nat.zero_le _⟩
  | cons a l ih =>
    refine ⟨?_, ?_⟩
    · rw [List.map_cons]
      show (twOk (f a) && twAll (l.map f)) = true
      rw [(h a).1, ih.1]
      rfl
    · rw [List.map_cons, PyData.depthAll]
      exact Nat.max_le.mpr ⟨(h a).2, ih.2⟩
theorem pl_tw {q : PlanL} (g : DsP q) : twOk (plT q) = true ∧ (plT q).depth < 4 := by
  have h1 := row_tw (f := PyData.str) (fun a => ⟨rfl, Nat.zero_le _⟩) q.evs
  have h2 := row_tw (f := bdD) (fun a => ⟨by simp [bdD, twOk, twAll], by simp [bdD, PyData.depth, PyData.depthAll]⟩) q.bs
  have h3 := row_tw (f := tkD) (fun a => ⟨by simp [tkD, twOk, twAll], by simp [tkD, PyData.depth, PyData.depthAll]⟩) q.ts
  have l1 := g.n7
  have l2 := g.nb
  have l3 := g.n3
  constructor
  · show twOk (.tuple [.int q.lat, .tuple (q.evs.map .str), .tuple (q.bs.map bdD), .tuple (q.ts.map tkD)]) = true
    simp [twOk, twAll, h1.1, h2.1, h3.1]
    omega
  · show (PyData.tuple [.int q.lat, .tuple (q.evs.map .str), .tuple (q.bs.map bdD), .tuple (q.ts.map tkD)]).depth < 4
    simp only [PyData.depth, PyData.depthAll]
    omega
theorem okP_bds (bs : List Bd) : okP (.tuple (bs.map bdD)) = true := (okP_prs bs).2
/-- what a plan and its design are to a walk -/
structure Pd (K : PySem.W.Frag) (H : Hp) (C x : Addr) (v : V) (q : PlanL) : Prop where
  d : DsgAt K H C x q
  p : Dp K H v (plT q)
  g : DsP q
  n : q.bs.length ≤ 9
theorem Pd.ex {K : PySem.W.Frag} {H H' : Hp} {C x : Addr} {v : V} {q : PlanL} (e : Ex H H') (h : Pd K H C x v q) : Pd K H' C x v q := ⟨h.d.ex e, dp_ex e h.p, h.g, h.n⟩
abbrev spWalkD (K : PySem.W.Frag) (C : Addr) : Sp := fun vs H Q _ => ∃ (p x y : Addr) (v u : V) (q r : PlanL) (n : Nat), vs = [.ref p, .ref x, v, .ref y, u] ∧ Pd K (but H p) C x v q ∧ Pd K (but H p) C y u r ∧ r.evs = q.evs ∧ r.ts = q.ts ∧ SackAt H p n ∧ n + 200 < LIM ∧
  ∀ t z w q' H', SqT K (but H' p) t [.ref z, w] → Pd K (but H' p) C z w q' → q'.evs = q.evs → q'.ts = q.ts → Ex (but H p) (but H' p) → SackAt H' p (n + 20) → Q (.ref t) H'
abbrev spInPl (K : PySem.W.Frag) (C : Addr) : Sp := fun vs H Q _ => ∃ (x y : Addr) (v u : V) (q r : PlanL), vs = [.ref x, v, .ref y, u] ∧ Pd K H C x v q ∧ Pd K H C y u r ∧ r.evs = q.evs ∧ r.ts = q.ts ∧ RetV (.bl true) H Q
section
variable {P : Program} {w : World} {K : PySem.W.Frag} {mg : Str → Option Value} {base : Heap} {tg : Tok} {f : Addr} {fd : FuncData} {C : Addr}
abbrev s_law_walked : Stmt := topS 87
theorem sc_law_walked : FnScope ["sack", "made", "plan_here", "mate", "mate_plan", "way", "pair", "limit_here"] ["sack", "made", "plan_here", "mate", "mate_plan"] (defScope s_law_walked) := ⟨rfl, rfl, rfl, by decide +kernel, rfl, by decide +kernel, by decide +kernel⟩
theorem ok_law_walked (F : Fun K "_law_walked" "_law_walked" s_law_walked f fd) (T : Txt mg tg) (O : DsO P w K mg base C) (C_law_dip : Cal P w K mg base 1 "_law_dip" ["sack", "below"] spDip) (C_law_without : Cal P w K mg base 1 "_law_without" ["plan_here", "pair"] (spWithoutL K)) (C_law_joined : Cal P w K mg base 2 "_law_joined" ["plan_here", "mate"] (spJoinL K)) (C_law_limit : Cal P w K mg base 2 "_law_limit" ["sack", "points"] (spLimitL K)) (C_law_with : Cal P w K mg base 1 "_law_with" ["plan_here", "limit_here"] (spWithL K)) : FnOk P w K mg base CX0 10 f fd ["sack", "made", "plan_here", "mate", "mate_plan"] (spWalkD K C) := by
  obtain ⟨gS, fS, DS, FS, BS⟩ := O.su
  obtain ⟨gA, fA, DA, FA, BA⟩ := O.an
  obtain ⟨gP, fP, DP, FP, BP⟩ := O.ad
  refine F.ok sc_law_walked (fun vs H Q E h => ?_) (fun cdv A outer s H vs Q E hr h => ?_)
  · obtain ⟨p, x, y, v, u, q, r, n, rfl, _⟩ := h
    rfl
  · obtain ⟨p, x, y, v, u, pl, r, n, rfl, hx, hy, he, ht, hsk, hn, q⟩ := h
    refine ⟨_, (pss_cons (ps_set (i := 5) sc_law_walked.nd rfl (Or.inl rfl) (pe_cal C_law_dip (by first | exact hr | exact hr.mono (by decide)) (by rfl) (pa_cons (pv 0) (pa_cons pe_int pa_nil)))) (pss_cons (ps_if (PW.pt (pw_and (pt_cmpR op_eq (pv 5) pe_int (nomark _)) (pw_and1 (pt_cmpR (op_nePK (K := K) rfl (hu64 hr)) (pe_ix (ix_tupK (K := K) rfl) (pv 2) pe_int (fun _ _ => rfl)) (pe_tup pa_nil) (nomark _))))) (pss_cons (ps_set (i := 6) sc_law_walked.nd rfl (Or.inl rfl) (pe_slice (sl_tupK (K := K) rfl) (pe_ix (ix_tupK (K := K) rfl) (pe_ix (ix_tupK (K := K) rfl) (pv 2) pe_int (fun _ _ => rfl)) (pe_cal C_law_dip (by first | exact hr | exact hr.mono (by decide)) (by rfl) (pa_cons (pv 0) (pa_cons (pe_callB (call_len_seqK (K := K) rfl) (by rfl) T.len (by decide +kernel) (pa_cons (pe_ix (ix_tupK (K := K) rfl) (pv 2) pe_int (fun _ _ => rfl)) pa_nil)) pa_nil))) (fun _ _ => rfl)) po_none (po_some pe_int))) (pss_one (ps_ret (pe_tup (pa_cons (pe_op (op_ownT (op := .Sub) DS FS (by first | exact hr | exact hr.mono (by decide)) BS pass0) (pv 1) (pv 6)) (pa_cons (pe_cal C_law_without (by first | exact hr | exact hr.mono (by decide)) (by rfl) (pa_cons (pv 2) (pa_cons (pv 6) pa_nil))) pa_nil)))))) pss_nil) (pss_cons (ps_if (PW.pt (pw_and (pt_cmpR op_eq (pv 5) pe_int (nomark _)) (pw_and1 (pt_cmpR op_lt (pe_op op_add (pe_callB (call_len_seqK (K := K) rfl) (by rfl) T.len (by decide +kernel) (pa_cons (pe_ix (ix_tupK (K := K) rfl) (pv 2) pe_int (fun _ _ => rfl)) pa_nil)) (pe_callB (call_len_seqK (K := K) rfl) (by rfl) T.len (by decide +kernel) (pa_cons (pe_ix (ix_tupK (K := K) rfl) (pv 4) pe_int (fun _ _ => rfl)) pa_nil))) pe_int (nomark _))))) (pss_one (ps_ret (pe_tup (pa_cons (pe_op (op_ownO (op := .BitAnd) DA FA (by first | exact hr | exact hr.mono (by decide)) BA pass0) (pv 1) (pv 3)) (pa_cons (pe_cal C_law_joined (by first | exact hr | exact hr.mono (by decide)) (by rfl) (pa_cons (pv 2) (pa_cons (pv 4) pa_nil))) pa_nil))))) pss_nil) (pss_cons (ps_if (pt_cmpR op_gt (pe_callB (call_len_seqK (K := K) rfl) (by rfl) T.len (by decide +kernel) (pa_cons (pe_ix (ix_tupK (K := K) rfl) (pv 2) pe_int (fun _ _ => rfl)) pa_nil)) pe_int (nomark _)) (pss_one (ps_ret (pe_tup (pa_cons (pe_op (op_ownO (op := .BitAnd) DA FA (by first | exact hr | exact hr.mono (by decide)) BA pass0) (pv 1) (pv 1)) (pa_cons (pv 2) pa_nil))))) pss_nil) (pss_cons (ps_set (i := 7) sc_law_walked.nd rfl (Or.inl rfl) (pe_cal C_law_limit (by first | exact hr | exact hr.mono (by decide)) (by rfl) (pa_cons (pv 0) (pa_cons (pe_ix (ix_tupK (K := K) rfl) (pv 2) pe_int (fun _ _ => rfl)) pa_nil)))) (pss_cons (ps_if (PW.pt (pw_and (pt_cmpR op_eq (pv 5) pe_int (nomark _)) (pw_and1 (pt_cmpR (op_nePK (K := K) rfl (hu64 hr)) (pe_ix (ix_tupK (K := K) rfl) (pv 2) pe_int (fun _ _ => rfl)) (pe_tup pa_nil) (nomark _))))) (pss_cons (ps_set (i := 6) sc_law_walked.nd rfl (Or.inl rfl) (pe_ix (ix_tupK (K := K) rfl) (pe_ix (ix_tupK (K := K) rfl) (pv 2) pe_int (fun _ _ => rfl)) (pe_cal C_law_dip (by first | exact hr | exact hr.mono (by decide)) (by rfl) (pa_cons (pv 0) (pa_cons (pe_callB (call_len_seqK (K := K) rfl) (by rfl) T.len (by decide +kernel) (pa_cons (pe_ix (ix_tupK (K := K) rfl) (pv 2) pe_int (fun _ _ => rfl)) pa_nil)) pa_nil))) (fun _ _ => rfl))) (pss_one (ps_set (i := 7) sc_law_walked.nd rfl (Or.inl rfl) (pe_op (op_catAK (K := K) rfl) (pe_slice (sl_tupK (K := K) rfl) (pv 6) po_none (po_some pe_int)) (pe_tup (pa_cons (pe_op op_sub (pe_op op_add (pe_ix (ix_tupK (K := K) rfl) (pv 6) pe_int (fun _ _ => rfl)) (pe_cal C_law_dip (by first | exact hr | exact hr.mono (by decide)) (by rfl) (pa_cons (pv 0) (pa_cons pe_int pa_nil)))) pe_int) pa_nil)))))) pss_nil) (pss_one (ps_ret (pe_tup (pa_cons (pe_op (op_ownT (op := .Add) DP FP (by first | exact hr | exact hr.mono (by decide)) BP pass0) (pv 1) (pv 7)) (pa_cons (pe_cal C_law_with (by first | exact hr | exact hr.mono (by decide)) (by rfl) (pa_cons (pv 2) (pa_cons (pv 7) pa_nil))) pa_nil))))))))))), ?_⟩
    have hn' : n + 200 < 100000 := hn
    have R0 : Run p n (but H p) H := ⟨Ex.refl _, hsk⟩
    have lst_of : ∀ {m : Nat} {H' : Hp}, SackAt H' p m → ∃ ys, H' p = some (.lst ys) := fun h => by
      obtain ⟨_, _, _, h, _⟩ := h
      exact ⟨_, h⟩
    have g := hx.g
    have g2 := hy.g
    have n9 := hx.n
    have m9 := hy.n
    obtain ⟨a, w1, w2, w3, rfl, hs, d1, d2, d3⟩ := plan_at4 hx.p
    obtain ⟨c, xs, rfl, hc, hxs⟩ : ∃ c xs, w2 = .ref c ∧ SqT K (but H p) c xs ∧ DpAll K (but H p) xs (pl.bs.map bdD) := by
      cases d2 with
      | tup hs' ha => exact ⟨_, _, rfl, hs', ha⟩
    have hxl : xs.length = pl.bs.length := by rw [dpa_len hxs, List.length_map]
    -- the end: a tuple of a design and its plan
    have fin : ∀ (z : Addr) (w : V) (q' : PlanL) (m : Nat) (H8 : Hp), Run p m (but H p) H8 → m ≤ n + 20 → DsgAt K H8 C z q' → Dp K H8 w (plT q') → DsP q' → q'.bs.length ≤ 9 → q'.evs = pl.evs → q'.ts = pl.ts → ∀ t, H8 t = none → Q (.ref t) (upd H8 t (.tup [.ref z, w])) := fun z w q' m H8 R8 hm hd hw g' n' ev ts t ht8 => by
      obtain ⟨ys, hy8⟩ := lst_of R8.sk
      obtain ⟨hBt, htp⟩ := R8.fresh ht8
      have Rt := R8.upd (o := .tup [.ref z, w]) hBt htp
      have e8 : Ex (but H8 p) (but (upd H8 t (.tup [.ref z, w])) p) := but_mono (Ex.new ht8)
      exact q t z w q' _ (st_of (by rw [but_ne htp, upd_same])) ((Pd.mk (hd.but hy8) (dp_but (noL_plT _) hw hy8) g' n').ex e8) ev ts Rt.ex (Rt.sk.mono hm)
    have ix2 : ∀ {σ : L2.St} {H' : Hp}, Ex (but H p) (but H' p) → σ[2]? = some (some (.ref a)) → Ev (tOp (rIxT K) (tVar 2) (tC (.int 2))) σ H' (.ref c) := fun e h => ev_op (ev_var h) ev_c (rv_ixT (ex_t (e.trans (but_ex _ _)) hs) (at_of (j := 2) rfl rfl))
    have len2 : ∀ {σ : L2.St} {H' : Hp}, Ex (but H p) (but H' p) → σ[2]? = some (some (.ref a)) → Ev (tCB (rLenS K) (tCons (tOp (rIxT K) (tVar 2) (tC (.int 2))) tNil)) σ H' (.int (pl.bs.length : Int)) := fun e h => ev_is (ev_lenT (ix2 e h) (ex_t (e.trans (but_ex _ _)) hc)) (by rw [hxl])
    -- way = ..
    refine q_any (st_dip (B := but H p) (b := 4) rfl ev_c (by decide) (by decide) R0 (by unfold LIM; omega) fun way H1 a0 a1 R1 e1 => ?_)
    -- a bound drawn from the plan's
    have pick : ∀ {σ : L2.St} {H3 : Hp} {m : Nat} {Q' : VK}, Run p m (but H p) H3 → m ≤ n + 15 → pl.bs ≠ [] → σ[0]? = some (some (.ref p)) → σ[2]? = some (some (.ref a)) → (∀ xb b H5, b ∈ pl.bs → Dp K (but H5 p) xb (bdD b) → Run p (m + 1) (but H p) H5 → Ex (but H3 p) (but H5 p) → Q' xb H5) →
        tOp (rIxT K) (tOp (rIxT K) (tVar 2) (tC (.int 2))) (tCall spDip [] E0 (tCons (tVar 0) (tCons (tCB (rLenS K) (tCons (tOp (rIxT K) (tVar 2) (tC (.int 2))) tNil)) tNil))) σ H3 Q' := by
      intro σ H3 m Q' R3 hm hne h0 h2 k
      have hpos : 1 ≤ pl.bs.length := by
        cases hpb : pl.bs with
        | nil => exact absurd hpb hne
        | cons b r => exact Nat.le_add_left _ _
      refine (ix2 R3.ex h2) H3 (Ex.refl _) _ fun H4 e4 => ?_
      have R4 := R3.on e4
      refine st_dip (B := but H p) (b := (pl.bs.length : Int)) h0 (len2 R4.ex h2) (by omega) (by omega) R4 (by unfold LIM; omega) fun r5 H5 f0 f1 R5 e5 => ?_
      have hr : r5.toNat < xs.length := by omega
      have hxr : xs[r5.toNat]? = some xs[r5.toNat] := List.getElem?_eq_getElem hr
      obtain ⟨d, h3, h4⟩ := dpa_get hxs hxr
      rw [List.getElem?_map] at h3
      obtain ⟨b, hb, rfl⟩ := Option.map_eq_some_iff.mp h3
      exact ⟨c, xs, r5, _, rfl, rfl, ex_t (R5.ex.trans (but_ex _ _)) hc, at_of (j := r5.toNat) (by omega) hxr, k _ b H5 (List.mem_of_getElem? hb) (dp_ex R5.ex h4) R5 ((but_mono e4).trans e5)⟩
    have neB : ∀ {σ : L2.St} {H' : Hp}, Ex (but H p) (but H' p) → σ[2]? = some (some (.ref a)) → EvT (tTest (tOp (rNeP K) (tOp (rIxT K) (tVar 2) (tC (.int 2))) (tTup tNil))) σ H' (!pl.bs.isEmpty) := fun e h => et_is (et_test (ev_opD (K := K) (ed_ixT 2 (ed_of (ev_var h) (dp_ex (e.trans (but_ex _ _)) hx.p)) ev_c rfl rfl) (ed_tup eds_nil (by decide)) (rd_neP (okP_bds pl.bs) rfl))) (by
      have h := eqv_nilT (pl.bs.map bdD)
      show (!PyData.eqv (.tuple (pl.bs.map bdD)) (.tuple [])) = _
      rw [h]
      cases pl.bs <;> rfl)
    have ne_of : (!pl.bs.isEmpty) = true → pl.bs ≠ [] := fun h z => by rw [z] at h; cases h
    -- way 0
    refine q_when (b := decide (way = 0) && !pl.bs.isEmpty) (et_and (et_test (ev_opD (K := K) (ed_of (ev_var rfl) (.int way)) (ed_of ev_c (.int 0)) rd_eqI)) fun _ => neB R1.ex rfl) (fun hb H2 e2 => ?_) fun hb H2 e2 => ?_
    · have hne := ne_of (Bool.and_eq_true_iff.mp hb).2
      have R2 := R1.on e2
      refine q_any (pick R2 (by omega) hne rfl rfl fun xb b H5 hbm hxb R5 e5 => ?_)
      refine (ed_cut2 (K := K) (σ := []) (te := tC xb) (ed_of ev_c (dp_ex (but_ex H5 p) hxb))) H5 (Ex.refl _) _ fun v6 H6 e6 hv6 => ?_
      have R6 := R5.on e6
      refine ⟨.ref x, rfl, v6, rfl, r_sub (hx.d.ex (R6.ex.trans (but_ex _ _))) g hv6 hbm fun z H7 hz e7 hd => ?_⟩
      have R7 := R6.on e7
      refine ⟨.ref a, rfl, v6, rfl, .ref a, v6, pl, b, rfl, dp_ex (R7.ex.trans (but_ex _ _)) hx.p, dp_ex e7 hv6, g, fun w H8 e8 hw => ⟨by show 2 ≤ sizeLine; decide, fun t ht8 => ?_⟩⟩
      have wo := withoutD_ok (x := b.1) (y := b.2.1) g
      exact fin z w _ _ H8 (R7.on e8) (by omega) (hd.ex e8) hw wo.1 (by omega) rfl rfl t ht8
    have R2 := R1.on e2
    have hy2p : ∀ {H' : Hp}, Ex (but H p) (but H' p) → Dp K H' u (plT r) := fun e => dp_ex (e.trans (but_ex _ _)) hy.p
    have len4 : ∀ {σ : L2.St} {H' : Hp}, Ex (but H p) (but H' p) → σ[4]? = some (some u) → Ev (tCB (rLenS K) (tCons (tOp (rIxT K) (tVar 4) (tC (.int 2))) tNil)) σ H' (.int (r.bs.length : Int)) := fun e h => ev_is (ev_lenD (K := K) (ed_ixT 2 (ed_of (ev_var h) (hy2p e)) ev_c rfl rfl)) (by rw [List.length_map])
    -- way 1
    refine q_when (b := decide (way = 1) && decide ((pl.bs.length : Int) + (r.bs.length : Int) < 9)) (et_and (et_test (ev_opD (K := K) (ed_of (ev_var rfl) (.int way)) (ed_of ev_c (.int 1)) rd_eqI)) fun _ => et_test (ev_op (ev_add (len2 R2.ex rfl) (len4 R2.ex rfl)) ev_c rv_I0)) (fun hb H3 e3 => ?_) fun hb H3 e3 => ?_
    · have h9 := of_decide_eq_true (Bool.and_eq_true_iff.mp hb).2
      have R3 := R2.on e3
      have jo := joinD_ok g g2 he (by omega)
      refine ⟨.ref x, rfl, .ref y, rfl, r_and (hx.d.ex (R3.ex.trans (but_ex _ _))) (hy.d.ex (R3.ex.trans (but_ex _ _))) g g2 he ht (by omega) fun z H7 hz e7 hd => ?_⟩
      have R7 := R3.on e7
      refine ⟨.ref a, rfl, u, rfl, .ref a, u, pl, r, rfl, dp_ex (R7.ex.trans (but_ex _ _)) hx.p, hy2p R7.ex, g, g2, he, by omega, fun w H8 e8 hw => ⟨by show 2 ≤ sizeLine; decide, fun t ht8 => ?_⟩⟩
      exact fin z w _ _ H8 (R7.on e8) (by omega) (hd.ex e8) hw jo.1 (by have := jo.2; omega) rfl rfl t ht8
    have R3 := R2.on e3
    refine q_when (b := decide (8 < (pl.bs.length : Int))) (et_test (ev_op (len2 R3.ex rfl) ev_c rv_I0)) (fun hb H4 e4 => ?_) fun hb H4 e4 => ?_
    · have R4 := R3.on e4
      refine ⟨.ref x, rfl, .ref x, rfl, r_and (hx.d.ex (R4.ex.trans (but_ex _ _))) (hx.d.ex (R4.ex.trans (but_ex _ _))) g g rfl rfl (by omega) fun z H7 hz e7 hd => ?_⟩
      rw [joinD_self g] at hd
      have R7 := R4.on e7
      exact ⟨.ref a, rfl, by show 2 ≤ sizeLine; decide, fun t ht8 => fin z (.ref a) pl _ H7 R7 (by omega) hd (dp_ex (R7.ex.trans (but_ex _ _)) hx.p) g n9 rfl rfl t ht8⟩
    have h8 : (pl.bs.length : Int) ≤ 8 := by have := of_decide_eq_false hb; omega
    have R4 := R3.on e4
    have hN := asc_nodup _ g.ha
    -- limit_here = ..
    refine q_any ⟨.ref p, rfl, ?_⟩
    refine (ev_op (ev_var rfl) ev_c (rv_ixT (ex_t (R4.ex.trans (but_ex _ _)) hs) (at_of (j := 1) rfl rfl)) : Ev (tOp (rIxT K) (tVar 2) (tC (.int 1))) _ H4 w1) H4 (Ex.refl _) _ fun H5 e5 => ?_
    have R5 := R4.on e5
    refine ⟨p, w1, pl.evs, n + 1, rfl, dp_ex R5.ex d1, fun e h => (of_isName (g.nm e h)).1, hN, g.n1, g.n7, R5.sk, by unfold LIM; omega, fun l0 b0 H6 hl0 hb0 e6 sk6 => ?_⟩
    have R6 : Run p (n + 11) (but H p) H6 := ⟨R5.ex.trans e6, sk6⟩
    have key : ∀ (s6 : Option V) (lv : V) (b : Bd) (H7 : Hp), Dp K (but H7 p) lv (bdD b) → isBound pl.evs (bdD b) = true → Run p (n + 15) (but H p) H7 → ∀ D : Ends, D.rt = Q →
        tRet (tTup (tCons (tOp (rOpT K C (spAddD K C) E0) (tVar 1) (tVar 7)) (tCons (tCall (spWithL K) [] E0 (tCons (tVar 2) (tCons (tVar 7) tNil))) tNil))) D [some (.ref p), some (.ref x), some (.ref a), some (.ref y), some u, some (.int way), s6, some lv] H7 := by
      intro s6 lv b H7 hlv hb7 R7 D hD
      have wd := withD_ok g hb7 (by omega)
      refine ⟨.ref x, rfl, lv, rfl, r_add (hx.d.ex (R7.ex.trans (but_ex _ _))) g (dp_ex (but_ex H7 p) hlv) hb7 (by omega) fun z H8 hz e8 hd => ?_⟩
      have R8 := R7.on e8
      refine ⟨.ref a, rfl, lv, rfl, .ref a, lv, pl, b, rfl, dp_ex (R8.ex.trans (but_ex _ _)) hx.p, dp_ex e8 (dp_ex (but_ex H7 p) hlv), g, hb7, by omega, fun w H9 e9 hw => ⟨by show 2 ≤ sizeLine; decide, fun t ht8 => ?_⟩⟩
      show D.rt _ _
      rw [hD]
      exact fin z w _ _ H9 (R8.on e9) (by omega) (hd.ex e9) hw wd.1 (by have := wd.2; omega) rfl rfl t ht8
    refine q_when (b := decide (way = 2) && !pl.bs.isEmpty) (et_and (et_test (ev_opD (K := K) (ed_of (ev_var rfl) (.int way)) (ed_of ev_c (.int 2)) rd_eqI)) fun _ => neB R6.ex rfl) (fun hb H7 e7 => ?_) fun hb H7 e7 => key none l0 b0 H7 (dp_ex (but_mono e7) hl0) hb0 ((R6.on e7).mono (by omega)) _ rfl
    have hne := ne_of (Bool.and_eq_true_iff.mp hb).2
    have R7 := R6.on e7
    refine q_any (pick R7 (by omega) hne rfl rfl fun xb b H8 hbm hxb R8 e8 => ?_)
    obtain ⟨q8, rfl, hq8⟩ := dp_bdX hxb
    have hpr := (Bds.iff.mp g.hb).1 b hbm
    have hxb' := dp_ex (but_ex H8 p) hxb
    refine (ed_cut2 (K := K) (te := tVar 6) (ed_of (ev_var rfl) hxb')) H8 (Ex.refl _) _ fun v9 H9 e9 hv9 => ?_
    have R9 := R8.on e9
    obtain ⟨ys9, hy9⟩ := lst_of R9.sk
    have hv9' := dp_but (by rfl : noL (prD b) = true) hv9 hy9
    refine (ev_op (ev_var rfl) ev_c (rv_ixT (ex_t ((but_ex H8 p).trans e9) hq8) (at_of (j := 2) rfl rfl)) : Ev (tOp (rIxT K) (tVar 6) (tC (.int 2))) _ H9 (.int b.2.2)) H9 (Ex.refl _) _ fun Ha ea => ?_
    have Ra := R9.on ea
    refine st_dip (B := but H p) (b := 5) rfl ev_c (by decide) (by decide) Ra (by unfold LIM; omega) fun rb Hb i0 i1 Rb eb => ?_
    refine ⟨b.2.2, rb, rfl, rfl, _, 2, rfl, rfl, by show 1 ≤ sizeLine; decide, fun t2 ht2 => ?_⟩
    have Rc := Rb.on (Ex.new (o := .tup [.int (b.2.2 + rb - 2)]) ht2)
    have hvc : Dp K (upd Hb t2 (.tup [.int (b.2.2 + rb - 2)])) v9 (prD b) := dp_ex (Ex.new ht2) (dp_ex (but_ex Hb p) (dp_ex ((but_mono ea).trans eb) hv9'))
    have htc : Dp K (upd Hb t2 (.tup [.int (b.2.2 + rb - 2)])) (.ref t2) (.tuple [.int (b.2.2 + rb - 2)]) := .tup (st_of upd_same) (.cons (.int _) .nil)
    generalize (upd Hb t2 (.tup [.int (b.2.2 + rb - 2)])) = Hc at Rc hvc htc ⊢
    refine rd_catA hvc htc (by show 2 + 1 ≤ 100000; decide) fun v3 Hd ed hv3 => ?_
    have Rd' := Rc.on ed
    obtain ⟨ysd, hyd⟩ := lst_of Rd'.sk
    exact key _ v3 (b.1, b.2.1, b.2.2 + rb - 2) Hd (dp_but (by rfl : noL (bdD (b.1, b.2.1, b.2.2 + rb - 2)) = true) hv3 hyd) (isB_of hpr) (Rd'.mono (by omega)) _ rfl
abbrev s_law_in_place : Stmt := topS 89
theorem sc_law_in_place : FnScope ["made", "plan_here", "mate", "mate_plan", "some", "less", "both", "pair"] ["made", "plan_here", "mate", "mate_plan"] (defScope s_law_in_place) := ⟨rfl, rfl, rfl, by decide +kernel, rfl, by decide +kernel, by decide +kernel⟩
theorem ok_law_in_place (F : Fun K "_law_in_place" "_law_in_place" s_law_in_place f fd) (T : Txt mg tg) (O : DsO P w K mg base C) (C_law_without : Cal P w K mg base 1 "_law_without" ["plan_here", "pair"] (spWithoutL K)) (C_law_joined : Cal P w K mg base 2 "_law_joined" ["plan_here", "mate"] (spJoinL K)) (C_law_with : Cal P w K mg base 1 "_law_with" ["plan_here", "limit_here"] (spWithL K)) (C_law_twin : Cal P w K mg base 4 "_law_twin" ["found", "due"] (spTwin K 4)) : FnOk P w K mg base CX0 10 f fd ["made", "plan_here", "mate", "mate_plan"] (spInPl K C) := by
  obtain ⟨gS, fS, DS, FS, BS⟩ := O.su
  obtain ⟨gA, fA, DA, FA, BA⟩ := O.an
  obtain ⟨gP, fP, DP, FP, BP⟩ := O.ad
  obtain ⟨pR, gR, fR, PR, FR, BR⟩ := O.pr
  refine F.ok sc_law_in_place (fun vs H Q E h => ?_) (fun cdv A outer s H vs Q E hr h => ?_)
  · obtain ⟨x, y, v, u, q, r, rfl, _⟩ := h
    rfl
  · obtain ⟨x, y, v, u, pl, r, rfl, hx, hy, he, ht, q⟩ := h
    refine ⟨_, (pss_cons (ps_par3 (i := 4) (j := 5) (l := 6) rfl sc_law_in_place.nd rfl rfl rfl (by decide) (by decide) (by decide) rfl rfl rfl (pa_cons (pv 0) (pa_cons (pv 0) (pa_cons (pv 0) pa_nil))) (by rfl)) (pss_cons (ps_aug (i := 4) sc_law_in_place.nd rfl (Or.inl rfl) (pe_tup (pa_cons pe_str (pa_cons (pe_ix (ix_tupK (K := K) rfl) (pe_ix (ix_tupK (K := K) rfl) (pv 1) pe_int (fun _ _ => rfl)) pe_int (fun _ _ => rfl)) (pa_cons pe_int pa_nil)))) (ip_ownT (op := .Add) DP FP (by first | exact hr | exact hr.mono (by decide)) BP pass0)) (pss_cons (ps_if (pt_not (pt_val (pe_cal C_law_twin (by first | exact hr | exact hr.mono (by decide)) (by rfl) (pa_cons (pe_prop (pv 4) O.B.f.cl PR FR (by first | exact hr | exact hr.mono (by decide)) BR .nil pass0 rfl) (pa_cons (pe_cal C_law_with (by first | exact hr | exact hr.mono (by decide)) (by rfl) (pa_cons (pv 1) (pa_cons (pe_tup (pa_cons pe_str (pa_cons (pe_ix (ix_tupK (K := K) rfl) (pe_ix (ix_tupK (K := K) rfl) (pv 1) pe_int (fun _ _ => rfl)) pe_int (fun _ _ => rfl)) (pa_cons pe_int pa_nil)))) pa_nil))) pa_nil))))) (pss_one (ps_ret pe_bl)) pss_nil) (pss_cons (ps_if (pt_cmpR op_lt (pe_op op_add (pe_callB (call_len_seqK (K := K) rfl) (by rfl) T.len (by decide +kernel) (pa_cons (pe_ix (ix_tupK (K := K) rfl) (pv 1) pe_int (fun _ _ => rfl)) pa_nil)) (pe_callB (call_len_seqK (K := K) rfl) (by rfl) T.len (by decide +kernel) (pa_cons (pe_ix (ix_tupK (K := K) rfl) (pv 3) pe_int (fun _ _ => rfl)) pa_nil))) pe_int (nomark _)) (pss_cons (ps_aug (i := 6) sc_law_in_place.nd rfl (Or.inl rfl) (pv 2) (ip_ownO (op := .BitAnd) DA FA (by first | exact hr | exact hr.mono (by decide)) BA pass0)) (pss_one (ps_if (pt_not (pt_val (pe_cal C_law_twin (by first | exact hr | exact hr.mono (by decide)) (by rfl) (pa_cons (pe_prop (pv 6) O.B.f.cl PR FR (by first | exact hr | exact hr.mono (by decide)) BR .nil pass0 rfl) (pa_cons (pe_cal C_law_joined (by first | exact hr | exact hr.mono (by decide)) (by rfl) (pa_cons (pv 1) (pa_cons (pv 3) pa_nil))) pa_nil))))) (pss_one (ps_ret pe_bl)) pss_nil))) pss_nil) (pss_cons (ps_if (pt_cmpR (op_nePK (K := K) rfl (hu64 hr)) (pe_ix (ix_tupK (K := K) rfl) (pv 1) pe_int (fun _ _ => rfl)) (pe_tup pa_nil) (nomark _)) (pss_cons (ps_set (i := 7) sc_law_in_place.nd rfl (Or.inl rfl) (pe_slice (sl_tupK (K := K) rfl) (pe_ix (ix_tupK (K := K) rfl) (pe_ix (ix_tupK (K := K) rfl) (pv 1) pe_int (fun _ _ => rfl)) (pe_un un_neg pe_int) (fun _ _ => rfl)) po_none (po_some pe_int))) (pss_cons (ps_aug (i := 5) sc_law_in_place.nd rfl (Or.inl rfl) (pv 7) (ip_ownT (op := .Sub) DS FS (by first | exact hr | exact hr.mono (by decide)) BS pass0)) (pss_one (ps_if (pt_not (pt_val (pe_cal C_law_twin (by first | exact hr | exact hr.mono (by decide)) (by rfl) (pa_cons (pe_prop (pv 5) O.B.f.cl PR FR (by first | exact hr | exact hr.mono (by decide)) BR .nil pass0 rfl) (pa_cons (pe_cal C_law_without (by first | exact hr | exact hr.mono (by decide)) (by rfl) (pa_cons (pv 1) (pa_cons (pv 7) pa_nil))) pa_nil))))) (pss_one (ps_ret pe_bl)) pss_nil)))) pss_nil) (pss_one (ps_ret (pe_cal C_law_twin (by first | exact hr | exact hr.mono (by decide)) (by rfl) (pa_cons (pe_prop (pv 0) O.B.f.cl PR FR (by first | exact hr | exact hr.mono (by decide)) BR .nil pass0 rfl) (pa_cons (pv 1) pa_nil)))))))))), ?_⟩
    have g := hx.g
    have g2 := hy.g
    have n9 := hx.n
    have m9 := hy.n
    have n50 : pl.bs.length ≤ 50 := by omega
    obtain ⟨e0, er, hev⟩ : ∃ e r, pl.evs = e :: r := by
      cases h : pl.evs with
      | nil => have := g.n1; rw [h] at this; cases this
      | cons e r => exact ⟨e, r, rfl⟩
    have he0 : e0 ∈ pl.evs := by rw [hev]; exact List.mem_cons_self
    have hbg : isBound pl.evs (bdD ("go", e0, 7)) = true := isB_of ⟨place_of (List.mem_append_right _ (List.mem_singleton.mpr rfl)), place_of (List.mem_append_left _ he0), fun z => (of_isName (g.nm e0 he0)).1 z.symm⟩
    have goB : ∀ {σ : L2.St} {H' : Hp}, Ex H H' → σ[1]? = some (some v) → EvD K (tTup (tCons (tC (.str "go")) (tCons (tOp (rIxT K) (tOp (rIxT K) (tVar 1) (tC (.int 1))) (tC (.int 0))) (tCons (tC (.int 7)) tNil)))) σ H' (bdD ("go", e0, 7)) := fun e h => ed_tup (eds_cons (ed_str ev_c) (eds_cons (ed_ixT 0 (ed_ixT 1 (ed_of (ev_var h) (dp_ex e hx.p)) ev_c rfl rfl) ev_c rfl (by rw [hev]; rfl)) (eds_cons (ed_int ev_c) eds_nil))) (by show 3 ≤ 100000; decide)
    have wd := withD_ok g hbg n50
    have tw := pl_tw g
    -- some, less, both = made, made, made
    refine ⟨.ref x, rfl, .ref x, rfl, .ref x, rfl, _, _, _, rfl, ?_⟩
    dsimp only
    -- some += ..
    refine ⟨.ref x, rfl, (goB (Ex.refl H) rfl) H (Ex.refl H) _ fun bv H1 e1 hbv => r_add (hx.d.ex e1) g hbv hbg n50 fun z H2 hz e2 hd => ?_⟩
    have e02 := e1.trans e2
    have tw2 := pl_tw wd.1
    refine q_when (b := false) (et_is (et_not (a := true) (et_B (ev_twinD (ed_prop O.B.f (ev_var rfl) hd) (ed_withL (ed_of (ev_var rfl) (dp_ex e02 hx.p)) (goB e02 rfl) g hbg n50) tw2.1 tw2.2))) rfl) (fun h => nomatch h) fun _ H3 e3 => ?_
    have e03 := e02.trans e3
    have len1 : ∀ {σ : L2.St} {H' : Hp}, Ex H H' → σ[1]? = some (some v) → Ev (tCB (rLenS K) (tCons (tOp (rIxT K) (tVar 1) (tC (.int 2))) tNil)) σ H' (.int (pl.bs.length : Int)) := fun e h => ev_is (ev_lenD (K := K) (ed_ixT 2 (ed_of (ev_var h) (dp_ex e hx.p)) ev_c rfl rfl)) (by rw [List.length_map])
    have len3 : ∀ {σ : L2.St} {H' : Hp}, Ex H H' → σ[3]? = some (some u) → Ev (tCB (rLenS K) (tCons (tOp (rIxT K) (tVar 3) (tC (.int 2))) tNil)) σ H' (.int (r.bs.length : Int)) := fun e h => ev_is (ev_lenD (K := K) (ed_ixT 2 (ed_of (ev_var h) (dp_ex e hy.p)) ev_c rfl rfl)) (by rw [List.length_map])
    refine q_ifI (b := decide ((pl.bs.length : Int) + (r.bs.length : Int) < 11)) (fun σ' H' => ∃ s4 s6, σ' = [some (.ref x), some v, some (.ref y), some u, s4, some (.ref x), s6, none] ∧ Ex H H') (et_test (ev_op (ev_add (len1 e03 rfl) (len3 e03 rfl)) ev_c rv_I0)) (fun hb H4 e4 N hN => ?_) (fun hb H4 e4 => ⟨_, _, rfl, e03.trans e4⟩) ?_
    · have h11 := of_decide_eq_true hb
      have e04 := e03.trans e4
      have jo := joinD_ok g g2 he (by omega)
      have twj := pl_tw jo.1
      refine ⟨.ref x, rfl, .ref y, rfl, r_and (hx.d.ex e04) (hy.d.ex e04) g g2 he ht (by omega) fun z5 H5 hz5 e5 hd5 => ?_⟩
      have e05 := e04.trans e5
      refine s_when (b := false) (et_is (et_not (a := true) (et_B (ev_twinD (ed_prop O.B.f (ev_var rfl) hd5) (fun H6 e6 Q' k => ⟨v, rfl, u, rfl, v, u, pl, r, rfl, dp_ex (e05.trans e6) hx.p, dp_ex (e05.trans e6) hy.p, g, g2, he, by omega, fun w H7 e7 hw => k w H7 e7 hw⟩) twj.1 twj.2))) rfl) (fun h => nomatch h) fun _ H6 e6 => hN _ _ ⟨_, _, rfl, e05.trans e6⟩
    rintro σ' H4 ⟨s4, s6, rfl, e04⟩
    refine q_ifI (b := !pl.bs.isEmpty) (fun σ' H' => ∃ s4 s5 s6 s7, σ' = [some (.ref x), some v, some (.ref y), some u, s4, s5, s6, s7] ∧ Ex H H') (et_is (et_test (ev_opD (K := K) (ed_ixT 2 (ed_of (ev_var rfl) (dp_ex e04 hx.p)) ev_c rfl rfl) (ed_tup eds_nil (by decide)) (rd_neP (okP_bds pl.bs) rfl))) ?_) (fun hb H5 e5 N hN => ?_) (fun hb H5 e5 => ⟨_, _, _, _, rfl, e04.trans e5⟩) ?_
    · have h := eqv_nilT (pl.bs.map bdD)
      show (!PyData.eqv (.tuple (pl.bs.map bdD)) (.tuple [])) = _
      rw [h]
      cases pl.bs <;> rfl
    · have e05 := e04.trans e5
      have hne : pl.bs ≠ [] := fun z => by rw [z] at hb; cases hb
      have hlast := List.dropLast_concat_getLast hne
      have hbm := List.getLast_mem hne
      have hat : atI (pl.bs.map bdD) (-1) = some (bdD (pl.bs.getLast hne)) := by
        conv => lhs; rw [← hlast]
        rw [List.map_append, List.map_singleton]
        exact atI_last _ _
      generalize pl.bs.getLast hne = b at hbm hat
      refine (ed_cut2 (K := K) (ed_ixI (ed_ixT 2 (ed_of (ev_var rfl) (dp_ex e05 hx.p)) ev_c rfl rfl) (ev_un ev_c ru_neg) hat)) H5 (Ex.refl _) _ fun v6 H6 e6 hv6 => ?_
      have e06 := e05.trans e6
      have wo := withoutD_ok (x := b.1) (y := b.2.1) g
      have two := pl_tw wo.1
      refine ⟨.ref x, rfl, v6, rfl, r_sub (hx.d.ex e06) g hv6 hbm fun z7 H7 hz7 e7 hd7 => ?_⟩
      have e07 := e06.trans e7
      refine s_when (b := false) (et_is (et_not (a := true) (et_B (ev_twinD (ed_prop O.B.f (ev_var rfl) hd7) (fun H8 e8 Q' k => ⟨v, rfl, v6, rfl, v, v6, pl, b, rfl, dp_ex (e07.trans e8) hx.p, dp_ex (e7.trans e8) hv6, g, fun w H9 e9 hw => k w H9 e9 hw⟩) two.1 two.2))) rfl) (fun h => nomatch h) fun _ H8 e8 => hN _ _ ⟨_, _, _, _, rfl, e07.trans e8⟩
    · rintro σ' H5 ⟨s4, s5, s6, s7, rfl, e05⟩
      exact s_ret (ev_twinD (ed_prop O.B.f (ev_var rfl) (hx.d.ex e05)) (ed_of (ev_var rfl) (dp_ex e05 hx.p)) tw.1 tw.2) fun H6 e6 => q H6 (e05.trans e6)
end
end Vf
end
section
set_option Elab.async false
set_option linter.all false
set_option maxRecDepth 100000
set_option maxHeartbeats 16000000
namespace Vf
open PySem PySem.Spec PyProof.Rows L2 Evl
/-! ### what the law holds: designs beside their plans -/
def HeldOk (K : PySem.W.Frag) (B : Hp) (C : Addr) (q0 : PlanL) (hs : List V) : Prop := ∀ x ∈ hs, ∃ t z w q', x = .ref t ∧ SqT K B t [.ref z, w] ∧ Pd K B C z w q' ∧ q'.evs = q0.evs ∧ q'.ts = q0.ts
theorem HeldOk.ex {K : PySem.W.Frag} {B B' : Hp} {C : Addr} {q0 : PlanL} {hs : List V} (e : Ex B B') (h : HeldOk K B C q0 hs) : HeldOk K B' C q0 hs := fun x hx => by
  obtain ⟨t, z, w, q', h1, h2, h3, h4⟩ := h x hx
  exact ⟨t, z, w, q', h1, ex_t e h2, h3.ex e, h4⟩
theorem Pd.but {K : PySem.W.Frag} {H : Hp} {C x p : Addr} {v : V} {q : PlanL} {ys : List V} (h : Pd K H C x v q) (hp : H p = some (.lst ys)) : Pd K (but H p) C x v q := ⟨h.d.but hp, dp_but (noL_plT q) h.p hp, h.g, h.n⟩
theorem HeldOk.but {K : PySem.W.Frag} {H : Hp} {C p : Addr} {q0 : PlanL} {hs ys : List V} (h : HeldOk K H C q0 hs) (hp : H p = some (.lst ys)) : HeldOk K (but H p) C q0 hs := fun x hx => by
  obtain ⟨t, z, w, q', h1, h2, h3, h4⟩ := h x hx
  exact ⟨t, z, w, q', h1, sqt_but hp h2, h3.but hp, h4⟩
theorem b2_up {H : Hp} {p L : Addr} {o : HO} : but (but (upd H L o) p) L = but (but H p) L := funext fun a => by
  unfold but
  by_cases h1 : a = L
  · rw [if_pos h1, if_pos h1]
  · rw [if_neg h1, if_neg h1, upd_ne h1]
theorem en_lcNone {K : PySem.W.Frag} {σ : L2.St} {H : Hp} {tl te : TE} {t : TT} {g : TG} {vs : List Nat} {xs : List V} {L : Addr} (h : Ev tl σ H (.ref L)) (hL : H L = some (.lst xs)) (hg : ∀ (i : Nat) (x : V) H1, Ex H H1 → xs[i]? = some x → ∃ σ2, wipe σ2 vs = wipe σ vs ∧ GoesTo g x (wipe σ vs) σ2 H1 ∧ EvT t σ2 H1 false) : EvN K (tLc (iList K tl) g t te vs) σ H [] := fun H0 e Q q => h H0 e _ fun H1 e1 => by
  have hL1 := (e.trans e1) _ _ hL
  refine ⟨L, rfl, ⟨xs, sq_of hL1⟩, fun Dl hD => lc_list (K := K) (a := L) (xs := xs) (fun i H' => Ex H1 H' ∧ H' Dl = some (.lst [])) ⟨Ex.new hD, upd_same⟩ (fun i H' _ p => sq_of (p.1 _ _ hL1)) (fun i x H' hi p => ?_) (fun H' p => q Dl [] H' (fresh_back e1 hD) (e1.trans p.1) p.2 .nil)⟩
  obtain ⟨σ2, w1, w2, w3⟩ := hg i x H1 (e.trans e1) hi
  refine w2 _ H' p.1 ⟨w1, w3 H' p.1 _ fun H3 e3 => ?_⟩
  show if false = true then _ else _
  rw [if_neg (by decide)]
  exact ⟨p.1.trans e3, e3 _ _ p.2⟩
theorem t_mk1 {te : TE} {tr : TA} {σ : L2.St} {H : Hp} {Q : VK} (h : te σ H fun x H1 => tr σ H1 fun xs H2 => (x :: xs).length ≤ sizeLine ∧ ∀ l, H2 l = none → Q (.ref l) (upd H2 l (.tup (x :: xs)))) : tTup (tCons te tr) σ H Q := h
theorem t_ls1 {te : TE} {tr : TA} {σ : L2.St} {H : Hp} {Q : VK} (h : te σ H fun x H1 => tr σ H1 fun xs H2 => (x :: xs).length ≤ sizeLine ∧ ∀ l, H2 l = none → Q (.ref l) (upd H2 l (.lst (x :: xs)))) : tLst (tCons te tr) σ H Q := h
theorem t_cs1 {te : TE} {tr : TA} {σ : L2.St} {H : Hp} {Q : List V → Hp → Prop} (h : te σ H fun x H1 => tr σ H1 fun xs H2 => Q (x :: xs) H2) : tCons te tr σ H Q := h
theorem t_op1 {r : R2} {ta tb : TE} {σ : L2.St} {H : Hp} {Q : VK} (h : ta σ H fun x H1 => tb σ H1 fun y H2 => r x y H2 Q) : tOp r ta tb σ H Q := h
theorem t_prop {C : Addr} {sp : Sp} {E : XK} {ta : TE} {σ : L2.St} {H : Hp} {Q : VK} (h : ta σ H fun x H1 => ∃ a dx fs, x = .ref a ∧ H1 a = some (.ins C dx fs) ∧ sp (.ref a :: []) H1 Q E) : tProp C sp [] E ta σ H Q := h
def aP : PlanL := ⟨10, ["a", "b", "c"], [("b", "c", 2), ("c", "b", 0)], [⟨"a", "b", 1, 3⟩]⟩
theorem aP_ok : DsP aP := by
  have J := (Jobs.nil ["a", "b", "c"]).snoc (b := "a") (e := "b") (l := 1) (g := 3) (by simp) (by rw [List.mem_filter]; exact ⟨by simp, by decide +kernel⟩) (by decide) (by decide) (by decide)
  exact ⟨by decide +kernel, by decide +kernel, by show areBounds ["a", "b", "c"] (.tuple (([("b", "c", 2), ("c", "b", 0)] : List Bd).map bdD)) = true; decide +kernel, J.tasks (ts := [.tuple [.str "a", .str "b", .int 1, .int 3]]) (.refl _) (List.pairwise_singleton _ _), by decide, by decide, by decide, by decide, by decide⟩
theorem aP_end : (withD (withoutD aP "b" "c") ("b", "c", 5)).bs = ([("b", "c", 5), ("c", "b", 0)] : List Bd) := by
  have e1 : (withoutD aP "b" "c").bs = ([("c", "b", 0)] : List Bd) := by decide +kernel
  show joinB aP.evs (withoutD aP "b" "c").bs [("b", "c", 5)] = _
  rw [e1, joinB_one]
  have hbc : ("b" : Str) ≠ "c" := by decide +kernel
  refine canon_eq (by show areBounds ["a", "b", "c"] (.tuple (([("b", "c", 5), ("c", "b", 0)] : List Bd).map bdD)) = true; decide +kernel) fun x y i => ?_
  unfold withM mapB
  by_cases h : x = "b" ∧ y = "c"
  · obtain ⟨rfl, rfl⟩ := h
    simp [hbc, Ne.symm hbc, eq_comm]
  · by_cases h2 : x = "c" ∧ y = "b"
    · obtain ⟨rfl, rfl⟩ := h2
      simp [hbc, Ne.symm hbc, eq_comm]
    · have h3 : ¬ (("c" : Str) = x ∧ ("b" : Str) = y) := fun z => h2 ⟨z.1.symm, z.2.symm⟩
      simp [h, h3]
      refine ⟨fun a b _ => h ⟨a, b⟩, fun a b _ => h2 ⟨a, b⟩⟩
abbrev spLaw (K : PySem.W.Frag) : Sp := fun vs H Q _ => ∃ (a : Addr) (ns : List Int), vs = [.ref a] ∧ SqL K H a (ns.map V.int) ∧ ns.length ≤ 63 ∧ ∀ H', Q (.bl true) H'
section
variable {P : Program} {w : World} {K : PySem.W.Frag} {mg : Str → Option Value} {base : Heap} {tg : Tok} {f : Addr} {fd : FuncData} {C : Addr}
abbrev s_law : Stmt := topS 90
theorem sc_law : FnScope ["script", "at", "sack", "first", "second", "held", "turn", "made", "plan_here", "mate", "mate_plan", "later", "due", "row", "a"] ["script"] (defScope s_law) := ⟨rfl, rfl, rfl, by decide +kernel, rfl, by decide +kernel, by decide +kernel⟩
theorem ok_law (F : Fun K "law" "law" s_law f fd) (T : Txt mg tg) (O : DsO P w K mg base C) (C_law_sack : Cal P w K mg base 1 "_law_sack" ["script", "at"] (spSack K)) (C_law_dip : Cal P w K mg base 1 "_law_dip" ["sack", "below"] spDip)
    (C_law_great_plan : Cal P w K mg base 3 "_law_great_plan" ["sack"] (spGreatD K)) (C_law_mate_plan : Cal P w K mg base 3 "_law_mate_plan" ["sack", "plan_here"] (spMateL K)) (C_law_walked : Cal P w K mg base 10 "_law_walked" ["sack", "made", "plan_here", "mate", "mate_plan"] (spWalkD K C)) (C_law_in_place : Cal P w K mg base 10 "_law_in_place" ["made", "plan_here", "mate", "mate_plan"] (spInPl K C)) (C_law_twin : Cal P w K mg base 4 "_law_twin" ["found", "due"] (spTwin K 4)) : FnOk P w K mg base CX0 11 f fd ["script"] (spLaw K) := by
  obtain ⟨gS, fS, DS, FS, BS⟩ := O.su
  obtain ⟨gP, fP, DP, FP, BP⟩ := O.ad
  obtain ⟨pR, gR, fR, PR, FR, BR⟩ := O.pr
  obtain ⟨fI, fdI, MD, OD, BD⟩ := O.B.ex
  refine F.ok sc_law (fun vs H Q E h => ?_) (fun cdv A outer s H vs Q E hr h => ?_)
  · obtain ⟨a, ns, rfl, _⟩ := h
    rfl
  · obtain ⟨a, ns, rfl, hS, hlen, q⟩ := h
    refine ⟨_, (pss_cons (ps_for PassesOwn.never rfl (pi_range1 rfl T.range (pa_cons (pe_callB (call_max2 rfl) (by rfl) T.max (by decide +kernel) (pa_cons pe_int (pa_cons (pe_callB (call_min2 rfl) (by rfl) T.min (by decide +kernel) (pa_cons pe_int (pa_cons (pe_callB (call_len_seqK (K := K) rfl) (by rfl) T.len (by decide +kernel) (pa_cons (pv 0) pa_nil)) pa_nil))) pa_nil))) pa_nil)) (pg_name (i := 1) sc_law.nd rfl (Or.inl rfl)) (pss_cons (ps_set (i := 2) sc_law.nd rfl (Or.inl rfl) (pe_cal C_law_sack (by first | exact hr | exact hr.mono (by decide)) (by rfl) (pa_cons (pv 0) (pa_cons (pv 1) pa_nil)))) (pss_cons (ps_set (i := 3) sc_law.nd rfl (Or.inl rfl) (pe_cal C_law_great_plan (by first | exact hr | exact hr.mono (by decide)) (by rfl) (pa_cons (pv 2) pa_nil))) (pss_cons (ps_set (i := 4) sc_law.nd rfl (Or.inl rfl) (pe_cal C_law_mate_plan (by first | exact hr | exact hr.mono (by decide)) (by rfl) (pa_cons (pv 2) (pa_cons (pv 3) pa_nil)))) (pss_cons (ps_set (i := 5) sc_law.nd rfl (Or.inl rfl) (pe_lst (pa_cons (pe_tup (pa_cons (pe_make MD OD (by first | exact hr | exact hr.mono (by decide)) (by rfl) O.B.g BD .nil pass0 (pa_cons (pv 3) pa_nil)) (pa_cons (pv 3) pa_nil))) (pa_cons (pe_tup (pa_cons (pe_make MD OD (by first | exact hr | exact hr.mono (by decide)) (by rfl) O.B.g BD .nil pass0 (pa_cons (pv 4) pa_nil)) (pa_cons (pv 4) pa_nil))) pa_nil)))) (pss_one (ps_for PassesOwn.never rfl (pi_range1 rfl T.range (pa_cons pe_int pa_nil)) (pg_name (i := 6) sc_law.nd rfl (Or.inl rfl)) (pss_cons (ps_asg (pe_ix (ix_listK (K := K) rfl) (pv 5) (pe_cal C_law_dip (by first | exact hr | exact hr.mono (by decide)) (by rfl) (pa_cons (pv 2) (pa_cons (pe_callB (call_len_seqK (K := K) rfl) (by rfl) T.len (by decide +kernel) (pa_cons (pv 5) pa_nil)) pa_nil))) (fun _ _ => rfl)) (pg_tupK (K := K) (n := 2) rfl rfl (pgs_cons (pg_name (i := 7) sc_law.nd rfl (Or.inl rfl)) (pgs_cons (pg_name (i := 8) sc_law.nd rfl (Or.inl rfl)) pgs_nil)))) (pss_cons (ps_asg (pe_ix (ix_listK (K := K) rfl) (pv 5) (pe_cal C_law_dip (by first | exact hr | exact hr.mono (by decide)) (by rfl) (pa_cons (pv 2) (pa_cons (pe_callB (call_len_seqK (K := K) rfl) (by rfl) T.len (by decide +kernel) (pa_cons (pv 5) pa_nil)) pa_nil))) (fun _ _ => rfl)) (pg_tupK (K := K) (n := 2) rfl rfl (pgs_cons (pg_name (i := 9) sc_law.nd rfl (Or.inl rfl)) (pgs_cons (pg_name (i := 10) sc_law.nd rfl (Or.inl rfl)) pgs_nil)))) (pss_cons (ps_asg (pe_cal C_law_walked (by first | exact hr | exact hr.mono (by decide)) (by rfl) (pa_cons (pv 2) (pa_cons (pv 7) (pa_cons (pv 8) (pa_cons (pv 9) (pa_cons (pv 10) pa_nil)))))) (pg_tupK (K := K) (n := 2) rfl rfl (pgs_cons (pg_name (i := 11) sc_law.nd rfl (Or.inl rfl)) (pgs_cons (pg_name (i := 12) sc_law.nd rfl (Or.inl rfl)) pgs_nil)))) (pss_cons (ps_expr (pe_bm PySem.F.plainAttrs_list PySem.F.slot_list_append PySem.F.type_list_append mt_append (pv 5) (pa_cons (pe_tup (pa_cons (pv 11) (pa_cons (pv 12) pa_nil))) pa_nil))) (pss_cons (ps_if (pt_not (pt_val (pe_callB (call_isiK' (K := K) rfl) (by rfl) T.isinstance (by decide +kernel) (pa_cons (pv 11) (pa_cons (pe_glob (v := .ref C) (by rfl) O.B.g rfl) pa_nil))))) (pss_one (ps_ret pe_bl)) pss_nil) (pss_cons (ps_if (pt_not (pt_val (pe_cal C_law_in_place (by first | exact hr | exact hr.mono (by decide)) (by rfl) (pa_cons (pv 7) (pa_cons (pv 8) (pa_cons (pv 9) (pa_cons (pv 10) pa_nil))))))) (pss_one (ps_ret pe_bl)) pss_nil) (pss_one (ps_if (pt_cmpR (op_nePK (K := K) rfl (hu64 hr)) (pe_lc (own := [("row", 13)]) rfl sc_law.nd (pi_listK (K := K) rfl (pv 5)) (blkOk_by (own := [("row", 13)]) (N := ["script", "at", "sack", "first", "second", "held", "turn", "made", "plan_here", "mate", "mate_plan", "later", "due", "row", "a"]) (sc := defScope s_law) (by decide +kernel)) (fun _ _ _ _ _ => (pg_name (i := 13) sc_law.nd rfl (Or.inl rfl))) (fun _ _ _ _ _ => (pts_one (pt_not (pt_val (pe_cal C_law_twin (by first | exact hr | exact hr.mono (by decide)) (by rfl) (pa_cons (pe_prop (pe_ix (ix_tupK (K := K) rfl) (pv 13) pe_int (fun _ _ => rfl)) O.B.f.cl PR FR (by first | exact hr | exact hr.mono (by decide)) BR .nil pass0 rfl) (pa_cons (pe_ix (ix_tupK (K := K) rfl) (pv 13) pe_int (fun _ _ => rfl)) pa_nil))))))) (fun _ _ _ _ _ => (pv 13))) (pe_lst pa_nil) (nomark _)) (pss_one (ps_ret pe_bl)) pss_nil))))))))))))))) (pss_cons (ps_set (i := 14) sc_law.nd rfl (Or.inl rfl) (pe_tup (pa_cons pe_int (pa_cons (pe_tup (pa_cons pe_str (pa_cons pe_str (pa_cons pe_str pa_nil)))) (pa_cons (pe_tup (pa_cons (pe_tup (pa_cons pe_str (pa_cons pe_str (pa_cons pe_int pa_nil)))) (pa_cons (pe_tup (pa_cons pe_str (pa_cons pe_str (pa_cons pe_int pa_nil)))) pa_nil))) (pa_cons (pe_tup (pa_cons (pe_tup (pa_cons pe_str (pa_cons pe_str (pa_cons pe_int (pa_cons pe_int pa_nil))))) pa_nil)) pa_nil)))))) (pss_one (ps_ret (pe_cmpR (op_eqPK (K := K) rfl (hu64 hr)) (pe_ix (ix_tupK (K := K) rfl) (pe_prop (pe_op (op_ownT (op := .Add) DP FP (by first | exact hr | exact hr.mono (by decide)) BP pass0) (pe_op (op_ownT (op := .Sub) DS FS (by first | exact hr | exact hr.mono (by decide)) BS pass0) (pe_make MD OD (by first | exact hr | exact hr.mono (by decide)) (by rfl) O.B.g BD .nil pass0 (pa_cons (pv 14) pa_nil)) (pe_tup (pa_cons pe_str (pa_cons pe_str pa_nil)))) (pe_tup (pa_cons pe_str (pa_cons pe_str (pa_cons pe_int pa_nil))))) O.B.f.cl PR FR (by first | exact hr | exact hr.mono (by decide)) BR .nil pass0 rfl) pe_int (fun _ _ => rfl)) (pe_tup (pa_cons (pe_tup (pa_cons pe_str (pa_cons pe_str (pa_cons pe_int pa_nil)))) (pa_cons (pe_tup (pa_cons pe_str (pa_cons pe_str (pa_cons pe_int pa_nil)))) pa_nil))) (nomark _)))))), ?_⟩
    have hmx : ∃ z : Int, 0 ≤ z ∧ z ≤ 6 ∧ ∀ σ : L2.St, σ[0]? = some (some (.ref a)) → Ev (tCB (fun xs H Q => ∃ i j, xs = [V.int i, V.int j] ∧ Q (V.int (if j > i then j else i)) H) (tCons (tC (.int 1)) (tCons (tCB (fun xs H Q => ∃ i j, xs = [.int i, .int j] ∧ Q (.int (if j < i then j else i)) H) (tCons (tC (.int 6)) (tCons (tCB (rLenS K) (tCons (tVar 0) tNil)) tNil))) tNil))) σ H (.int z) := by
      refine ⟨if (if ((ns.map V.int).length : Int) < 6 then ((ns.map V.int).length : Int) else 6) > 1 then (if ((ns.map V.int).length : Int) < 6 then ((ns.map V.int).length : Int) else 6) else 1, ?_, ?_, fun σ hσ => ?_⟩
      · split <;> (try split) <;> omega
      · split <;> (try split) <;> omega
      · exact ev_callB (ea_cons ev_c (ea_cons (ev_callB (ea_cons ev_c (ea_cons (ev_len (ev_var hσ) hS) ea_nil)) fun _ _ q => ⟨6, _, rfl, q⟩) ea_nil)) fun _ _ q => ⟨1, _, rfl, q⟩
    obtain ⟨z, z0, z6, hz⟩ := hmx
    have lst_of : ∀ {m : Nat} {p : Addr} {H' : Hp}, SackAt H' p m → ∃ ys, H' p = some (.lst ys) := fun h => by
      obtain ⟨_, _, _, h, _⟩ := h
      exact ⟨_, h⟩
    refine q_forR1 (n := z) (ea_cons (hz _ rfl) ea_nil) (by omega) (fun i σ' H' => ∃ x1 x2 x3 x4 x5 x6 x7 x8 x9 xa xb xc xd xe, σ' = [some (.ref a), x1, x2, x3, x4, x5, x6, x7, x8, x9, xa, xb, xc, xd, xe] ∧ Ex H H')
      (fun H1 e1 => ⟨_, _, _, _, _, _, _, _, _, _, _, _, _, _, rfl, e1⟩) ?_ ?_
    · rintro i σ' H1 hi ⟨x1, x2, x3, x4, x5, x6, x7, x8, x9, xa, xb, xc, xd, xe, rfl, e1⟩
      -- sack = ..
      refine q_any ⟨.ref a, rfl, .int (i : Int), rfl, a, ns, (i : Int), rfl, ex_l e1 hS, by omega, by omega, by omega, fun p H2 hp e2 sk => ?_⟩
      have hHp : H p = none := fresh_back e1 hp
      have hB : Ex H (but H2 p) := ex_but (e1.trans e2) hHp
      -- first, second
      refine q_any ⟨.ref p, rfl, p, 0, rfl, sk, by unfold LIM; omega, fun v1 q1 H3 hv1 g1 n4 e3 sk3 => ?_⟩
      refine q_any ⟨.ref p, rfl, v1, rfl, p, v1, q1, 400, rfl, hv1, g1, sk3, by unfold LIM; omega, fun v2 q2 H4 hv2 g2 he2 ht2 hn2 e4 sk4 => ?_⟩
      have hv14 := dp_ex (but_ex H4 p) (dp_ex e4 hv1)
      have hv24 := dp_ex (but_ex H4 p) hv2
      -- held = ..
      refine q_any (t_ls1 (t_mk1 ?_))
      refine s_design (q := q1) O.B.f (ed_of (ev_var rfl) hv14) g1 fun z1 H5 hz1 e5 hd1 => ⟨v1, rfl, by show 2 ≤ sizeLine; decide, fun t1 ht1 => ?_⟩
      have e6 : Ex H5 (upd H5 t1 (.tup [.ref z1, v1])) := Ex.new ht1
      have ht1s : (upd H5 t1 (.tup [.ref z1, v1])) t1 = some (.tup [.ref z1, v1]) := upd_same
      generalize (upd H5 t1 (.tup [.ref z1, v1])) = H6 at e6 ht1s ⊢
      refine t_cs1 (t_mk1 ?_)
      refine s_design (q := q2) O.B.f (ed_of (ev_var rfl) (dp_ex (e5.trans e6) hv24)) g2 fun z2 H7 hz2 e7 hd2 => ⟨v2, rfl, by show 2 ≤ sizeLine; decide, fun t2 ht2' => ?_⟩
      have e8 : Ex H7 (upd H7 t2 (.tup [.ref z2, v2])) := Ex.new ht2'
      have ht2s : (upd H7 t2 (.tup [.ref z2, v2])) t2 = some (.tup [.ref z2, v2]) := upd_same
      generalize (upd H7 t2 (.tup [.ref z2, v2])) = H8 at e8 ht2s ⊢
      refine ⟨by show 2 ≤ sizeLine; decide, fun L hL => ?_⟩
      have e48 := ((e5.trans e6).trans e7).trans e8
      have hL4 : H4 L = none := fresh_back e48 hL
      have sk8 := sk4.ex e48
      obtain ⟨ys8, hy8⟩ := lst_of sk8
      have hLp : L ≠ p := fun z => by rw [z, hy8] at hL; cases hL
      have e9 : Ex H8 (upd H8 L (.lst [.ref t1, .ref t2])) := Ex.new hL
      have hLs : (upd H8 L (.lst [.ref t1, .ref t2])) L = some (.lst [.ref t1, .ref t2]) := upd_same
      -- what is held, in H8
      have held8 : HeldOk K H8 C q1 [.ref t1, .ref t2] := fun x hx => by
        simp only [List.mem_cons, List.not_mem_nil, or_false] at hx
        rcases hx with rfl | rfl
        · exact ⟨t1, z1, v1, q1, rfl, st_of ((e7.trans e8) _ _ ht1s), ⟨hd1.ex ((e6.trans e7).trans e8), dp_ex e48 hv14, g1, by omega⟩, rfl, rfl⟩
        · exact ⟨t2, z2, v2, q2, rfl, st_of ht2s, ⟨hd2.ex e8, dp_ex e48 hv24, g2, by omega⟩, he2, ht2⟩
      have held8p := held8.but hy8
      have hLb8 : but H8 p L = none := by rw [but_ne hLp]; exact hL
      have held9 : HeldOk K (but (but (upd H8 L (.lst [.ref t1, .ref t2])) p) L) C q1 [.ref t1, .ref t2] := held8p.ex (by rw [b2_up]; exact ex_but (Ex.refl _) hLb8)
      have eH9 : Ex H (but (but (upd H8 L (.lst [.ref t1, .ref t2])) p) L) := by
        rw [b2_up]
        have hHL : H L = none := fresh_back ((e1.trans e2)) (by
          have h3 : but H2 p L = none := fresh_back (e3.trans (e4.trans (but_mono e48))) hLb8
          rw [but_ne hLp] at h3
          exact h3)
        exact ex_but (hB.trans ((e3.trans e4).trans (but_mono e48))) hHL
      have sk9 := sk8.ex e9
      generalize (upd H8 L (.lst [.ref t1, .ref t2])) = H9 at hLs held9 eH9 sk9 ⊢
      -- for turn in range(10)
      refine s_forR1 (n := 10) (ea_cons ev_c ea_nil) (by omega) (fun t σ' H' => ∃ s6 s7 s8 s9 sa sb sc sd se hs, σ' = [some (.ref a), some (.int (i : Int)), some (.ref p), some v1, some v2, some (.ref L), s6, s7, s8, s9, sa, sb, sc, sd, se] ∧ Ex (but (but H9 p) L) (but (but H' p) L) ∧ H' L = some (.lst hs) ∧ SackAt H' p (500 + 30 * t) ∧ HeldOk K (but (but H' p) L) C q1 hs ∧ hs.length = t + 2)
        (fun Ha ea => ⟨_, _, _, _, _, _, _, _, _, [.ref t1, .ref t2], rfl, but_mono (but_mono ea), ea _ _ hLs, (sk9.ex ea).mono (by omega), held9.ex (but_mono (but_mono ea)), rfl⟩) ?_ ?_
      · rintro t σ' Ha ht ⟨s6, s7, s8, s9, sa, sb, sc, sd, se, hs, rfl, ea, hLa, ska, hha, hsl⟩
        have ht10 : t < 10 := by omega
        have Ra : Run p (500 + 30 * t) (but Ha p) Ha := ⟨Ex.refl _, ska⟩
        -- made, plan_here = ..
        refine q_anyX ⟨.ref L, rfl, st_dip (B := but Ha p) (b := (hs.length : Int)) rfl (ev_len (ev_var rfl) (sq_of hLa)) (by omega) (by omega) Ra (by unfold LIM; omega) fun r1 Hb b0 b1 Rb eb => ?_⟩
        have hLb := kept eb hLa hLp
        have hx1 : hs[r1.toNat]? = some (hs[r1.toNat]'(by omega)) := List.getElem?_eq_getElem _
        refine ⟨L, hs, r1, _, rfl, rfl, sq_of hLb, at_of (j := r1.toNat) (by omega) hx1, ?_⟩
        obtain ⟨u1, y1, w1, p1, ex1, st1, pb1, ev1, ts1⟩ := hha _ (List.mem_of_getElem? hx1)
        have pd1 := pb1.ex (but_ex (but Ha p) L)
        rw [ex1]
        refine goes_tup2 (ex_t (((but_ex (but Ha p) L).trans eb).trans (but_ex Hb p)) st1) _ _ (Ex.refl _) ?_
        -- mate, mate_plan = ..
        refine q_anyX ⟨.ref L, rfl, st_dip (B := but Ha p) (b := (hs.length : Int)) rfl (ev_len (ev_var rfl) (sq_of hLb)) (by omega) (by omega) Rb (by unfold LIM; omega) fun r2 Hc c0 c1 Rc ec => ?_⟩
        have hLc := kept ec hLb hLp
        have hx2 : hs[r2.toNat]? = some (hs[r2.toNat]'(by omega)) := List.getElem?_eq_getElem _
        refine ⟨L, hs, r2, _, rfl, rfl, sq_of hLc, at_of (j := r2.toNat) (by omega) hx2, ?_⟩
        obtain ⟨u2, y2, w2, p2, ex2, st2, pb2, ev2, ts2⟩ := hha _ (List.mem_of_getElem? hx2)
        have pd2 := pb2.ex (but_ex (but Ha p) L)
        rw [ex2]
        refine goes_tup2 (ex_t (((but_ex (but Ha p) L).trans Rc.ex).trans (but_ex Hc p)) st2) _ _ (Ex.refl _) ?_
        -- later, due = ..
        refine q_anyX ⟨.ref p, rfl, .ref y1, rfl, w1, rfl, .ref y2, rfl, w2, rfl, p, y1, y2, w1, w2, p1, p2, 502 + 30 * t, rfl, pd1.ex Rc.ex, pd2.ex Rc.ex, ev2.trans ev1.symm, ts2.trans ts1.symm, Rc.sk.mono (by omega), by unfold LIM; omega, fun t5 z5 w5 p5 Hd hst hpd hev hts ed skd => ?_⟩
        refine goes_tup2 (ex_t (but_ex Hd p) hst) _ _ (Ex.refl _) ?_
        have ead : Ex (but Ha p) (but Hd p) := Rc.ex.trans ed
        have hLd : Hd L = some (.lst hs) := kept ed hLc hLp
        have hLbd : but Hd p L = some (.lst hs) := by rw [but_ne hLp]; exact hLd
        -- held.append(..)
        refine ⟨.ref L, rfl, .inl ⟨rfl, hs, sq_of hLd⟩, .ref z5, rfl, w5, rfl, by show 2 ≤ sizeLine; decide, fun t6 ht6 => ?_⟩
        have n6L : t6 ≠ L := fun e => by rw [e, hLd] at ht6; cases ht6
        obtain ⟨ysd, hyd⟩ := lst_of skd
        have n6p : t6 ≠ p := fun e => by rw [e, hyd] at ht6; cases ht6
        have e6' : Ex Hd (upd Hd t6 (.tup [.ref z5, w5])) := Ex.new ht6
        refine ⟨L, hs, .ref t6, rfl, rfl, e6' _ _ hLd, sz_lt (by omega), ?_⟩
        have hhn : HeldOk K (but (but (upd (upd Hd t6 (.tup [.ref z5, w5])) L (.lst (hs ++ [.ref t6]))) p) L) C q1 (hs ++ [.ref t6]) := by
          rw [b2_up]
          intro x hx
          rcases List.mem_append.mp hx with hx | hx
          · exact (hha.ex (but_mono (ead.trans (but_mono e6')))) x hx
          · rw [List.mem_singleton.mp hx]
            exact ⟨t6, z5, w5, p5, rfl, st_of (by rw [but_ne n6L, but_ne n6p, upd_same]), (hpd.but hLbd).ex (but_mono (but_mono e6')), hev.trans ev1, hts.trans ts1⟩
        have eh : Ex (but (but Ha p) L) (but (but (upd (upd Hd t6 (.tup [.ref z5, w5])) L (.lst (hs ++ [.ref t6]))) p) L) := by
          rw [b2_up]
          exact but_mono (ead.trans (but_mono e6'))
        have pdh : Pd K (but (but (upd (upd Hd t6 (.tup [.ref z5, w5])) L (.lst (hs ++ [.ref t6]))) p) L) C z5 w5 p5 := by
          rw [b2_up]
          exact (hpd.but hLbd).ex (but_mono (but_mono e6'))
        have hLh : (upd (upd Hd t6 (.tup [.ref z5, w5])) L (.lst (hs ++ [.ref t6]))) L = some (.lst (hs ++ [.ref t6])) := upd_same
        have skh : SackAt (upd (upd Hd t6 (.tup [.ref z5, w5])) L (.lst (hs ++ [.ref t6]))) p (530 + 30 * t) := by
          obtain ⟨x, y, zz, h1, h2⟩ := (skd.ex e6').mono (m := 530 + 30 * t) (by omega)
          exact ⟨x, y, zz, by rw [upd_ne (Ne.symm hLp)]; exact h1, h2⟩
        generalize (upd (upd Hd t6 (.tup [.ref z5, w5])) L (.lst (hs ++ [.ref t6]))) = He at hhn eh pdh hLh skh ⊢
        have toE : Ex (but (but Ha p) L) He := eh.trans ((but_ex _ _).trans (but_ex _ _))
        refine q_when (b := false) (et_is (et_not (a := true) (et_B (ev_isD O.B.f (ev_var rfl) ev_c (pdh.d.ex ((but_ex _ _).trans (but_ex _ _)))))) rfl) (fun h => nomatch h) fun _ Hf ef => ?_
        refine q_when (b := false) (et_is (et_not (a := true) (et_B (ev_call (ea_cons (ev_var rfl) (ea_cons (ev_var rfl) (ea_cons (ev_var rfl) (ea_cons (ev_var rfl) ea_nil)))) fun Hg eg Q' k E => ⟨y1, y2, w1, w2, p1, p2, rfl, pb1.ex (toE.trans (ef.trans eg)), pb2.ex (toE.trans (ef.trans eg)), ev2.trans ev1.symm, ts2.trans ts1.symm, k⟩))) rfl) (fun h => nomatch h) fun _ Hg eg => ?_
        have eeg := ef.trans eg
        refine s_when (b := false) (et_is (et_test (ev_opD (K := K) (ed_n (en_lcNone (ev_var rfl) (eeg _ _ hLh) fun i x Hh eh2 hx => ?_)) (ed_n (en_lst eds_nil (by decide))) (rd_neP rfl rfl))) rfl) (fun h => nomatch h) fun _ Hi ei => ⟨_, _, _, _, _, _, _, _, _, hs ++ [.ref t6], rfl, (ea.trans eh).trans (but_mono (but_mono (eeg.trans ei))), ei _ _ (eeg _ _ hLh), (skh.ex (eeg.trans ei)).mono (by omega), hhn.ex (but_mono (but_mono (eeg.trans ei))), by rw [List.length_append, hsl]; rfl⟩
        obtain ⟨t, z, w, q', rfl, st, pd, _⟩ := (hhn.ex (((but_ex _ _).trans (but_ex _ _)).trans (eeg.trans eh2))) x (List.mem_of_getElem? hx)
        have tw := pl_tw pd.g
        refine ⟨_, ?_, goes_name, et_is (et_not (a := true) (et_B (ev_twinD (ed_prop O.B.f (ev_op (ev_var rfl) ev_c (rv_ixT st (at_of (j := 0) rfl rfl))) pd.d) (ed_of (ev_op (ev_var rfl) ev_c (rv_ixT st (at_of (j := 1) rfl rfl))) pd.p) tw.1 tw.2))) rfl⟩
        rfl
      · rintro σ' Ha ⟨s6, s7, s8, s9, sa, sb, sc, sd, se, hs, rfl, ea, _⟩
        exact ⟨_, _, _, _, _, _, _, _, _, _, _, _, _, _, rfl, eH9.trans (ea.trans ((but_ex _ _).trans (but_ex _ _)))⟩
    · rintro σ' H1 ⟨x1, x2, x3, x4, x5, x6, x7, x8, x9, xa, xb, xc, xd, xe, rfl, e1⟩
      refine q_asgD (K := K) (d := plT aP) (ed_tup (eds_cons (ed_int ev_c) (eds_cons (ed_tup (eds_cons (ed_str ev_c) (eds_cons (ed_str ev_c) (eds_cons (ed_str ev_c) eds_nil))) (by decide)) (eds_cons (ed_tup (eds_cons (ed_tup (eds_cons (ed_str ev_c) (eds_cons (ed_str ev_c) (eds_cons (ed_int ev_c) eds_nil))) (by decide)) (eds_cons (ed_tup (eds_cons (ed_str ev_c) (eds_cons (ed_str ev_c) (eds_cons (ed_int ev_c) eds_nil))) (by decide)) eds_nil)) (by decide))
        (eds_cons (ed_tup (eds_cons (ed_tup (eds_cons (ed_str ev_c) (eds_cons (ed_str ev_c) (eds_cons (ed_int ev_c) (eds_cons (ed_int ev_c) eds_nil)))) (by decide)) eds_nil) (by decide)) eds_nil)))) (by decide)) fun vc H2 e2 hc => ?_
      have gw := withoutD_ok (x := "b") (y := "c") aP_ok
      have hbb : isBound (withoutD aP "b" "c").evs (bdD ("b", "c", 5)) = true := by decide +kernel
      have big : EvD K (tProp C (spGetP K) [] E0 (tOp (rOpT K C (spAddD K C) E0) (tOp (rOpT K C (spSubD K C) E0) (tMake C (spInitD K) [] E0 (tCons (tVar 14) tNil)) (tTup (tCons (tC (.str "b")) (tCons (tC (.str "c")) tNil)))) (tTup (tCons (tC (.str "b")) (tCons (tC (.str "c")) (tCons (tC (.int 5)) tNil)))))) [some (.ref a), x1, x2, x3, x4, x5, x6, x7, x8, x9, xa, xb, xc, xd, some vc] H2 (plT (withD (withoutD aP "b" "c") ("b", "c", 5))) := fun H3 e3 Q' k => t_prop (t_op1 (t_op1 (s_design (q := aP) O.B.f (ed_of (ev_var rfl) (dp_ex e3 hc)) aP_ok fun z4 H4 hz4 e4 hd4 =>
        (ed_tup (K := K) (ds := [.str "b", .str "c"]) (eds_cons (ed_str ev_c) (eds_cons (ed_str ev_c) eds_nil)) (by decide)) H4 (Ex.refl _) _ fun v5 H5 e5 hv5 =>
          r_sub (b := ("b", "c", 2)) (hd4.ex e5) aP_ok hv5 (by decide +kernel) fun z6 H6 hz6 e6 hd6 =>
            (ed_tup (K := K) (ds := [.str "b", .str "c", .int 5]) (eds_cons (ed_str ev_c) (eds_cons (ed_str ev_c) (eds_cons (ed_int ev_c) eds_nil))) (by decide)) H6 (Ex.refl _) _ fun v7 H7 e7 hv7 =>
              r_add (b := ("b", "c", 5)) (hd6.ex e7) gw.1 hv7 hbb (Nat.le_trans gw.2 (by decide)) fun z8 H8 hz8 e8 hd8 => by
                obtain ⟨dx, fs, u, h1, _, _⟩ := id hd8
                exact ⟨z8, dx, fs, rfl, h1, z8, _, C, rfl, O.B.f, hd8, fun w9 H9 e9 hw9 => k w9 H9 (((((e4.trans e5).trans e6).trans e7).trans e8).trans e9) hw9⟩)))
      have k2 := okP_bds ([("b", "c", 5), ("c", "b", 0)] : List Bd)
      refine s_ret (ev_is (ev_opD (K := K) (d := .tuple (([("b", "c", 5), ("c", "b", 0)] : List Bd).map bdD)) (d' := .tuple (([("b", "c", 5), ("c", "b", 0)] : List Bd).map bdD)) (ed_ixT 2 big ev_c rfl (by rw [← aP_end]; rfl)) (ed_tup (eds_cons (ed_tup (eds_cons (ed_str ev_c) (eds_cons (ed_str ev_c) (eds_cons (ed_int ev_c) eds_nil))) (by decide)) (eds_cons (ed_tup (eds_cons (ed_str ev_c) (eds_cons (ed_str ev_c) (eds_cons (ed_int ev_c) eds_nil))) (by decide)) eds_nil)) (by decide)) (rd_eqP k2 k2)) (congrArg V.bl (SeqAt.eqv_refl_plain _ (okP_two k2).1))) fun H5 e5 => q H5
end
end Vf
end
section
set_option Elab.async false
set_option linter.all false
set_option maxRecDepth 100000
set_option maxHeartbeats 16000000
namespace Vf
open PySem PySem.Spec PyProof.Rows L2 Evl
/-! ### what the top has written -/
theorem all_mk {l : PySem.W.OpenLaw} {w : World} {K : PySem.W.Frag} {h : Heap} {mg : Str → Option Value} {fa : Addr} {tg : Tok} (X : K.In h) (G : h.Ns mainGlobals mg) (hfa : mg "law" = some (.ref fa))
    {f0 f1 f2 f3 f4 f5 f6 f7 f8 f9 f10 f11 f12 f13 f14 f15 f16 f17 f18 f19 f20 f21 f22 f23 f24 f25 f26 f27 f28 f29 f30 f31 f32 f33 f34 f35 f36 : Addr} {od0 an0 od1 an1 od2 an2 od3 an3 od4 an4 od5 an5 od6 an6 od7 an7 od8 an8 od9 an9 od10 an10 od11 an11 od12 an12 od13 an13 od14 an14 od15 an15 od16 an16 od17 an17 od18 an18 od19 an19 od20 an20 od21 an21 od22 an22 od23 an23 od24 an24 od25 an25 od26 an26 od27 an27 od28 an28 od29 an29 od30 an30 od31 an31 od32 an32 od33 an33 od34 an34 od35 an35 od36 an36 : Option Addr} {sl0 sl1 sl2 sl3 sl4 sl5 sl6 sl7 sl8 sl9 sl10 sl11 sl12 sl13 sl14 sl15 sl16 sl17 sl18 sl19 sl20 sl21 sl22 sl23 sl24 sl25 sl26 sl27 sl28 sl29 sl30 sl31 sl32 sl33 sl34 sl35 sl36 : Array (Option Value)} {oc0 kV0 dc0 pm0 cd0 ct0 oc1 kV1 dc1 pm1 cd1 ct1 oc2 kV2 dc2 pm2 cd2 ct2 oc3 kV3 dc3 pm3 cd3 ct3 oc4 kV4 dc4 pm4 cd4 ct4 oc5 kV5 dc5 pm5 cd5 ct5 oc6 kV6 dc6 pm6 cd6 ct6 oc7 kV7 dc7 pm7 cd7 ct7 oc8 kV8 dc8 pm8 cd8 ct8 oc9 kV9 dc9 pm9 cd9 ct9 oc10 kV10 dc10 pm10 cd10 ct10 oc11 kV11 dc11 pm11 cd11 ct11 oc12 kV12 dc12 pm12 cd12 ct12 oc13 kV13 dc13 pm13 cd13 ct13 oc14 kV14 dc14 pm14 cd14 ct14 oc15 kV15 dc15 pm15 cd15 ct15 oc16 kV16 dc16 pm16 cd16 ct16 oc17 kV17 dc17 pm17 cd17 ct17 oc18 kV18 dc18 pm18 cd18 ct18 oc19 kV19 dc19 pm19 cd19 ct19 oc20 kV20 dc20 pm20 cd20 ct20 oc21 kV21 dc21 pm21 cd21 ct21 oc22 kV22 dc22 pm22 cd22 ct22 oc23 kV23 dc23 pm23 cd23 ct23 oc24 kV24 dc24 pm24 cd24 ct24 oc25 kV25 dc25 pm25 cd25 ct25 oc26 kV26 dc26 pm26 cd26 ct26 oc27 kV27 dc27 pm27 cd27 ct27 oc28 kV28 dc28 pm28 cd28 ct28 oc29 kV29 dc29 pm29 cd29 ct29 oc30 kV30 dc30 pm30 cd30 ct30 oc31 kV31 dc31 pm31 cd31 ct31 oc32 kV32 dc32 pm32 cd32 ct32 oc33 kV33 dc33 pm33 cd33 ct33 oc34 kV34 dc34 pm34 cd34 ct34 oc35 kV35 dc35 pm35 cd35 ct35 oc36 kV36 dc36 pm36 cd36 ct36 : Value}
    {c_Design : Addr}
    {prop_Design : Addr} {prest_Design : List Value} {fo_add fo_sub fo_and : Option Value}
    (aGO : PySem.W.nsIn K mainGlobals "GO" = some (some (.str "go" tg)))
    (lvg_Design : PySem.W.nsIn K mainGlobals "Design" = some (some (.ref c_Design)))
    (lvpg_Design : PySem.W.plainGet K c_Design Str.empty = true)
    (lvhd_Design : PySem.W.hasDictIn K c_Design = true)
    (lvpo_Design : PySem.W.plainOver K c_Design = true)
    (lvsa_Design : PySem.W.findIn K (.ref c_Design) "__setattr__" = some (some (.builtin "object.__setattr__")))
    (lvn1_Design : PySem.W.findIn K (.ref c_Design) "_plan" = some none)
    (lvha_Design : PySem.W.findIn K (.ref c_Design) "__class__" = some (some (.builtin "object.__class__")))
    (lvhn_Design : PySem.W.specialIn K (.builtin "object.__class__") "__get__" = some (some (.builtin "getset_descriptor.__get__")))
    (lvtk_Design : PySem.W.takesIn K (.builtin "object.__class__") = some true)
    (lvmr_Design : PySem.W.mroIn K c_Design (.type "object") = some true)
    (lvmk_Design : PySem.W.makesIn K c_Design = true)
    (lvkp_Design : PySem.W.keepIn K (.ref c_Design) = true)
    (lvpa_Design : PySem.W.findIn K (.ref c_Design) "plan" = some (some (.ref prop_Design)))
    (lvpb_Design : PySem.W.specialIn K (.ref prop_Design) "__get__" = some (some (.builtin "property.__get__")))
    (lvpc_Design : PySem.W.takesIn K (.ref prop_Design) = some true)
    (lvfi_Design : PySem.W.selfFirst K c_Design = true)
    (lvmo_Design : (PySem.W.clsIn K c_Design).map (fun cd => cd.mro) = some [(.ref c_Design), .type "object"])
    (lvuadd_Design : PySem.W.findIn K (.type "tuple") (PySem.dunder "add") = some fo_add)
    (lvvadd_Design : (fo_add.isSome && !isSeqSlot fo_add) = false)
    (lvwadd_Design : PySem.W.findIn K (.type "tuple") (dunderR "add") = some none)
    (lvxadd_Design : PySem.W.findIn K (.ref c_Design) (dunderI "add") = some none)
    (lvyadd_Design : PySem.W.findIn K (.type "object") (dunderI "add") = some none)
    (lvusub_Design : PySem.W.findIn K (.type "tuple") (PySem.dunder "sub") = some fo_sub)
    (lvvsub_Design : (fo_sub.isSome && !isSeqSlot fo_sub) = false)
    (lvwsub_Design : PySem.W.findIn K (.type "tuple") (dunderR "sub") = some none)
    (lvxsub_Design : PySem.W.findIn K (.ref c_Design) (dunderI "sub") = some none)
    (lvysub_Design : PySem.W.findIn K (.type "object") (dunderI "sub") = some none)
    (lvuand_Design : PySem.W.findIn K (.type "tuple") (PySem.dunder "and") = some fo_and)
    (lvvand_Design : (fo_and.isSome && !isSeqSlot fo_and) = false)
    (lvwand_Design : PySem.W.findIn K (.type "tuple") (dunderR "and") = some none)
    (lvxand_Design : PySem.W.findIn K (.ref c_Design) (dunderI "and") = some none)
    (lvyand_Design : PySem.W.findIn K (.type "object") (dunderI "and") = some none)
    (zlen : PySem.W.nsIn K mainGlobals "len" = some none)
    (zisinstance : PySem.W.nsIn K mainGlobals "isinstance" = some none)
    (zall : PySem.W.nsIn K mainGlobals "all" = some none)
    (zrange : PySem.W.nsIn K mainGlobals "range" = some none)
    (zzip : PySem.W.nsIn K mainGlobals "zip" = some none)
    (zint : PySem.W.nsIn K mainGlobals "int" = some none)
    (zbool : PySem.W.nsIn K mainGlobals "bool" = some none)
    (zstr : PySem.W.nsIn K mainGlobals "str" = some none)
    (ztuple : PySem.W.nsIn K mainGlobals "tuple" = some none)
    (zlist : PySem.W.nsIn K mainGlobals "list" = some none)
    (zabs : PySem.W.nsIn K mainGlobals "abs" = some none)
    (zmax : PySem.W.nsIn K mainGlobals "max" = some none)
    (zmin : PySem.W.nsIn K mainGlobals "min" = some none)
    (zsorted : PySem.W.nsIn K mainGlobals "sorted" = some none)
    (zdict : PySem.W.nsIn K mainGlobals "dict" = some none)
    (zreversed : PySem.W.nsIn K mainGlobals "reversed" = some none)
    (zenumerate : PySem.W.nsIn K mainGlobals "enumerate" = some none)
    (zsum : PySem.W.nsIn K mainGlobals "sum" = some none)
    (a0 : PySem.W.nsIn K mainGlobals "is_integer" = some (some (.ref f0))) (l0 : K.lookup f0 = some ⟨oc0, od0, .func (PySem.W.fnOf "is_integer" "is_integer" (defArgs s_is_integer) (defBody s_is_integer) (defScope s_is_integer) .none kV0 dc0 pm0 an0 cd0 ct0), sl0⟩) (c0 : PySem.W.codeIn K cd0 "is_integer" = true) (k0 : PySem.W.keepIn K (.ref f0) = true)
    (a1 : PySem.W.nsIn K mainGlobals "is_moment" = some (some (.ref f1))) (l1 : K.lookup f1 = some ⟨oc1, od1, .func (PySem.W.fnOf "is_moment" "is_moment" (defArgs s_is_moment) (defBody s_is_moment) (defScope s_is_moment) .none kV1 dc1 pm1 an1 cd1 ct1), sl1⟩) (c1 : PySem.W.codeIn K cd1 "is_moment" = true) (k1 : PySem.W.keepIn K (.ref f1) = true)
    (a2 : PySem.W.nsIn K mainGlobals "is_place" = some (some (.ref f2))) (l2 : K.lookup f2 = some ⟨oc2, od2, .func (PySem.W.fnOf "is_place" "is_place" (defArgs s_is_place) (defBody s_is_place) (defScope s_is_place) .none kV2 dc2 pm2 an2 cd2 ct2), sl2⟩) (c2 : PySem.W.codeIn K cd2 "is_place" = true) (k2 : PySem.W.keepIn K (.ref f2) = true)
    (a3 : PySem.W.nsIn K mainGlobals "ascends" = some (some (.ref f3))) (l3 : K.lookup f3 = some ⟨oc3, od3, .func (PySem.W.fnOf "ascends" "ascends" (defArgs s_ascends) (defBody s_ascends) (defScope s_ascends) .none kV3 dc3 pm3 an3 cd3 ct3), sl3⟩) (c3 : PySem.W.codeIn K cd3 "ascends" = true) (k3 : PySem.W.keepIn K (.ref f3) = true)
    (a4 : PySem.W.nsIn K mainGlobals "is_name" = some (some (.ref f4))) (l4 : K.lookup f4 = some ⟨oc4, od4, .func (PySem.W.fnOf "is_name" "is_name" (defArgs s_is_name) (defBody s_is_name) (defScope s_is_name) .none kV4 dc4 pm4 an4 cd4 ct4), sl4⟩) (c4 : PySem.W.codeIn K cd4 "is_name" = true) (k4 : PySem.W.keepIn K (.ref f4) = true)
    (a5 : PySem.W.nsIn K mainGlobals "are_events" = some (some (.ref f5))) (l5 : K.lookup f5 = some ⟨oc5, od5, .func (PySem.W.fnOf "are_events" "are_events" (defArgs s_are_events) (defBody s_are_events) (defScope s_are_events) .none kV5 dc5 pm5 an5 cd5 ct5), sl5⟩) (c5 : PySem.W.codeIn K cd5 "are_events" = true) (k5 : PySem.W.keepIn K (.ref f5) = true)
    (a6 : PySem.W.nsIn K mainGlobals "is_pair" = some (some (.ref f6))) (l6 : K.lookup f6 = some ⟨oc6, od6, .func (PySem.W.fnOf "is_pair" "is_pair" (defArgs s_is_pair) (defBody s_is_pair) (defScope s_is_pair) .none kV6 dc6 pm6 an6 cd6 ct6), sl6⟩) (c6 : PySem.W.codeIn K cd6 "is_pair" = true) (k6 : PySem.W.keepIn K (.ref f6) = true)
    (a7 : PySem.W.nsIn K mainGlobals "is_bound" = some (some (.ref f7))) (l7 : K.lookup f7 = some ⟨oc7, od7, .func (PySem.W.fnOf "is_bound" "is_bound" (defArgs s_is_bound) (defBody s_is_bound) (defScope s_is_bound) .none kV7 dc7 pm7 an7 cd7 ct7), sl7⟩) (c7 : PySem.W.codeIn K cd7 "is_bound" = true) (k7 : PySem.W.keepIn K (.ref f7) = true)
    (a8 : PySem.W.nsIn K mainGlobals "are_bounds" = some (some (.ref f8))) (l8 : K.lookup f8 = some ⟨oc8, od8, .func (PySem.W.fnOf "are_bounds" "are_bounds" (defArgs s_are_bounds) (defBody s_are_bounds) (defScope s_are_bounds) .none kV8 dc8 pm8 an8 cd8 ct8), sl8⟩) (c8 : PySem.W.codeIn K cd8 "are_bounds" = true) (k8 : PySem.W.keepIn K (.ref f8) = true)
    (a9 : PySem.W.nsIn K mainGlobals "is_rooted" = some (some (.ref f9))) (l9 : K.lookup f9 = some ⟨oc9, od9, .func (PySem.W.fnOf "is_rooted" "is_rooted" (defArgs s_is_rooted) (defBody s_is_rooted) (defScope s_is_rooted) .none kV9 dc9 pm9 an9 cd9 ct9), sl9⟩) (c9 : PySem.W.codeIn K cd9 "is_rooted" = true) (k9 : PySem.W.keepIn K (.ref f9) = true)
    (a10 : PySem.W.nsIn K mainGlobals "is_task" = some (some (.ref f10))) (l10 : K.lookup f10 = some ⟨oc10, od10, .func (PySem.W.fnOf "is_task" "is_task" (defArgs s_is_task) (defBody s_is_task) (defScope s_is_task) .none kV10 dc10 pm10 an10 cd10 ct10), sl10⟩) (c10 : PySem.W.codeIn K cd10 "is_task" = true) (k10 : PySem.W.keepIn K (.ref f10) = true)
    (a11 : PySem.W.nsIn K mainGlobals "are_tasks" = some (some (.ref f11))) (l11 : K.lookup f11 = some ⟨oc11, od11, .func (PySem.W.fnOf "are_tasks" "are_tasks" (defArgs s_are_tasks) (defBody s_are_tasks) (defScope s_are_tasks) .none kV11 dc11 pm11 an11 cd11 ct11), sl11⟩) (c11 : PySem.W.codeIn K cd11 "are_tasks" = true) (k11 : PySem.W.keepIn K (.ref f11) = true)
    (a12 : PySem.W.nsIn K mainGlobals "is_plan" = some (some (.ref f12))) (l12 : K.lookup f12 = some ⟨oc12, od12, .func (PySem.W.fnOf "is_plan" "is_plan" (defArgs s_is_plan) (defBody s_is_plan) (defScope s_is_plan) .none kV12 dc12 pm12 an12 cd12 ct12), sl12⟩) (c12 : PySem.W.codeIn K cd12 "is_plan" = true) (k12 : PySem.W.keepIn K (.ref f12) = true)
    (a13 : PySem.W.nsIn K mainGlobals "require_plan" = some (some (.ref f13))) (l13 : K.lookup f13 = some ⟨oc13, od13, .func (PySem.W.fnOf "require_plan" "require_plan" (defArgs s_require_plan) (defBody s_require_plan) (defScope s_require_plan) .none kV13 dc13 pm13 an13 cd13 ct13), sl13⟩) (c13 : PySem.W.codeIn K cd13 "require_plan" = true) (k13 : PySem.W.keepIn K (.ref f13) = true)
    (a14 : PySem.W.nsIn K mainGlobals "_law_dip" = some (some (.ref f14))) (l14 : K.lookup f14 = some ⟨oc14, od14, .func (PySem.W.fnOf "_law_dip" "_law_dip" (defArgs s_law_dip) (defBody s_law_dip) (defScope s_law_dip) .none kV14 dc14 pm14 an14 cd14 ct14), sl14⟩) (c14 : PySem.W.codeIn K cd14 "_law_dip" = true) (k14 : PySem.W.keepIn K (.ref f14) = true)
    (a15 : PySem.W.nsIn K mainGlobals "_law_sack" = some (some (.ref f15))) (l15 : K.lookup f15 = some ⟨oc15, od15, .func (PySem.W.fnOf "_law_sack" "_law_sack" (defArgs s_law_sack) (defBody s_law_sack) (defScope s_law_sack) .none kV15 dc15 pm15 an15 cd15 ct15), sl15⟩) (c15 : PySem.W.codeIn K cd15 "_law_sack" = true) (k15 : PySem.W.keepIn K (.ref f15) = true)
    (a16 : PySem.W.nsIn K mainGlobals "_law_jobs" = some (some (.ref f16))) (l16 : K.lookup f16 = some ⟨oc16, od16, .func (PySem.W.fnOf "_law_jobs" "_law_jobs" (defArgs s_law_jobs) (defBody s_law_jobs) (defScope s_law_jobs) .none kV16 dc16 pm16 an16 cd16 ct16), sl16⟩) (c16 : PySem.W.codeIn K cd16 "_law_jobs" = true) (k16 : PySem.W.keepIn K (.ref f16) = true)
    (a17 : PySem.W.nsIn K mainGlobals "_law_names" = some (some (.ref f17))) (l17 : K.lookup f17 = some ⟨oc17, od17, .func (PySem.W.fnOf "_law_names" "_law_names" (defArgs s_law_names) (defBody s_law_names) (defScope s_law_names) .none kV17 dc17 pm17 an17 cd17 ct17), sl17⟩) (c17 : PySem.W.codeIn K cd17 "_law_names" = true) (k17 : PySem.W.keepIn K (.ref f17) = true)
    (a18 : PySem.W.nsIn K mainGlobals "_law_limits" = some (some (.ref f18))) (l18 : K.lookup f18 = some ⟨oc18, od18, .func (PySem.W.fnOf "_law_limits" "_law_limits" (defArgs s_law_limits) (defBody s_law_limits) (defScope s_law_limits) .none kV18 dc18 pm18 an18 cd18 ct18), sl18⟩) (c18 : PySem.W.codeIn K cd18 "_law_limits" = true) (k18 : PySem.W.keepIn K (.ref f18) = true)
    (a19 : PySem.W.nsIn K mainGlobals "_law_twin" = some (some (.ref f19))) (l19 : K.lookup f19 = some ⟨oc19, od19, .func (PySem.W.fnOf "_law_twin" "_law_twin" (defArgs s_law_twin) (defBody s_law_twin) (defScope s_law_twin) .none kV19 dc19 pm19 an19 cd19 ct19), sl19⟩) (c19 : PySem.W.codeIn K cd19 "_law_twin" = true) (k19 : PySem.W.keepIn K (.ref f19) = true)
    (a20 : PySem.W.nsIn K mainGlobals "joined_bounds" = some (some (.ref f20))) (l20 : K.lookup f20 = some ⟨oc20, od20, .func (PySem.W.fnOf "joined_bounds" "joined_bounds" (defArgs s_joined_bounds) (defBody s_joined_bounds) (defScope s_joined_bounds) .none kV20 dc20 pm20 an20 cd20 ct20), sl20⟩) (c20 : PySem.W.codeIn K cd20 "joined_bounds" = true) (k20 : PySem.W.keepIn K (.ref f20) = true)
    (a21 : PySem.W.findIn K (.ref c_Design) "__init__" = some (some (.ref f21))) (l21 : K.lookup f21 = some ⟨oc21, od21, .func (PySem.W.fnOf "__init__" "Design.__init__" (defArgs s_Design_init) (defBody s_Design_init) (defScope s_Design_init) .none kV21 dc21 pm21 an21 cd21 ct21), sl21⟩) (c21 : PySem.W.codeIn K cd21 "Design.__init__" = true) (k21 : PySem.W.keepIn K (.ref f21) = true) (t21 : PySem.W.isFn K (.ref f21) = true)
    (a22 : PySem.W.recIn K prop_Design "property" = some (.ref f22 :: prest_Design)) (l22 : K.lookup f22 = some ⟨oc22, od22, .func (PySem.W.fnOf "plan" "Design.plan" (defArgs s_Design_plan) (defBody s_Design_plan) (defScope s_Design_plan) .none kV22 dc22 pm22 an22 cd22 ct22), sl22⟩) (c22 : PySem.W.codeIn K cd22 "Design.plan" = true) (k22 : PySem.W.keepIn K (.ref f22) = true) (t22 : PySem.W.isFn K (.ref f22) = true)
    (a23 : PySem.W.nsIn K mainGlobals "same_tasks" = some (some (.ref f23))) (l23 : K.lookup f23 = some ⟨oc23, od23, .func (PySem.W.fnOf "same_tasks" "same_tasks" (defArgs s_same_tasks) (defBody s_same_tasks) (defScope s_same_tasks) .none kV23 dc23 pm23 an23 cd23 ct23), sl23⟩) (c23 : PySem.W.codeIn K cd23 "same_tasks" = true) (k23 : PySem.W.keepIn K (.ref f23) = true)
    (a24 : PySem.W.nsIn K mainGlobals "joined_plan" = some (some (.ref f24))) (l24 : K.lookup f24 = some ⟨oc24, od24, .func (PySem.W.fnOf "joined_plan" "joined_plan" (defArgs s_joined_plan) (defBody s_joined_plan) (defScope s_joined_plan) .none kV24 dc24 pm24 an24 cd24 ct24), sl24⟩) (c24 : PySem.W.codeIn K cd24 "joined_plan" = true) (k24 : PySem.W.keepIn K (.ref f24) = true)
    (a25 : PySem.W.findIn K (.ref c_Design) (PySem.dunder "add") = some (some (.ref f25))) (l25 : K.lookup f25 = some ⟨oc25, od25, .func (PySem.W.fnOf "__add__" "Design.__add__" (defArgs s_Design_add) (defBody s_Design_add) (defScope s_Design_add) .none kV25 dc25 pm25 an25 cd25 ct25), sl25⟩) (c25 : PySem.W.codeIn K cd25 "Design.__add__" = true) (k25 : PySem.W.keepIn K (.ref f25) = true) (t25 : PySem.W.isFn K (.ref f25) = true)
    (a26 : PySem.W.findIn K (.ref c_Design) (PySem.dunder "and") = some (some (.ref f26))) (l26 : K.lookup f26 = some ⟨oc26, od26, .func (PySem.W.fnOf "__and__" "Design.__and__" (defArgs s_Design_and) (defBody s_Design_and) (defScope s_Design_and) .none kV26 dc26 pm26 an26 cd26 ct26), sl26⟩) (c26 : PySem.W.codeIn K cd26 "Design.__and__" = true) (k26 : PySem.W.keepIn K (.ref f26) = true) (t26 : PySem.W.isFn K (.ref f26) = true)
    (a27 : PySem.W.findIn K (.ref c_Design) (PySem.dunder "sub") = some (some (.ref f27))) (l27 : K.lookup f27 = some ⟨oc27, od27, .func (PySem.W.fnOf "__sub__" "Design.__sub__" (defArgs s_Design_sub) (defBody s_Design_sub) (defScope s_Design_sub) .none kV27 dc27 pm27 an27 cd27 ct27), sl27⟩) (c27 : PySem.W.codeIn K cd27 "Design.__sub__" = true) (k27 : PySem.W.keepIn K (.ref f27) = true) (t27 : PySem.W.isFn K (.ref f27) = true)
    (a28 : PySem.W.nsIn K mainGlobals "_law_with" = some (some (.ref f28))) (l28 : K.lookup f28 = some ⟨oc28, od28, .func (PySem.W.fnOf "_law_with" "_law_with" (defArgs s_law_with) (defBody s_law_with) (defScope s_law_with) .none kV28 dc28 pm28 an28 cd28 ct28), sl28⟩) (c28 : PySem.W.codeIn K cd28 "_law_with" = true) (k28 : PySem.W.keepIn K (.ref f28) = true)
    (a29 : PySem.W.nsIn K mainGlobals "_law_without" = some (some (.ref f29))) (l29 : K.lookup f29 = some ⟨oc29, od29, .func (PySem.W.fnOf "_law_without" "_law_without" (defArgs s_law_without) (defBody s_law_without) (defScope s_law_without) .none kV29 dc29 pm29 an29 cd29 ct29), sl29⟩) (c29 : PySem.W.codeIn K cd29 "_law_without" = true) (k29 : PySem.W.keepIn K (.ref f29) = true)
    (a30 : PySem.W.nsIn K mainGlobals "_law_joined" = some (some (.ref f30))) (l30 : K.lookup f30 = some ⟨oc30, od30, .func (PySem.W.fnOf "_law_joined" "_law_joined" (defArgs s_law_joined) (defBody s_law_joined) (defScope s_law_joined) .none kV30 dc30 pm30 an30 cd30 ct30), sl30⟩) (c30 : PySem.W.codeIn K cd30 "_law_joined" = true) (k30 : PySem.W.keepIn K (.ref f30) = true)
    (a31 : PySem.W.nsIn K mainGlobals "_law_limit" = some (some (.ref f31))) (l31 : K.lookup f31 = some ⟨oc31, od31, .func (PySem.W.fnOf "_law_limit" "_law_limit" (defArgs s_law_limit) (defBody s_law_limit) (defScope s_law_limit) .none kV31 dc31 pm31 an31 cd31 ct31), sl31⟩) (c31 : PySem.W.codeIn K cd31 "_law_limit" = true) (k31 : PySem.W.keepIn K (.ref f31) = true)
    (a32 : PySem.W.nsIn K mainGlobals "_law_mate_plan" = some (some (.ref f32))) (l32 : K.lookup f32 = some ⟨oc32, od32, .func (PySem.W.fnOf "_law_mate_plan" "_law_mate_plan" (defArgs s_law_mate_plan) (defBody s_law_mate_plan) (defScope s_law_mate_plan) .none kV32 dc32 pm32 an32 cd32 ct32), sl32⟩) (c32 : PySem.W.codeIn K cd32 "_law_mate_plan" = true) (k32 : PySem.W.keepIn K (.ref f32) = true)
    (a33 : PySem.W.nsIn K mainGlobals "_law_great_plan" = some (some (.ref f33))) (l33 : K.lookup f33 = some ⟨oc33, od33, .func (PySem.W.fnOf "_law_great_plan" "_law_great_plan" (defArgs s_law_great_plan) (defBody s_law_great_plan) (defScope s_law_great_plan) .none kV33 dc33 pm33 an33 cd33 ct33), sl33⟩) (c33 : PySem.W.codeIn K cd33 "_law_great_plan" = true) (k33 : PySem.W.keepIn K (.ref f33) = true)
    (a34 : PySem.W.nsIn K mainGlobals "_law_walked" = some (some (.ref f34))) (l34 : K.lookup f34 = some ⟨oc34, od34, .func (PySem.W.fnOf "_law_walked" "_law_walked" (defArgs s_law_walked) (defBody s_law_walked) (defScope s_law_walked) .none kV34 dc34 pm34 an34 cd34 ct34), sl34⟩) (c34 : PySem.W.codeIn K cd34 "_law_walked" = true) (k34 : PySem.W.keepIn K (.ref f34) = true)
    (a35 : PySem.W.nsIn K mainGlobals "_law_in_place" = some (some (.ref f35))) (l35 : K.lookup f35 = some ⟨oc35, od35, .func (PySem.W.fnOf "_law_in_place" "_law_in_place" (defArgs s_law_in_place) (defBody s_law_in_place) (defScope s_law_in_place) .none kV35 dc35 pm35 an35 cd35 ct35), sl35⟩) (c35 : PySem.W.codeIn K cd35 "_law_in_place" = true) (k35 : PySem.W.keepIn K (.ref f35) = true)
    (a36 : PySem.W.nsIn K mainGlobals "law" = some (some (.ref f36))) (l36 : K.lookup f36 = some ⟨oc36, od36, .func (PySem.W.fnOf "law" "law" (defArgs s_law) (defBody s_law) (defScope s_law) .none kV36 dc36 pm36 an36 cd36 ct36), sl36⟩) (c36 : PySem.W.codeIn K cd36 "law" = true) (k36 : PySem.W.keepIn K (.ref f36) = true) :
    ∃ fd : FuncData, (∀ (s : Shared) (v : Value), BindsTo s fd ⟨[v], []⟩ [("script", v)]) ∧ ∀ base : Heap, K.In base → base.Ns mainGlobals mg → FnOk l.prog w K mg base CX0 11 fa fd ["script"] (spLaw K) := by
  have e := hfa.symm.trans (PySem.W.mg_of X G a36)
  cases e
  have T : Txt mg tg := ⟨PySem.W.mg_of X G aGO, PySem.W.mg_none_of X G zlen, PySem.W.mg_none_of X G zisinstance, PySem.W.mg_none_of X G zall, PySem.W.mg_none_of X G zrange, PySem.W.mg_none_of X G zzip, PySem.W.mg_none_of X G zint, PySem.W.mg_none_of X G zbool, PySem.W.mg_none_of X G zstr, PySem.W.mg_none_of X G ztuple, PySem.W.mg_none_of X G zlist, PySem.W.mg_none_of X G zabs, PySem.W.mg_none_of X G zmax, PySem.W.mg_none_of X G zmin, PySem.W.mg_none_of X G zsorted, PySem.W.mg_none_of X G zdict, PySem.W.mg_none_of X G zreversed, PySem.W.mg_none_of X G zenumerate, PySem.W.mg_none_of X G zsum⟩
  refine ⟨PySem.W.fnOf "law" "law" (defArgs s_law) (defBody s_law) (defScope s_law) .none kV36 dc36 pm36 an36 cd36 ct36, fun s v => .of_eq rfl, fun base _ _ => ?_⟩
  have F := fun_mk (st := s_law) l36 c36 k36
  clear l36
  have F0 := fun_mk (st := s_is_integer) l0 c0 k0
  clear l0
  have b0 := F0.binds (ps := ["value"]) fun _ _ _ _ _ _ us hl => match us, hl with | [_], _ => rfl
  have O0 : FnOk l.prog w K mg base CX0 1 f0 _ ["value"] ((D1 K any isInt)) := ok_is_integer F0 T
  have C0 : Cal l.prog w K mg base 1 "is_integer" ["value"] ((D1 K any isInt)) := ⟨⟨_, _, O0, PySem.W.mg_of X G a0, k0, b0⟩⟩
  have F1 := fun_mk (st := s_is_moment) l1 c1 k1
  clear l1
  have b1 := F1.binds (ps := ["value"]) fun _ _ _ _ _ _ us hl => match us, hl with | [_], _ => rfl
  have O1 : FnOk l.prog w K mg base CX0 2 f1 _ ["value"] ((D1 K any isMom)) := ok_is_moment F1 T C0
  have C1 : Cal l.prog w K mg base 2 "is_moment" ["value"] ((D1 K any isMom)) := ⟨⟨_, _, O1, PySem.W.mg_of X G a1, k1, b1⟩⟩
  have F2 := fun_mk (st := s_is_place) l2 c2 k2
  clear l2
  have b2 := F2.binds (ps := ["events", "value"]) fun _ _ _ _ _ _ us hl => match us, hl with | [_, _], _ => rfl
  have O2 : FnOk l.prog w K mg base CX0 1 f2 _ ["events", "value"] ((D2 K any2 isPlace)) := ok_is_place F2 T
  have C2 : Cal l.prog w K mg base 1 "is_place" ["events", "value"] ((D2 K any2 isPlace)) := ⟨⟨_, _, O2, PySem.W.mg_of X G a2, k2, b2⟩⟩
  have F3 := fun_mk (st := s_ascends) l3 c3 k3
  clear l3
  have b3 := F3.binds (ps := ["rows"]) fun _ _ _ _ _ _ us hl => match us, hl with | [_], _ => rfl
  have O3 : FnOk l.prog w K mg base CX0 1 f3 _ ["rows"] ((spAsc K)) := ok_ascends F3 T
  have C3 : Cal l.prog w K mg base 1 "ascends" ["rows"] ((spAsc K)) := ⟨⟨_, _, O3, PySem.W.mg_of X G a3, k3, b3⟩⟩
  have F4 := fun_mk (st := s_is_name) l4 c4 k4
  clear l4
  have b4 := F4.binds (ps := ["value"]) fun _ _ _ _ _ _ us hl => match us, hl with | [_], _ => rfl
  have O4 : FnOk l.prog w K mg base CX0 1 f4 _ ["value"] ((D1 K nmOk isName)) := ok_is_name F4 T
  have C4 : Cal l.prog w K mg base 1 "is_name" ["value"] ((D1 K nmOk isName)) := ⟨⟨_, _, O4, PySem.W.mg_of X G a4, k4, b4⟩⟩
  have F5 := fun_mk (st := s_are_events) l5 c5 k5
  clear l5
  have b5 := F5.binds (ps := ["value"]) fun _ _ _ _ _ _ us hl => match us, hl with | [_], _ => rfl
  have O5 : FnOk l.prog w K mg base CX0 2 f5 _ ["value"] ((D1 K evOk isEvents)) := ok_are_events F5 T C4 C3
  have C5 : Cal l.prog w K mg base 2 "are_events" ["value"] ((D1 K evOk isEvents)) := ⟨⟨_, _, O5, PySem.W.mg_of X G a5, k5, b5⟩⟩
  have F6 := fun_mk (st := s_is_pair) l6 c6 k6
  clear l6
  have b6 := F6.binds (ps := ["events", "value"]) fun _ _ _ _ _ _ us hl => match us, hl with | [_, _], _ => rfl
  have O6 : FnOk l.prog w K mg base CX0 2 f6 _ ["events", "value"] ((D2 K any2 isPair)) := ok_is_pair F6 T C2
  have C6 : Cal l.prog w K mg base 2 "is_pair" ["events", "value"] ((D2 K any2 isPair)) := ⟨⟨_, _, O6, PySem.W.mg_of X G a6, k6, b6⟩⟩
  have F7 := fun_mk (st := s_is_bound) l7 c7 k7
  clear l7
  have b7 := F7.binds (ps := ["events", "value"]) fun _ _ _ _ _ _ us hl => match us, hl with | [_, _], _ => rfl
  have O7 : FnOk l.prog w K mg base CX0 3 f7 _ ["events", "value"] ((D2 K any2 isBound)) := ok_is_bound F7 T C6 C0
  have C7 : Cal l.prog w K mg base 3 "is_bound" ["events", "value"] ((D2 K any2 isBound)) := ⟨⟨_, _, O7, PySem.W.mg_of X G a7, k7, b7⟩⟩
  have F8 := fun_mk (st := s_are_bounds) l8 c8 k8
  clear l8
  have b8 := F8.binds (ps := ["events", "value"]) fun _ _ _ _ _ _ us hl => match us, hl with | [_, _], _ => rfl
  have O8 : FnOk l.prog w K mg base CX0 4 f8 _ ["events", "value"] ((D2 K seqOk areBounds)) := ok_are_bounds F8 T C7 C3
  have C8 : Cal l.prog w K mg base 4 "are_bounds" ["events", "value"] ((D2 K seqOk areBounds)) := ⟨⟨_, _, O8, PySem.W.mg_of X G a8, k8, b8⟩⟩
  have F9 := fun_mk (st := s_is_rooted) l9 c9 k9
  clear l9
  have b9 := F9.binds (ps := ["begins"]) fun _ _ _ _ _ _ us hl => match us, hl with | [_], _ => rfl
  have O9 : FnOk l.prog w K mg base CX0 1 f9 _ ["begins"] (spRoot) := ok_is_rooted F9 T
  have C9 : Cal l.prog w K mg base 1 "is_rooted" ["begins"] (spRoot) := ⟨⟨_, _, O9, PySem.W.mg_of X G a9, k9, b9⟩⟩
  have F10 := fun_mk (st := s_is_task) l10 c10 k10
  clear l10
  have b10 := F10.binds (ps := ["events", "value"]) fun _ _ _ _ _ _ us hl => match us, hl with | [_, _], _ => rfl
  have O10 : FnOk l.prog w K mg base CX0 2 f10 _ ["events", "value"] ((D2 K any2 isTask)) := ok_is_task F10 T C0
  have C10 : Cal l.prog w K mg base 2 "is_task" ["events", "value"] ((D2 K any2 isTask)) := ⟨⟨_, _, O10, PySem.W.mg_of X G a10, k10, b10⟩⟩
  have F11 := fun_mk (st := s_are_tasks) l11 c11 k11
  clear l11
  have b11 := F11.binds (ps := ["events", "value"]) fun _ _ _ _ _ _ us hl => match us, hl with | [_, _], _ => rfl
  have O11 : FnOk l.prog w K mg base CX0 3 f11 _ ["events", "value"] ((D2 K seqOk areTasks)) := ok_are_tasks F11 T C10 C3 C9
  have C11 : Cal l.prog w K mg base 3 "are_tasks" ["events", "value"] ((D2 K seqOk areTasks)) := ⟨⟨_, _, O11, PySem.W.mg_of X G a11, k11, b11⟩⟩
  have F12 := fun_mk (st := s_is_plan) l12 c12 k12
  clear l12
  have b12 := F12.binds (ps := ["value"]) fun _ _ _ _ _ _ us hl => match us, hl with | [_], _ => rfl
  have O12 : FnOk l.prog w K mg base CX0 5 f12 _ ["value"] ((D1 K plOk isPlan)) := ok_is_plan F12 T C1 C5 C8 C11
  have C12 : Cal l.prog w K mg base 5 "is_plan" ["value"] ((D1 K plOk isPlan)) := ⟨⟨_, _, O12, PySem.W.mg_of X G a12, k12, b12⟩⟩
  have F13 := fun_mk (st := s_require_plan) l13 c13 k13
  clear l13
  have b13 := F13.binds (ps := ["plan"]) fun _ _ _ _ _ _ us hl => match us, hl with | [_], _ => rfl
  have O13 : FnOk l.prog w K mg base CX0 6 f13 _ ["plan"] ((spReq K)) := ok_require_plan F13 T C12
  have C13 : Cal l.prog w K mg base 6 "require_plan" ["plan"] ((spReq K)) := ⟨⟨_, _, O13, PySem.W.mg_of X G a13, k13, b13⟩⟩
  have F14 := fun_mk (st := s_law_dip) l14 c14 k14
  clear l14
  have b14 := F14.binds (ps := ["sack", "below"]) fun _ _ _ _ _ _ us hl => match us, hl with | [_, _], _ => rfl
  have O14 : FnOk l.prog w K mg base CX0 1 f14 _ ["sack", "below"] (spDip) := ok_law_dip F14 T
  have C14 : Cal l.prog w K mg base 1 "_law_dip" ["sack", "below"] (spDip) := ⟨⟨_, _, O14, PySem.W.mg_of X G a14, k14, b14⟩⟩
  have F15 := fun_mk (st := s_law_sack) l15 c15 k15
  clear l15
  have b15 := F15.binds (ps := ["script", "at"]) fun _ _ _ _ _ _ us hl => match us, hl with | [_, _], _ => rfl
  have O15 : FnOk l.prog w K mg base CX0 1 f15 _ ["script", "at"] ((spSack K)) := ok_law_sack F15 T
  have C15 : Cal l.prog w K mg base 1 "_law_sack" ["script", "at"] ((spSack K)) := ⟨⟨_, _, O15, PySem.W.mg_of X G a15, k15, b15⟩⟩
  have F16 := fun_mk (st := s_law_jobs) l16 c16 k16
  clear l16
  have b16 := F16.binds (ps := ["sack", "points", "many_here", "great"]) fun _ _ _ _ _ _ us hl => match us, hl with | [_, _, _, _], _ => rfl
  have O16 : FnOk l.prog w K mg base CX0 2 f16 _ ["sack", "points", "many_here", "great"] ((spJobs K)) := ok_law_jobs F16 T C14
  have C16 : Cal l.prog w K mg base 2 "_law_jobs" ["sack", "points", "many_here", "great"] ((spJobs K)) := ⟨⟨_, _, O16, PySem.W.mg_of X G a16, k16, b16⟩⟩
  have F17 := fun_mk (st := s_law_names) l17 c17 k17
  clear l17
  have b17 := F17.binds (ps := ["sack", "many_here"]) fun _ _ _ _ _ _ us hl => match us, hl with | [_, _], _ => rfl
  have O17 : FnOk l.prog w K mg base CX0 2 f17 _ ["sack", "many_here"] ((spNames K)) := ok_law_names F17 T C14
  have C17 : Cal l.prog w K mg base 2 "_law_names" ["sack", "many_here"] ((spNames K)) := ⟨⟨_, _, O17, PySem.W.mg_of X G a17, k17, b17⟩⟩
  have F18 := fun_mk (st := s_law_limits) l18 c18 k18
  clear l18
  have b18 := F18.binds (ps := ["sack", "points", "many_here", "great"]) fun _ _ _ _ _ _ us hl => match us, hl with | [_, _, _, _], _ => rfl
  have O18 : FnOk l.prog w K mg base CX0 2 f18 _ ["sack", "points", "many_here", "great"] ((spLimits K)) := ok_law_limits F18 T C14
  have C18 : Cal l.prog w K mg base 2 "_law_limits" ["sack", "points", "many_here", "great"] ((spLimits K)) := ⟨⟨_, _, O18, PySem.W.mg_of X G a18, k18, b18⟩⟩
  have F19 := fun_mk (st := s_law_twin) l19 c19 k19
  clear l19
  have b19 := F19.binds (ps := ["found", "due"]) fun _ _ _ _ _ _ us hl => match us, hl with | [_, _], _ => rfl
  have C19 : Cal l.prog w K mg base 4 "_law_twin" ["found", "due"] (spTwin K 4) := ⟨⟨_, _, ok_law_twin F19 T (PySem.W.mg_of X G a19) b19 4, PySem.W.mg_of X G a19, k19, b19⟩⟩
  have F20 := fun_mk (st := s_joined_bounds) l20 c20 k20
  clear l20
  have b20 := F20.binds (ps := ["bounds", "further"]) fun _ _ _ _ _ _ us hl => match us, hl with | [_, _], _ => rfl
  have O20 : FnOk l.prog w K mg base CX0 1 f20 _ ["bounds", "further"] ((spJoinB K)) := ok_joined_bounds F20 T
  have C20 : Cal l.prog w K mg base 1 "joined_bounds" ["bounds", "further"] ((spJoinB K)) := ⟨⟨_, _, O20, PySem.W.mg_of X G a20, k20, b20⟩⟩
  have F21 := fun_mk (st := s_Design_init) l21 c21 k21
  clear l21
  have b21 := F21.binds (ps := ["self", "plan"]) fun _ _ _ _ _ _ us hl => match us, hl with | [_, _], _ => rfl
  have O21 : FnOk l.prog w K mg base CX0 7 f21 _ ["self", "plan"] ((spInitD K)) := ok_Design_init F21 T C13
  have DB_Design : DsB l.prog w K mg base 7 c_Design := ⟨⟨⟨lvpg_Design, lvhd_Design, lvpo_Design, lvsa_Design⟩, lvn1_Design, lvha_Design, lvhn_Design, lvtk_Design, lvmr_Design⟩, PySem.W.mg_of X G lvg_Design, ⟨f21, _, ⟨lvmk_Design, a21, t21, lvkp_Design⟩, O21, b21⟩⟩
  have F22 := fun_mk (st := s_Design_plan) l22 c22 k22
  clear l22
  have b22 := F22.binds (ps := ["self"]) fun _ _ _ _ _ _ us hl => match us, hl with | [_], _ => rfl
  have O22 : FnOk l.prog w K mg base CX0 1 f22 _ ["self"] ((spGetP K)) := ok_Design_plan F22 T
  have F23 := fun_mk (st := s_same_tasks) l23 c23 k23
  clear l23
  have b23 := F23.binds (ps := ["one", "other"]) fun _ _ _ _ _ _ us hl => match us, hl with | [_, _], _ => rfl
  have O23 : FnOk l.prog w K mg base CX0 1 f23 _ ["one", "other"] ((spSame K)) := ok_same_tasks F23 T
  have C23 : Cal l.prog w K mg base 1 "same_tasks" ["one", "other"] ((spSame K)) := ⟨⟨_, _, O23, PySem.W.mg_of X G a23, k23, b23⟩⟩
  have F24 := fun_mk (st := s_joined_plan) l24 c24 k24
  clear l24
  have b24 := F24.binds (ps := ["one", "other"]) fun _ _ _ _ _ _ us hl => match us, hl with | [_, _], _ => rfl
  have O24 : FnOk l.prog w K mg base CX0 2 f24 _ ["one", "other"] ((spJoinP K)) := ok_joined_plan F24 T C23 C20
  have C24 : Cal l.prog w K mg base 2 "joined_plan" ["one", "other"] ((spJoinP K)) := ⟨⟨_, _, O24, PySem.W.mg_of X G a24, k24, b24⟩⟩
  have F25 := fun_mk (st := s_Design_add) l25 c25 k25
  clear l25
  have b25 := F25.binds (ps := ["self", "other"]) fun _ _ _ _ _ _ us hl => match us, hl with | [_, _], _ => rfl
  have O25 : FnOk l.prog w K mg base CX0 9 f25 _ ["self", "other"] ((spAddD K c_Design)) := ok_Design_add F25 T DB_Design C7 C20
  have F26 := fun_mk (st := s_Design_and) l26 c26 k26
  clear l26
  have b26 := F26.binds (ps := ["self", "other"]) fun _ _ _ _ _ _ us hl => match us, hl with | [_, _], _ => rfl
  have O26 : FnOk l.prog w K mg base CX0 9 f26 _ ["self", "other"] ((spAndD K c_Design)) := ok_Design_and F26 T DB_Design C24
  have F27 := fun_mk (st := s_Design_sub) l27 c27 k27
  clear l27
  have b27 := F27.binds (ps := ["self", "other"]) fun _ _ _ _ _ _ us hl => match us, hl with | [_, _], _ => rfl
  have O27 : FnOk l.prog w K mg base CX0 9 f27 _ ["self", "other"] ((spSubD K c_Design)) := ok_Design_sub F27 T DB_Design C6
  have F28 := fun_mk (st := s_law_with) l28 c28 k28
  clear l28
  have b28 := F28.binds (ps := ["plan_here", "limit_here"]) fun _ _ _ _ _ _ us hl => match us, hl with | [_, _], _ => rfl
  have O28 : FnOk l.prog w K mg base CX0 1 f28 _ ["plan_here", "limit_here"] ((spWithL K)) := ok_law_with F28 T
  have C28 : Cal l.prog w K mg base 1 "_law_with" ["plan_here", "limit_here"] ((spWithL K)) := ⟨⟨_, _, O28, PySem.W.mg_of X G a28, k28, b28⟩⟩
  have F29 := fun_mk (st := s_law_without) l29 c29 k29
  clear l29
  have b29 := F29.binds (ps := ["plan_here", "pair"]) fun _ _ _ _ _ _ us hl => match us, hl with | [_, _], _ => rfl
  have O29 : FnOk l.prog w K mg base CX0 1 f29 _ ["plan_here", "pair"] ((spWithoutL K)) := ok_law_without F29 T
  have C29 : Cal l.prog w K mg base 1 "_law_without" ["plan_here", "pair"] ((spWithoutL K)) := ⟨⟨_, _, O29, PySem.W.mg_of X G a29, k29, b29⟩⟩
  have F30 := fun_mk (st := s_law_joined) l30 c30 k30
  clear l30
  have b30 := F30.binds (ps := ["plan_here", "mate"]) fun _ _ _ _ _ _ us hl => match us, hl with | [_, _], _ => rfl
  have O30 : FnOk l.prog w K mg base CX0 2 f30 _ ["plan_here", "mate"] ((spJoinL K)) := ok_law_joined F30 T C28
  have C30 : Cal l.prog w K mg base 2 "_law_joined" ["plan_here", "mate"] ((spJoinL K)) := ⟨⟨_, _, O30, PySem.W.mg_of X G a30, k30, b30⟩⟩
  have F31 := fun_mk (st := s_law_limit) l31 c31 k31
  clear l31
  have b31 := F31.binds (ps := ["sack", "points"]) fun _ _ _ _ _ _ us hl => match us, hl with | [_, _], _ => rfl
  have O31 : FnOk l.prog w K mg base CX0 2 f31 _ ["sack", "points"] ((spLimitL K)) := ok_law_limit F31 T C14
  have C31 : Cal l.prog w K mg base 2 "_law_limit" ["sack", "points"] ((spLimitL K)) := ⟨⟨_, _, O31, PySem.W.mg_of X G a31, k31, b31⟩⟩
  have F32 := fun_mk (st := s_law_mate_plan) l32 c32 k32
  clear l32
  have b32 := F32.binds (ps := ["sack", "plan_here"]) fun _ _ _ _ _ _ us hl => match us, hl with | [_, _], _ => rfl
  have O32 : FnOk l.prog w K mg base CX0 3 f32 _ ["sack", "plan_here"] ((spMateL K)) := ok_law_mate_plan F32 T C14 C31 C28
  have C32 : Cal l.prog w K mg base 3 "_law_mate_plan" ["sack", "plan_here"] ((spMateL K)) := ⟨⟨_, _, O32, PySem.W.mg_of X G a32, k32, b32⟩⟩
  have F33 := fun_mk (st := s_law_great_plan) l33 c33 k33
  clear l33
  have b33 := F33.binds (ps := ["sack"]) fun _ _ _ _ _ _ us hl => match us, hl with | [_], _ => rfl
  have O33 : FnOk l.prog w K mg base CX0 3 f33 _ ["sack"] ((spGreatD K)) := ok_law_great_plan F33 T C14 C17 C16 C18
  have C33 : Cal l.prog w K mg base 3 "_law_great_plan" ["sack"] ((spGreatD K)) := ⟨⟨_, _, O33, PySem.W.mg_of X G a33, k33, b33⟩⟩
  have F34 := fun_mk (st := s_law_walked) l34 c34 k34
  clear l34
  have b34 := F34.binds (ps := ["sack", "made", "plan_here", "mate", "mate_plan"]) fun _ _ _ _ _ _ us hl => match us, hl with | [_, _, _, _, _], _ => rfl
  have DO_Design : DsO l.prog w K mg base c_Design := ⟨DB_Design, ⟨prop_Design, f22, _, ⟨lvpa_Design, lvpb_Design, lvpc_Design, ⟨prest_Design, a22⟩⟩, O22, b22⟩, ⟨f25, _, ⟨lvfi_Design, a25, t25, ⟨fo_add, lvuadd_Design, lvvadd_Design⟩, lvwadd_Design, Option.map_eq_some_iff.mp lvmo_Design, lvxadd_Design, lvyadd_Design⟩, O25, b25⟩, ⟨f27, _, ⟨lvfi_Design, a27, t27, ⟨fo_sub, lvusub_Design, lvvsub_Design⟩, lvwsub_Design, Option.map_eq_some_iff.mp lvmo_Design, lvxsub_Design, lvysub_Design⟩, O27, b27⟩, ⟨f26, _, ⟨lvfi_Design, a26, t26, ⟨fo_and, lvuand_Design, lvvand_Design⟩, lvwand_Design, Option.map_eq_some_iff.mp lvmo_Design, lvxand_Design, lvyand_Design⟩, O26, b26⟩⟩
  have O34 : FnOk l.prog w K mg base CX0 10 f34 _ ["sack", "made", "plan_here", "mate", "mate_plan"] ((spWalkD K c_Design)) := ok_law_walked F34 T DO_Design C14 C29 C30 C31 C28
  have C34 : Cal l.prog w K mg base 10 "_law_walked" ["sack", "made", "plan_here", "mate", "mate_plan"] ((spWalkD K c_Design)) := ⟨⟨_, _, O34, PySem.W.mg_of X G a34, k34, b34⟩⟩
  have F35 := fun_mk (st := s_law_in_place) l35 c35 k35
  clear l35
  have b35 := F35.binds (ps := ["made", "plan_here", "mate", "mate_plan"]) fun _ _ _ _ _ _ us hl => match us, hl with | [_, _, _, _], _ => rfl
  have O35 : FnOk l.prog w K mg base CX0 10 f35 _ ["made", "plan_here", "mate", "mate_plan"] ((spInPl K c_Design)) := ok_law_in_place F35 T DO_Design C29 C30 C28 C19
  have C35 : Cal l.prog w K mg base 10 "_law_in_place" ["made", "plan_here", "mate", "mate_plan"] ((spInPl K c_Design)) := ⟨⟨_, _, O35, PySem.W.mg_of X G a35, k35, b35⟩⟩
  exact ok_law F T DO_Design C15 C14 C33 C32 C34 C35 C19
end Vf
end
section
set_option Elab.async false
set_option linter.all false
set_option maxRecDepth 100000
open PySem PySem.W PyProof.Rows in
set_option maxHeartbeats 0 in
theorem PySem.Challenge.cw_startnow_k39_designs_put_together_holds : PySem.Challenge.rw_startnow_k39_designs_put_together.Holds := by
  w_on; o_law; k_head; (case hw => w_witness2)
  k_fill
  refine L2.walk_of (l := PySem.Challenge.rw_startnow_k39_designs_put_together) (n := 63) (k := 11) (x := "script") (CX := fun _ => L2.CX0) (sp := fun w => Vf.spLaw _) rfl (by decide) rfl ⟨rfl, by decide, by decide⟩ (fun w h Y => PySem.W.kIn_of Y) ?F (fun _ _ a ns hl _ hS => ⟨a, ns, rfl, hS, hl, fun _ => rfl⟩) (fun _ _ _ _ _ z => z)
  case F =>
    intro w mg fa h KX G hmg
    refine' Vf.all_mk KX G hmg ?aGO ?lvg_Design ?lvpg_Design ?lvhd_Design ?lvpo_Design ?lvsa_Design ?lvn1_Design ?lvha_Design ?lvhn_Design ?lvtk_Design ?lvmr_Design ?lvmk_Design ?lvkp_Design ?lvpa_Design ?lvpb_Design ?lvpc_Design ?lvfi_Design ?lvmo_Design ?lvuadd_Design ?lvvadd_Design ?lvwadd_Design ?lvxadd_Design ?lvyadd_Design ?lvusub_Design ?lvvsub_Design ?lvwsub_Design ?lvxsub_Design ?lvysub_Design ?lvuand_Design ?lvvand_Design ?lvwand_Design ?lvxand_Design ?lvyand_Design ?zlen ?zisinstance ?zall ?zrange ?zzip ?zint ?zbool ?zstr ?ztuple ?zlist ?zabs ?zmax ?zmin ?zsorted ?zdict ?zreversed ?zenumerate ?zsum ?a0 ?l0 ?c0 ?k0 ?a1 ?l1 ?c1 ?k1 ?a2 ?l2 ?c2 ?k2 ?a3 ?l3 ?c3 ?k3 ?a4 ?l4 ?c4 ?k4 ?a5 ?l5 ?c5 ?k5 ?a6 ?l6 ?c6 ?k6 ?a7 ?l7 ?c7 ?k7 ?a8 ?l8 ?c8 ?k8 ?a9 ?l9 ?c9 ?k9 ?a10 ?l10 ?c10 ?k10 ?a11 ?l11 ?c11 ?k11 ?a12 ?l12 ?c12 ?k12 ?a13 ?l13 ?c13 ?k13 ?a14 ?l14 ?c14 ?k14 ?a15 ?l15 ?c15 ?k15 ?a16 ?l16 ?c16 ?k16 ?a17 ?l17 ?c17 ?k17 ?a18 ?l18 ?c18 ?k18 ?a19 ?l19 ?c19 ?k19 ?a20 ?l20 ?c20 ?k20 ?a21 ?l21 ?c21 ?k21 ?t21 ?a22 ?l22 ?c22 ?k22 ?t22 ?a23 ?l23 ?c23 ?k23 ?a24 ?l24 ?c24 ?k24 ?a25 ?l25 ?c25 ?k25 ?t25 ?a26 ?l26 ?c26 ?k26 ?t26 ?a27 ?l27 ?c27 ?k27 ?t27 ?a28 ?l28 ?c28 ?k28 ?a29 ?l29 ?c29 ?k29 ?a30 ?l30 ?c30 ?k30 ?a31 ?l31 ?c31 ?k31 ?a32 ?l32 ?c32 ?k32 ?a33 ?l33 ?c33 ?k33 ?a34 ?l34 ?c34 ?k34 ?a35 ?l35 ?c35 ?k35 ?a36 ?l36 ?c36 ?k36
    (case aGO => k_is)
    (case lvg_Design => first | k_is | kernel_rfl)
    (case lvpg_Design => first | k_is | kernel_rfl)
    (case lvhd_Design => first | k_is | kernel_rfl)
    (case lvpo_Design => first | k_is | kernel_rfl)
    (case lvsa_Design => first | k_is | kernel_rfl)
    (case lvn1_Design => first | k_is | kernel_rfl)
    (case lvha_Design => first | k_is | kernel_rfl)
    (case lvhn_Design => first | k_is | kernel_rfl)
    (case lvtk_Design => first | k_is | kernel_rfl)
    (case lvmr_Design => first | k_is | kernel_rfl)
    (case lvmk_Design => first | k_is | kernel_rfl)
    (case lvkp_Design => first | k_is | kernel_rfl)
    (case lvpa_Design => first | k_is | kernel_rfl)
    (case lvpb_Design => first | k_is | kernel_rfl)
    (case lvpc_Design => first | k_is | kernel_rfl)
    (case lvfi_Design => first | k_is | kernel_rfl)
    (case lvmo_Design => first | k_is | kernel_rfl)
    (case lvuadd_Design => first | k_is | kernel_rfl)
    (case lvvadd_Design => first | k_is | kernel_rfl)
    (case lvwadd_Design => first | k_is | kernel_rfl)
    (case lvxadd_Design => first | k_is | kernel_rfl)
    (case lvyadd_Design => first | k_is | kernel_rfl)
    (case lvusub_Design => first | k_is | kernel_rfl)
    (case lvvsub_Design => first | k_is | kernel_rfl)
    (case lvwsub_Design => first | k_is | kernel_rfl)
    (case lvxsub_Design => first | k_is | kernel_rfl)
    (case lvysub_Design => first | k_is | kernel_rfl)
    (case lvuand_Design => first | k_is | kernel_rfl)
    (case lvvand_Design => first | k_is | kernel_rfl)
    (case lvwand_Design => first | k_is | kernel_rfl)
    (case lvxand_Design => first | k_is | kernel_rfl)
    (case lvyand_Design => first | k_is | kernel_rfl)
    (case zlen => k_is)
    (case zisinstance => k_is)
    (case zall => k_is)
    (case zrange => k_is)
    (case zzip => k_is)
    (case zint => k_is)
    (case zbool => k_is)
    (case zstr => k_is)
    (case ztuple => k_is)
    (case zlist => k_is)
    (case zabs => k_is)
    (case zmax => k_is)
    (case zmin => k_is)
    (case zsorted => k_is)
    (case zdict => k_is)
    (case zreversed => k_is)
    (case zenumerate => k_is)
    (case zsum => k_is)
    (case a0 => k_is)
    (case l0 => k_is)
    (case c0 => k_is)
    (case k0 => k_is)
    (case a1 => k_is)
    (case l1 => k_is)
    (case c1 => k_is)
    (case k1 => k_is)
    (case a2 => k_is)
    (case l2 => k_is)
    (case c2 => k_is)
    (case k2 => k_is)
    (case a3 => k_is)
    (case l3 => k_is)
    (case c3 => k_is)
    (case k3 => k_is)
    (case a4 => k_is)
    (case l4 => k_is)
    (case c4 => k_is)
    (case k4 => k_is)
    (case a5 => k_is)
    (case l5 => k_is)
    (case c5 => k_is)
    (case k5 => k_is)
    (case a6 => k_is)
    (case l6 => k_is)
    (case c6 => k_is)
    (case k6 => k_is)
    (case a7 => k_is)
    (case l7 => k_is)
    (case c7 => k_is)
    (case k7 => k_is)
    (case a8 => k_is)
    (case l8 => k_is)
    (case c8 => k_is)
    (case k8 => k_is)
    (case a9 => k_is)
    (case l9 => k_is)
    (case c9 => k_is)
    (case k9 => k_is)
    (case a10 => k_is)
    (case l10 => k_is)
    (case c10 => k_is)
    (case k10 => k_is)
    (case a11 => k_is)
    (case l11 => k_is)
    (case c11 => k_is)
    (case k11 => k_is)
    (case a12 => k_is)
    (case l12 => k_is)
    (case c12 => k_is)
    (case k12 => k_is)
    (case a13 => k_is)
    (case l13 => k_is)
    (case c13 => k_is)
    (case k13 => k_is)
    (case a14 => k_is)
    (case l14 => k_is)
    (case c14 => k_is)
    (case k14 => k_is)
    (case a15 => k_is)
    (case l15 => k_is)
    (case c15 => k_is)
    (case k15 => k_is)
    (case a16 => k_is)
    (case l16 => k_is)
    (case c16 => k_is)
    (case k16 => k_is)
    (case a17 => k_is)
    (case l17 => k_is)
    (case c17 => k_is)
    (case k17 => k_is)
    (case a18 => k_is)
    (case l18 => k_is)
    (case c18 => k_is)
    (case k18 => k_is)
    (case a19 => k_is)
    (case l19 => k_is)
    (case c19 => k_is)
    (case k19 => k_is)
    (case a20 => k_is)
    (case l20 => k_is)
    (case c20 => k_is)
    (case k20 => k_is)
    (case a21 => k_is)
    (case l21 => k_is)
    (case c21 => k_is)
    (case k21 => k_is)
    (case t21 => k_is)
    (case a22 => k_is)
    (case l22 => k_is)
    (case c22 => k_is)
    (case k22 => k_is)
    (case t22 => k_is)
    (case a23 => k_is)
    (case l23 => k_is)
    (case c23 => k_is)
    (case k23 => k_is)
    (case a24 => k_is)
    (case l24 => k_is)
    (case c24 => k_is)
    (case k24 => k_is)
    (case a25 => k_is)
    (case l25 => k_is)
    (case c25 => k_is)
    (case k25 => k_is)
    (case t25 => k_is)
    (case a26 => k_is)
    (case l26 => k_is)
    (case c26 => k_is)
    (case k26 => k_is)
    (case t26 => k_is)
    (case a27 => k_is)
    (case l27 => k_is)
    (case c27 => k_is)
    (case k27 => k_is)
    (case t27 => k_is)
    (case a28 => k_is)
    (case l28 => k_is)
    (case c28 => k_is)
    (case k28 => k_is)
    (case a29 => k_is)
    (case l29 => k_is)
    (case c29 => k_is)
    (case k29 => k_is)
    (case a30 => k_is)
    (case l30 => k_is)
    (case c30 => k_is)
    (case k30 => k_is)
    (case a31 => k_is)
    (case l31 => k_is)
    (case c31 => k_is)
    (case k31 => k_is)
    (case a32 => k_is)
    (case l32 => k_is)
    (case c32 => k_is)
    (case k32 => k_is)
    (case a33 => k_is)
    (case l33 => k_is)
    (case c33 => k_is)
    (case k33 => k_is)
    (case a34 => k_is)
    (case l34 => k_is)
    (case c34 => k_is)
    (case k34 => k_is)
    (case a35 => k_is)
    (case l35 => k_is)
    (case c35 => k_is)
    (case k35 => k_is)
    (case a36 => k_is)
    (case l36 => k_is)
    (case c36 => k_is)
    (case k36 => k_is)
#print axioms PySem.Challenge.cw_startnow_k39_designs_put_together_holds
end
