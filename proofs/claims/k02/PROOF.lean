import PyProof.Rows.All
import Wide.All
import OpenK.AllK
import Wide.FinOn
import KE.KStateDown
import KE.KEqSeq
import HandS.ForMost
import HandS.More
import HandS.Words
import HandS.Defaults
import HandS.Wide
import HandS.WideBits
import HandS.IsInst
import HandS.Star
import HandS.Property
import HandS.ClsMeth
import HandS.Evl
import HandS.Walk
import KE.GoesMore
import HandS.TryOnly
import HandS.Exc
import HandS.ExcValue
import KE.KExcIs
import HandS.ExcField
import HandS.ExcInit
import HandS.WordsExc
import HandS.Text
import KE.IntTextLaws
import HandS.SetBool
import HandS.SetKeys
import HandS.ExcCtx
import HandS.ExcInitHot
import HandS.RaiseFrom
import HandS.SuiteRaise
import HandS.HeadEnd
import HandS.MakeKw
import HandS.OwnEq
import PyProof.InstEq
import KE.KCallOwn
import PyProof.ReprRoads
import PyProof.ReprLen
import HandS.Dict
import HandS.Lambda
import HandS.ExcOwn
import HandS.Style
import HandS.EndTab
import HandS.Deep
import HandS.Head0
import HandS.Head1
import HandS.Head2
import HandS.HeadHook1
import HandS.HeadHook2
import HandS.HeadHook3
import HandS.HeadHook4
import HandS.NestedK
import PySem.Challenge.RW_leastcode_k02_sums
set_option Elab.async false
set_option linter.all false
set_option maxRecDepth 100000
set_option maxHeartbeats 0
/-! LcBase: heaps, calls in short, the pen. -/
namespace LC
open PySem PySem.Spec PyProof.Rows L2
/-! ### heaps: all but p is kept -/
def But (p : Addr) (H H' : Hp) : Prop := ∀ b o, b ≠ p → H b = some o → H' b = some o
theorem But.refl (p : Addr) (H : Hp) : But p H H := fun _ _ _ h => h
theorem But.trans {p : Addr} {H H1 H2 : Hp} (a : But p H H1) (b : But p H1 H2) : But p H H2 := fun c o n h => b c o n (a c o n h)
theorem But.new {p : Addr} {H : Hp} {q : Addr} {o : HO} (h : H q = none) : But p H (upd H q o) := fun b x _ e => by
  rw [upd_ne (ne_of_none e h)]
  exact e
theorem But.set {p : Addr} {H : Hp} {o : HO} : But p H (upd H p o) := fun b x n e => by
  rw [upd_ne n]
  exact e
theorem But.same {p : Addr} {H H' : Hp} (s : Same H H') : But p H H' := fun b o _ h => s b o h
theorem same_new {H : Hp} {p : Addr} {o : HO} (h : H p = none) : Same H (upd H p o) := fun b x e => by
  rw [upd_ne (ne_of_none e h)]
  exact e
theorem But.free {p : Addr} {H H' : Hp} (e : But p H H') {l : Addr} (hl : l ≠ p) (h : H' l = none) : H l = none := by
  cases q : H l with
  | none => rfl
  | some o =>
    rw [e l o hl q] at h
    cases h
/-- a new address is not p where p stands -/
theorem new_ne {H : Hp} {p q : Addr} {o : HO} (h : H p = some o) (n : H q = none) : q ≠ p := fun e => by
  rw [e, h] at n
  cases n
theorem But.sql {K : PySem.W.Frag} {p a : Addr} {H H' : Hp} {xs : List V} (e : But p H H') (h : H a = some (.lst xs)) (n : a ≠ p) : SqL K H' a xs := .inl (.inl (e _ _ n h))
/-- a new object, a changed one: the heap behind it by what is known -/
theorem alloc_of {H : Hp} {o : HO} {G : Addr → Hp → Prop} (h : ∀ (a : Addr) (H' : Hp), H a = none → Same H H' → H' a = some o → G a H') : ∀ a, H a = none → G a (upd H a o) := fun a n => h a _ n (same_new n) upd_same
theorem set_of {H : Hp} {p : Addr} {o : HO} {G : Hp → Prop} (h : ∀ H' : Hp, But p H H' → H' p = some o → G H') : G (upd H p o) := h _ .set upd_same
/-! ### a def of the module by its promise -/
def Cal (P : Program) (w : World) (K : PySem.W.Frag) (mg : Str → Option Value) (base : Heap) (CX : CXT) (k : Nat) (x : Str) (ps : List Str) (sp : Sp) : Prop :=
  ∃ f fd, mg x = some (.ref f) ∧ FnOk P w K mg base CX k f fd ps sp ∧ PySem.W.keepIn K (.ref f) = true ∧ Binds K fd ps []
theorem Cal.mono {P : Program} {w : World} {K : PySem.W.Frag} {mg : Str → Option Value} {base : Heap} {CX : CXT} {j k : Nat} {x : Str} {ps : List Str} {sp : Sp} (c : Cal P w K mg base CX j x ps sp) (h : j ≤ k) : Cal P w K mg base CX k x ps sp := by
  obtain ⟨f, fd, m, F, kp, b⟩ := c
  exact ⟨f, fd, m, F.mono h, kp, b⟩
/-- a call's reading -/
def tCal (sp : Sp) (E : XK) (t : TA) : TE := fun σ H Q => t σ H fun vs H1 => sp vs H1 Q E
section
variable {X : Cx} {CX : CXT} {k : Nat} {x : Str} {ps : List Str} {sp : Sp} {E : XK} {e : Expr} {es : List Expr} {t : TA} {p pos : Pos}
theorem pe_cal (c : Cal X.prog X.w X.K X.mg X.base CX k x ps sp) (hr : Room k X.A) (hg : Gl X x) (hx : Passes CX X E) (ha : PA X (e :: es) t) (hdb : (x == ("__debug__" : Str)) = false := by decide)
    (he : starEach (e :: es) X.env = (false, eval e X.env) :: starEach es X.env := by rfl) (hpl : (backTo pos (starEach es X.env)).any (·.1) = false := by rfl) : PE X (.Call (.Name x p) (e :: es) [] pos) (tCal sp E t) := by
  obtain ⟨f, fd, m, F, kp, b⟩ := c
  have z := pe_call F hr hg m kp b .nil hx ha hdb he hpl (p := p)
  refine ⟨fun pins s σ H Q I h => z.run pins s σ H Q I ?_⟩
  show t σ H fun vs H1 => sp (vs ++ []) H1 Q E
  simp only [List.append_nil]
  exact h
theorem pe_cal0 (c : Cal X.prog X.w X.K X.mg X.base CX k x ps sp) (hr : Room k X.A) (hg : Gl X x) (hx : Passes CX X E) (hdb : (x == ("__debug__" : Str)) = false := by decide) :
    PE X (.Call (.Name x p) [] [] pos) (tCal sp E tNil) := by
  obtain ⟨f, fd, m, F, kp, b⟩ := c
  exact pe_call0 F hr hg m kp b .nil hx hdb
end
section
variable {X : Cx} {x : Str} {pos : Pos}
/-- a module's constant -/
theorem pe_gint {i : Int} (h : ∃ t, X.mg x = some (.int i t)) (hg : Gl X x := by rfl) (hd : (x == ("__debug__" : Str)) = false := by decide) : PE X (.Name x pos) (tC (.int i)) := by
  obtain ⟨t, e⟩ := h
  exact pe_glob hg e ⟨t, rfl⟩ hd
theorem pe_gstr {z : Str} (h : ∃ t, X.mg x = some (.str z t)) (hg : Gl X x := by rfl) (hd : (x == ("__debug__" : Str)) = false := by decide) : PE X (.Name x pos) (tC (.str z)) := by
  obtain ⟨t, e⟩ := h
  exact pe_glob hg e ⟨t, rfl⟩ hd
/-- a built-in class as a value -/
theorem pe_bty (C : String) (hm : X.mg x = none) (hv : bootBuiltins x = some (.type C)) (hg : Gl X x := by rfl) (hn : x ≠ "__name__" := by decide) (hd : (x == ("__debug__" : Str)) = false := by decide) : PE X (.Name x pos) (tC (.ty C)) := pe_bltn hg hm hv (show RelV (.ty C) (.type C) from rfl) hn hd
end
/-- a def of the top's text -/
abbrev FnP (K : PySem.W.Frag) (x : Str) (st : Stmt) (f : Addr) (fd : FuncData) : Prop := FunD K x x (defArgs st) (defBody st) (defScope st) [] [] f fd
/-! ### ints -/
theorem natAbs_lt_pow {i : Int} {n : Nat} (h0 : 0 ≤ i) (h : i < 2 ^ n) : i.natAbs < 2 ^ n := by
  have e : ((i.natAbs : Nat) : Int) < ((2 ^ n : Nat) : Int) := by
    rw [Int.natAbs_of_nonneg h0, Int.natCast_pow]
    exact h
  exact Int.ofNat_lt.mp e
theorem small_pow {i : Int} (h0 : 0 ≤ i) (h : i < 2 ^ 250) : i.natAbs < 2 ^ 8000 := Nat.lt_of_lt_of_le (natAbs_lt_pow h0 h) (Nat.pow_le_pow_right (by decide) (by decide))
theorem sz_le {n : Nat} (h : n ≤ 100000) : n ≤ sizeLine := Nat.le_trans h (by decide)
theorem sz_lt {n : Nat} (h : n < 100000) : n < sizeLine := Nat.lt_of_lt_of_le h (by decide)
theorem iteD {c A B : Prop} [Decidable c] (h1 : c → A) (h2 : ¬ c → B) : if decide c = true then A else B := by
  by_cases h : c
  · rw [decide_eq_true h, if_pos rfl]
    exact h1 h
  · rw [decide_eq_false h, if_neg Bool.false_ne_true]
    exact h2 h
theorem iteND {c A B : Prop} [Decidable c] (h1 : ¬ c → A) (h2 : c → B) : if (!decide c) = true then A else B := by
  by_cases h : c
  · rw [decide_eq_true h]
    exact iteF (h2 h)
  · rw [decide_eq_false h]
    exact iteT (h1 h)
theorem iteB {b : Bool} {A B : Prop} (h1 : b = true → A) (h2 : b = false → B) : if b = true then A else B := by
  cases b with
  | true => exact iteT (h1 rfl)
  | false => exact iteF (h2 rfl)
/-- a comprehension without a test -/
theorem tyes_of {A B : Hp → Prop} {σ : L2.St} {H : Hp} (h : A H) : tYes σ H (fun b H3 => if b = true then A H3 else B H3) := iteT (B := B H) h
/-- the tests' answers as bounds -/
theorem fmod_bounds {i m : Int} (h : 0 < m) : 0 ≤ i.fmod m ∧ i.fmod m < m := ⟨Int.fmod_nonneg_of_pos i h, Int.fmod_lt_of_pos i h⟩
/-! ### data -/
theorem dpAll_ints {K : PySem.W.Frag} {H : Hp} : ∀ ns : List Int, DpAll K H (ns.map V.int) (ns.map PyData.int)
  | [] => .nil
  | n :: r => .cons (.int n) (dpAll_ints r)
theorem dpAll_strs {K : PySem.W.Frag} {H : Hp} : ∀ ns : List Str, DpAll K H (ns.map V.str) (ns.map PyData.str)
  | [] => .nil
  | n :: r => .cons (.str n) (dpAll_strs r)
theorem shaped_ints (ns : List Int) : SeqAt.shaped (.list (ns.map PyData.int)) = true := PySem.W.ke_shaped_ints ns
theorem atI_in {α : Type} {xs : List α} {i : Int} (h0 : 0 ≤ i) (h1 : i < (xs.length : Int)) : ∃ v, atI xs i = some v ∧ v ∈ xs := by
  have hj : i.toNat < xs.length := by omega
  have e := atI_nat (List.getElem?_eq_getElem hj)
  rw [Int.toNat_of_nonneg h0] at e
  exact ⟨_, e, List.getElem_mem hj⟩
theorem atI_int {ns : List Int} {i : Int} (h0 : 0 ≤ i) (h1 : i < ((ns.map V.int).length : Int)) : ∃ z, atI (ns.map V.int) i = some (.int z) ∧ z ∈ ns := by
  obtain ⟨v, e, m⟩ := atI_in h0 h1
  obtain ⟨z, hz, rfl⟩ := List.mem_map.mp m
  exact ⟨z, e, hz⟩
theorem erase_perm {α : Type} : ∀ {l : List α} {k : Nat} (h : k < l.length), ([l[k]] ++ l.eraseIdx k).Perm l
  | [], _, h => absurd h (Nat.not_lt_zero _)
  | a :: r, 0, _ => List.Perm.refl _
  | a :: r, k + 1, h => by
    have hk : k < r.length := Nat.lt_of_succ_lt_succ h
    have ih := erase_perm (l := r) (k := k) hk
    exact (List.Perm.swap a (r[k]'hk) (r.eraseIdx k)).trans (ih.cons a)
/-! ### the pen -/
structure Pen (H : Hp) (p c : Addr) (n : Nat) : Prop where
  ex : ∃ (ns : List Int) (i g : Int), H p = some (.lst [.ref c, .int i, .int g]) ∧ H c = some (.lst (ns.map V.int)) ∧ ns.length ≤ 63 ∧ 0 ≤ i ∧ i ≤ (n : Int)
theorem Pen.mono {H : Hp} {p c : Addr} {n m : Nat} (h : Pen H p c n) (l : n ≤ m) : Pen H p c m := by
  obtain ⟨ns, i, g, h1, h2, h3, h4, h5⟩ := h.ex
  exact ⟨ns, i, g, h1, h2, h3, h4, Int.le_trans h5 (Int.ofNat_le.mpr l)⟩
theorem Pen.same {H H' : Hp} {p c : Addr} {n : Nat} (h : Pen H p c n) (s : Same H H') : Pen H' p c n := by
  obtain ⟨ns, i, g, h1, h2, h3, h4, h5⟩ := h.ex
  exact ⟨ns, i, g, s _ _ h1, s _ _ h2, h3, h4, h5⟩
theorem Pen.new {H : Hp} {p c q : Addr} {n : Nat} {o : HO} (h : Pen H p c n) (nq : H q = none) : Pen (upd H q o) p c n := h.same (same_new nq)
theorem Pen.mut {H : Hp} {p c q : Addr} {n : Nat} {o : HO} (h : Pen H p c n) (n1 : q ≠ p) (n2 : q ≠ c) : Pen (upd H q o) p c n := by
  obtain ⟨ns, i, g, h1, h2, h3, h4, h5⟩ := h.ex
  refine ⟨ns, i, g, ?_, ?_, h3, h4, h5⟩
  · rw [upd_ne n1.symm]
    exact h1
  · rw [upd_ne n2.symm]
    exact h2
theorem Pen.newP {H : Hp} {p c q : Addr} {n : Nat} (h : Pen H p c n) (nq : H q = none) : q ≠ p := by
  obtain ⟨ns, i, g, h1, h2, h3, h4, h5⟩ := h.ex
  exact new_ne h1 nq
theorem Pen.newC {H : Hp} {p c q : Addr} {n : Nat} (h : Pen H p c n) (nq : H q = none) : q ≠ c := by
  obtain ⟨ns, i, g, h1, h2, h3, h4, h5⟩ := h.ex
  exact new_ne h2 nq
theorem Pen.at_ {H : Hp} {p c : Addr} {n : Nat} (h : Pen H p c n) : ∃ xs, H p = some (.lst xs) := by
  obtain ⟨ns, i, g, h1, h2, h3, h4, h5⟩ := h.ex
  exact ⟨_, h1⟩
theorem But.mut {p q : Addr} {H H' : Hp} {o : HO} (k : But p H H') (h : H q = none) : But p H (upd H' q o) := fun b x n e => by
  rw [upd_ne (ne_of_none e h)]
  exact k b x n e
theorem Pen.but {H H' : Hp} {p c q : Addr} {n : Nat} (h : Pen H p c n) (k : But q H H') (n1 : q ≠ p) (n2 : q ≠ c) : Pen H' p c n := by
  obtain ⟨ns, i, g, h1, h2, h3, h4, h5⟩ := h.ex
  exact ⟨ns, i, g, k _ _ n1.symm h1, k _ _ n2.symm h2, h3, h4, h5⟩
/-- what H does not know may change -/
theorem But.more {p q : Addr} {H H' H2 : Hp} (k : But p H H') (h : H q = none) (k2 : But q H' H2) : But p H H2 := fun b x n e => k2 b x (ne_of_none e h) (k b x n e)
theorem But.sqt {K : PySem.W.Frag} {p a : Addr} {H H' : Hp} {xs ys : List V} (e : But p H H') (hp : H p = some (.lst ys)) (h : SqT K H a xs) : SqT K H' a xs := by
  rcases h with (h | ⟨o, h⟩) | h
  · exact .inl (.inl (e _ _ (ne_of h hp (fun z => nomatch z)) h))
  · exact .inl (.inr ⟨o, e _ _ (ne_of h hp (fun z => nomatch z)) h⟩)
  · exact .inr h
/-- many is drawn from: a number from 0, below many -/
def spDraw : Sp := fun vs H Q _ => ∃ (p c : Addr) (n : Nat) (m : Int), vs = [.ref p, .int m] ∧ Pen H p c n ∧ n ≤ 100000 ∧ 0 < m ∧ m.natAbs < 2 ^ 8000 ∧
  ∀ (d : Int) (H' : Hp), 0 ≤ d → d < m → But p H H' → Pen H' p c (n + 1) → Q (.int d) H'
theorem szn {xs : List V} (n : Nat) (h : xs.length = n := by rfl) (h2 : n ≤ 100000 := by decide) : xs.length ≤ sizeLine := by
  rw [h]
  exact sz_le h2
/-! ### names -/
theorem strs_of {Pz : Str → Prop} : ∀ {ys : List V}, (∀ y ∈ ys, ∃ z, y = V.str z ∧ Pz z) → ∃ zs : List Str, ys = zs.map V.str ∧ ∀ z ∈ zs, Pz z
  | [], _ => ⟨[], rfl, fun _ h => nomatch h⟩
  | y :: r, h => by
    obtain ⟨z, e, hz⟩ := h y (List.mem_cons_self ..)
    obtain ⟨zs, e2, h2⟩ := strs_of (ys := r) fun q hq => h q (List.mem_cons_of_mem _ hq)
    refine ⟨z :: zs, by rw [e, e2]; rfl, fun q hq => ?_⟩
    rcases List.mem_cons.mp hq with e3 | hq
    · rw [e3]
      exact hz
    · exact h2 q hq
theorem nodup_strs : ∀ {zs : List Str}, (zs.map V.str).Nodup ↔ zs.Nodup
  | [] => by simp
  | z :: r => by
    rw [List.map_cons, List.nodup_cons, List.nodup_cons, nodup_strs (zs := r)]
    constructor
    · rintro ⟨a, b⟩
      exact ⟨fun m => a (List.mem_map.mpr ⟨z, m, rfl⟩), b⟩
    · rintro ⟨a, b⟩
      refine ⟨fun m => a ?_, b⟩
      obtain ⟨q, hq, e⟩ := List.mem_map.mp m
      rw [← V.str.inj e]
      exact hq
/-- some of a pool of unlike texts -/
theorem some_strs {pool : List Str} {ys zs : List V} (pm : (ys ++ zs).Perm (pool.map V.str)) (nd : pool.Nodup) : ∃ ts : List Str, ys = ts.map V.str ∧ ts.Nodup ∧ ∀ t ∈ ts, t ∈ pool := by
  have hm : ∀ y ∈ ys, ∃ z, y = V.str z ∧ z ∈ pool := fun y hy => by
    have q := pm.mem_iff.mp (List.mem_append_left zs hy)
    obtain ⟨z, hz, e⟩ := List.mem_map.mp q
    exact ⟨z, e.symm, hz⟩
  obtain ⟨ts, e, h⟩ := strs_of hm
  refine ⟨ts, e, ?_, h⟩
  have n1 := pm.nodup_iff.mpr (nodup_strs.mpr nd)
  have n2 := (List.nodup_append.mp n1).1
  rw [e] at n2
  exact nodup_strs.mp n2
/-- what a name is -/
def nameB (z : Str) : Bool := decide (1 ≤ z.length) && decide (z.length ≤ 6) && z.cps.toList.all fun c => decide (97 ≤ c) && decide (c ≤ 122)
theorem name_chars {z : Str} (h : nameB z = true) : ∀ c ∈ z.cps.toList, 97 ≤ c ∧ c ≤ 122 := fun c hc => by
  unfold nameB at h
  rw [Bool.and_eq_true] at h
  have q := List.all_eq_true.mp h.2 c hc
  rw [Bool.and_eq_true] at q
  exact ⟨of_decide_eq_true q.1, of_decide_eq_true q.2⟩
theorem name_len {z : Str} (h : nameB z = true) : 1 ≤ z.length ∧ z.length ≤ 6 := by
  unfold nameB at h
  rw [Bool.and_eq_true, Bool.and_eq_true] at h
  exact ⟨of_decide_eq_true h.1.1, of_decide_eq_true h.1.2⟩
theorem name_ok {z : Str} (h : nameB z = true) : PyData.strOk z = true := by
  unfold PyData.strOk
  rw [Array.all_eq_true_iff_forall_mem]
  intro c hc
  have q := name_chars h c (Array.mem_def.mp hc)
  exact decide_eq_true (by omega)
theorem shaped_names : ∀ ns : List Str, (∀ z ∈ ns, nameB z = true) → SeqAt.shaped (.list (ns.map PyData.str)) = true := fun ns h => by
  have h1 : ∀ ns : List Str, (∀ z ∈ ns, nameB z = true) → PyData.canLayAll0 (ns.map PyData.str) = true := fun ns => by
    induction ns with
    | nil => intro _; rfl
    | cons a r ih =>
      intro q
      simp [PyData.canLayAll0, PyData.canLay0, ih fun z hz => q z (List.mem_cons_of_mem _ hz), name_ok (q a (List.mem_cons_self ..))]
  have h2 : ∀ ns : List Str, PyData.depthAll (ns.map PyData.str) = 0 := fun ns => by
    induction ns with
    | nil => rfl
    | cons a r ih => simp [PyData.depthAll, PyData.depth, ih]
  simp [SeqAt.shaped, PyData.canLay0, PyData.depth, h1 ns h, h2]
theorem alloc_eq {H H' : Hp} {o : HO} {p : Addr} (n : H p = none) (e : upd H p o = H') : Same H H' ∧ H' p = some o := by
  rw [← e]
  exact ⟨same_new n, upd_same⟩
/-- one of the items is picked -/
def spPick : Sp := fun vs H Q _ => ∃ (p c : Addr) (n : Nat) (l : Addr) (xs : List V), vs = [.ref p, .ref l] ∧ Pen H p c n ∧ n ≤ 100000 ∧ H l = some (.lst xs) ∧ l ≠ p ∧ 0 < xs.length ∧ xs.length ≤ 1000 ∧
  ∀ (v : V) (H' : Hp), v ∈ xs → But p H H' → Pen H' p c (n + 1) → Q v H'
/-- many of the pool's items, each place at most once, as a new list -/
def spSome : Sp := fun vs H Q _ => ∃ (p c : Addr) (n : Nat) (l : Addr) (xs : List V) (a b : Int), vs = [.ref p, .ref l, .int a, .int b] ∧ Pen H p c n ∧ H l = some (.lst xs) ∧ l ≠ p ∧ xs.length ≤ 1000 ∧ 0 ≤ a ∧ a ≤ b ∧ a ≤ (xs.length : Int) ∧ n + xs.length + 1 ≤ 100000 ∧
  ∀ (r : Addr) (ys zs : List V) (H' : Hp), (ys ++ zs).Perm xs → a ≤ (ys.length : Int) → (ys.length : Int) ≤ b → H r = none → H' r = some (.lst ys) → r ≠ p → But p H H' → Pen H' p c (n + 1 + ys.length) → Q (.ref r) H'
/-! ### kinds of values -/
def kinds : List String := ["NoneType", "bool", "int", "str", "list", "tuple", "dict"]
theorem kit_k {K : PySem.W.Frag} (b : String) (f : String → Bool) (h : ∀ n ∈ kinds, kitB n b = some (f n)) {n : String} (hn : n ∈ kinds) : PySem.W.kitOne K (.type n) (.type b) = some (f n) := kit_ty (h n hn)
theorem ty_ne {a b : String} (h : Value.type a = Value.type b) (n : a ≠ b) : False := n (by injection h)
theorem tyx_int {K : PySem.W.Frag} {H : Hp} {v : V} (h : TyX K H v (.type "int")) : ∃ i, v = .int i := by
  generalize e : Value.type "int" = t at h
  cases h with
  | base b => cases b <;> first | exact ⟨_, rfl⟩ | exact (ty_ne e (by decide)).elim | cases e
  | _ => exact (ty_ne e (by decide)).elim
theorem tyx_str {K : PySem.W.Frag} {H : Hp} {v : V} (h : TyX K H v (.type "str")) : ∃ i, v = .str i := by
  generalize e : Value.type "str" = t at h
  cases h with
  | base b => cases b <;> first | exact ⟨_, rfl⟩ | exact (ty_ne e (by decide)).elim | cases e
  | _ => exact (ty_ne e (by decide)).elim
def intB : V → Bool
  | .int _ => true
  | _ => false
def withinB (lo hi : Int) : V → Bool
  | .int i => decide (lo ≤ i) && decide (i ≤ hi)
  | _ => false
def isNameB : V → Bool
  | .str z => nameB z
  | _ => false
theorem intB_ty {K : PySem.W.Frag} {H : Hp} {v : V} {n : String} (h : TyX K H v (.type n)) : intB v = (n == "int") := by
  generalize e : Value.type n = t at h
  have no : ∀ m : String, Value.type n = Value.type m → m ≠ "int" → false = (n == "int") := fun m z h => by
    injection z with z
    rw [z]
    exact (beq_eq_false_iff_ne.mpr h).symm
  cases h with
  | base b =>
    cases b with
    | int i =>
      injection e with e
      rw [e]
      rfl
    | ins => cases e
    | _ => exact no _ e (by decide)
  | _ => exact no _ e (by decide)
theorem notName_ty {K : PySem.W.Frag} {H : Hp} {v : V} {n : String} (h : TyX K H v (.type n)) (hn : n ≠ "str") : isNameB v = false := by
  cases v with
  | str z =>
    generalize e : Value.type n = t at h
    cases h with
    | base b => cases b with | str => injection e with e; exact absurd e hn
  | _ => rfl
def spIsInteger (K : PySem.W.Frag) : Sp := fun vs H Q _ => ∃ (v : V) (n : String), vs = [v] ∧ n ∈ kinds ∧ TyX K H v (.type n) ∧ Q (.bl (intB v)) H
def spIsWithin (K : PySem.W.Frag) : Sp := fun vs H Q _ => ∃ (v : V) (n : String) (lo hi : Int), vs = [v, .int lo, .int hi] ∧ n ∈ kinds ∧ TyX K H v (.type n) ∧ Q (.bl (withinB lo hi v)) H
def spIsName (K : PySem.W.Frag) : Sp := fun vs H Q _ => ∃ (v : V) (n : String), vs = [v] ∧ n ∈ kinds ∧ TyX K H v (.type n) ∧ (∀ z, v = .str z → z.length ≤ 100000) ∧ ∀ H', Same H H' → Q (.bl (isNameB v)) H'
/-! ### terms -/
abbrev Term := Int × List Str
/-- a pair of a factor and a tuple of names -/
def TermV (K : PySem.W.Frag) (H : Hp) (v : V) (t : Term) : Prop := ∃ a b : Addr, v = .ref a ∧ SqT K H a [.int t.1, .ref b] ∧ SqT K H b (t.2.map V.str)
abbrev TermsV (K : PySem.W.Frag) (H : Hp) : List V → List Term → Prop := Paired (TermV K H)
theorem TermV.but {K : PySem.W.Frag} {H H' : Hp} {q : Addr} {xs : List V} {v : V} {t : Term} (h : TermV K H v t) (k : But q H H') (hq : H q = some (.lst xs)) : TermV K H' v t := by
  obtain ⟨a, b, e, h1, h2⟩ := h
  exact ⟨a, b, e, k.sqt hq h1, k.sqt hq h2⟩
theorem sqt_same {K : PySem.W.Frag} {a : Addr} {H H' : Hp} {xs : List V} (e : Same H H') (h : SqT K H a xs) : SqT K H' a xs := by
  rcases h with (h | ⟨o, h⟩) | h
  · exact .inl (.inl (e _ _ h))
  · exact .inl (.inr ⟨o, e _ _ h⟩)
  · exact .inr h
/-- no tuple, no locked thing -/
def NT : HO → Prop
  | .tup _ => False
  | .frz _ _ => False
  | _ => True
theorem But.sqtN {K : PySem.W.Frag} {p a : Addr} {H H' : Hp} {xs : List V} {u : HO} (e : But p H H') (hp : H p = some u) (nt : NT u) (h : SqT K H a xs) : SqT K H' a xs := by
  rcases h with (h | ⟨o, h⟩) | h
  · exact .inl (.inl (e _ _ (ne_of h hp (fun z => by rw [← z] at nt; exact nt)) h))
  · exact .inl (.inr ⟨o, e _ _ (ne_of h hp (fun z => by rw [← z] at nt; exact nt)) h⟩)
  · exact .inr h
theorem TermV.butN {K : PySem.W.Frag} {H H' : Hp} {q : Addr} {u : HO} {v : V} {t : Term} (h : TermV K H v t) (k : But q H H') (hq : H q = some u) (nt : NT u) : TermV K H' v t := by
  obtain ⟨a, b, e, h1, h2⟩ := h
  exact ⟨a, b, e, k.sqtN hq nt h1, k.sqtN hq nt h2⟩
theorem TermsV.butN {K : PySem.W.Frag} {H H' : Hp} {q : Addr} {u : HO} : ∀ {vs : List V} {ts : List Term}, TermsV K H vs ts → But q H H' → H q = some u → NT u → TermsV K H' vs ts
  | _, _, .nil, _, _, _ => .nil
  | _, _, .cons a r, k, h, nt => .cons (a.butN k h nt) (TermsV.butN r k h nt)
theorem TermV.same {K : PySem.W.Frag} {H H' : Hp} {v : V} {t : Term} (h : TermV K H v t) (k : Same H H') : TermV K H' v t := by
  obtain ⟨a, b, e, h1, h2⟩ := h
  exact ⟨a, b, e, sqt_same k h1, sqt_same k h2⟩
theorem TermsV.but {K : PySem.W.Frag} {H H' : Hp} {q : Addr} {xs : List V} : ∀ {vs : List V} {ts : List Term}, TermsV K H vs ts → But q H H' → H q = some (.lst xs) → TermsV K H' vs ts
  | _, _, .nil, _, _ => .nil
  | _, _, .cons a r, k, h => .cons (a.but k h) (TermsV.but r k h)
theorem TermsV.same {K : PySem.W.Frag} {H H' : Hp} : ∀ {vs : List V} {ts : List Term}, TermsV K H vs ts → Same H H' → TermsV K H' vs ts
  | _, _, .nil, _ => .nil
  | _, _, .cons a r, k => .cons (a.same k) (TermsV.same r k)
/-- a term over some names -/
def TermOk (ys : List Str) (t : Term) : Prop := -999999 ≤ t.1 ∧ t.1 ≤ 999999 ∧ t.2.length ≤ 3 ∧ ∀ x ∈ t.2, x ∈ ys
def spTerms (K : PySem.W.Frag) : Sp := fun vs H Q _ => ∃ (p c : Addr) (n : Nat) (l : Addr) (ys : List Str), vs = [.ref p, .ref l] ∧ Pen H p c n ∧ n ≤ 80000 ∧ H l = some (.lst (ys.map V.str)) ∧ l ≠ p ∧ ys.length ≤ 100 ∧ (∀ y ∈ ys, nameB y = true) ∧
  ∀ (r : Addr) (us : List V) (ts : List Term) (H' : Hp), TermsV K H' us ts → 1 ≤ ts.length → ts.length ≤ 4 → (∀ t ∈ ts, TermOk ys t) → H r = none → H' r = some (.lst us) → r ≠ p → But p H H' → Pen H' p c (n + 100) → Q (.ref r) H'
theorem sqt_ty {K : PySem.W.Frag} {H : Hp} {a : Addr} {xs : List V} (h : SqT K H a xs) : TyX K H (.ref a) (.type "tuple") := by
  rcases h with (h | ⟨o, h⟩) | ⟨o, its, n, h, c, _⟩
  · exact .base (.tup h)
  · exact .fTuple h
  · exact .kTuple h c
theorem kit_tl {K : PySem.W.Frag} : PySem.W.kitAny K (.type "tuple") [.type "tuple", .type "list"] = some true := kitAny_cons (b := true) (kit_ty (by decide +kernel)) (fun z => by cases z) (fun _ => rfl)
/-- a good term, as the package's own looks -/
def TermFine (t : Term) : Prop := -999999 ≤ t.1 ∧ t.1 ≤ 999999 ∧ t.2.length ≤ 3 ∧ ∀ x ∈ t.2, nameB x = true
def spIsTerm (K : PySem.W.Frag) : Sp := fun vs H Q _ => ∃ (v : V) (t : Term), vs = [v] ∧ TermV K H v t ∧ TermFine t ∧ ∀ H', Same H H' → Q (.bl true) H'
/-! ### unlike names -/
def addN (acc : List Str) (x : Str) : List Str := if x ∈ acc then acc else acc ++ [x]
def unlikeF (acc : List Str) (ts : List Term) : List Str := ts.foldl (fun acc t => t.2.foldl addN acc) acc
def unlike (ts : List Term) : List Str := unlikeF [] ts
theorem take_next {α : Type} {l : List α} {i : Nat} {x : α} (h : l[i]? = some x) : l.take (i + 1) = l.take i ++ [x] := by
  rw [List.take_add_one, h]
  rfl
theorem unlike_next {ts : List Term} {i : Nat} {t : Term} (h : ts[i]? = some t) : unlike (ts.take (i + 1)) = t.2.foldl addN (unlike (ts.take i)) := by
  unfold unlike unlikeF
  rw [take_next h, List.foldl_append]
  rfl
theorem addN_next {ws : List Str} {j : Nat} {x : Str} {acc : List Str} (h : ws[j]? = some x) : (ws.take (j + 1)).foldl addN acc = addN ((ws.take j).foldl addN acc) x := by
  rw [take_next h, List.foldl_append]
  rfl
theorem addN_len (acc : List Str) (x : Str) : (addN acc x).length ≤ acc.length + 1 := by
  unfold addN
  split
  · omega
  · rw [List.length_append]
    exact Nat.le_refl _
theorem addN_new {acc : List Str} {x : Str} (h : ¬ x ∈ acc) : addN acc x = acc ++ [x] := if_neg h
theorem addN_old {acc : List Str} {x : Str} (h : x ∈ acc) : addN acc x = acc := if_pos h
theorem foldN_len : ∀ (ws acc : List Str), (ws.foldl addN acc).length ≤ acc.length + ws.length
  | [], acc => Nat.le_refl _
  | x :: r, acc => by
    have a := foldN_len r (addN acc x)
    have b := addN_len acc x
    show (r.foldl addN (addN acc x)).length ≤ acc.length + (r.length + 1)
    omega
theorem inV_str (x : Str) : ∀ acc : List Str, inV (.str x) (acc.map V.str) = decide (x ∈ acc)
  | [] => by simp [inV]
  | y :: r => by
    have ih := inV_str x r
    unfold inV at ih ⊢
    rw [List.map_cons, List.any_cons, ih]
    show ((y == x) || decide (x ∈ r)) = decide (x ∈ y :: r)
    by_cases e : y = x
    · subst e
      simp
    · have e2 : (y == x) = false := beq_eq_false_iff_ne.mpr e
      rw [e2, Bool.false_or]
      by_cases m : x ∈ r
      · rw [decide_eq_true m, decide_eq_true (List.mem_cons_of_mem _ m)]
      · rw [decide_eq_false m, decide_eq_false (fun q => (List.mem_cons.mp q).elim (fun z => e z.symm) m)]
theorem flat_strs : ∀ acc : List Str, (acc.map V.str).all flatV = true
  | [] => rfl
  | y :: r => by
    rw [List.map_cons, List.all_cons, flat_strs r]
    rfl
theorem paired_get {α β : Type} {F : α → β → Prop} : ∀ {xs : List α} {ys : List β} {i : Nat} {x : α}, Paired F xs ys → xs[i]? = some x → ∃ y, ys[i]? = some y ∧ F x y
  | _, _, _, _, .nil, e => by simp at e
  | _, _, 0, _, .cons r _, e => ⟨_, rfl, by cases (Option.some.inj (show some _ = some _ from e)); exact r⟩
  | _, _, i + 1, x, .cons _ t, e => paired_get (i := i) t (by simpa using e)
def spUnlikeNames (K : PySem.W.Frag) : Sp := fun vs H Q _ => ∃ (l : Addr) (us : List V) (ts : List Term), vs = [.ref l] ∧ SqT K H l us ∧ TermsV K H us ts ∧ ts.length ≤ 10 ∧ (∀ t ∈ ts, t.2.length ≤ 10) ∧
  ∀ (r : Addr) (H' : Hp), H r = none → Same H H' → SqT K H' r ((unlike ts).map V.str) → Q (.ref r) H'
/-! ### sums -/
structure SumTxt (K : PySem.W.Frag) (mg : Str → Option Value) (C : Addr) : Prop where
  cl : Cls K C
  nT : NoAttr K C "_terms"
  nN : NoAttr K C "_names"
  g_Sum : mg "Sum" = some (.ref C)
def sflds (T N : Addr) : List (Str × V) := putF "_names" (.ref N) (putF "_terms" (.ref T) [])
theorem tn_ne : ¬ (("_terms" : Str) = "_names") := by decide +kernel
theorem sflds_terms (T N : Addr) : (sflds T N).lookup ("_terms" : Str) = some (.ref T) := by
  unfold sflds
  rw [lookup_putF, if_neg tn_ne, lookup_putF, if_pos rfl]
theorem sflds_names (T N : Addr) : (sflds T N).lookup ("_names" : Str) = some (.ref N) := by
  unfold sflds
  rw [lookup_putF, if_pos rfl]
theorem sflds_len (T N : Addr) : (sflds T N).length ≤ 10 := by
  unfold sflds
  show (if ("_terms" : Str) = "_names" then _ else _ : List (Str × V)).length ≤ 10
  rw [if_neg tn_ne]
  show 2 ≤ 10
  decide
/-- a Sum of these terms stands at x -/
def SumAt (K : PySem.W.Frag) (C : Addr) (H : Hp) (x : Addr) (ts : List Term) : Prop := ∃ (dx T N : Addr) (us : List V), H x = some (.ins C dx (sflds T N)) ∧ SqT K H T us ∧ TermsV K H us ts ∧ SqT K H N ((unlike ts).map V.str)
theorem SumAt.same {K : PySem.W.Frag} {C x : Addr} {H H' : Hp} {ts : List Term} (h : SumAt K C H x ts) (s : Same H H') : SumAt K C H' x ts := by
  obtain ⟨dx, T, N, us, h1, h2, h3, h4⟩ := h
  exact ⟨dx, T, N, us, s _ _ h1, sqt_same s h2, h3.same s, sqt_same s h4⟩
theorem SumAt.but {K : PySem.W.Frag} {C x q : Addr} {H H' : Hp} {ts : List Term} {xs : List V} (h : SumAt K C H x ts) (k : But q H H') (hq : H q = some (.lst xs)) : SumAt K C H' x ts := by
  obtain ⟨dx, T, N, us, h1, h2, h3, h4⟩ := h
  exact ⟨dx, T, N, us, k _ _ (ne_of h1 hq (fun z => nomatch z)) h1, k.sqt hq h2, h3.but k hq, k.sqt hq h4⟩
/-- a good row of terms -/
def Fine (ts : List Term) : Prop := 1 ≤ ts.length ∧ ts.length ≤ 4 ∧ (∀ t ∈ ts, TermFine t) ∧ (unlike ts).length ≤ 3
def spSumInit (K : PySem.W.Frag) (C : Addr) : Sp := fun vs H Q _ => ∃ (x tp dx : Addr) (us : List V) (ts : List Term), vs = [.ref x, .ref tp] ∧ H x = some (.ins C dx []) ∧ SqT K H tp us ∧ TermsV K H us ts ∧ Fine ts ∧
  ∀ H', But x H H' → SumAt K C H' x ts → Q .non H'
def spSum (K : PySem.W.Frag) (C : Addr) : Sp := fun vs H Q _ => ∃ (l : Addr) (us : List V) (ts : List Term), vs = [.ref l] ∧ SqL K H l us ∧ TermsV K H us ts ∧ Fine ts ∧ ∀ (x : Addr) (H' : Hp), H x = none → Same H H' → SumAt K C H' x ts → Q (.ref x) H'
/-- what Sum(..) of good terms leaves -/
theorem mk_sum {K : PySem.W.Frag} {C : Addr} {H : Hp} {us : List V} {ts : List Term} {Q : VK} (hts : TermsV K H us ts) (hf : Fine ts) (q : ∀ (x : Addr) (H' : Hp), H x = none → Same H H' → SumAt K C H' x ts → Q (.ref x) H') :
    ∀ x dx, H x = none → H dx = none → dx ≠ x → ∃ ws rest, V.ref x :: us = ws ++ rest ∧ ws.length = 1 ∧ rest.length ≤ sizeLine ∧ ∀ p, (upd (upd H dx (.own x)) x (.ins C dx [])) p = none →
      spSumInit K C (ws ++ [V.ref p]) (upd (upd (upd H dx (.own x)) x (.ins C dx [])) p (.tup rest)) (fun v H2 => v = .non ∧ Q (.ref x) H2) E0 := by
  intro x dx nx ndx ne
  have hl : us.length = ts.length := hts.length
  refine ⟨[.ref x], us, rfl, rfl, sz_le (by have := hf.2.1; omega), fun p np => ?_⟩
  have s1 : Same H (upd (upd H dx (.own x)) x (.ins C dx [])) := fun b o e => by
    rw [upd_ne (ne_of_none e nx), upd_ne (ne_of_none e ndx)]
    exact e
  have s2 := s1.trans (same_new (o := .tup us) np)
  refine ⟨x, p, dx, us, ts, rfl, ?_, .of upd_same, hts.same s2, hf, fun H' k sm => ⟨rfl, q x H' nx (fun b o e => k b o (ne_of_none e nx) (s2 b o e)) sm⟩⟩
  exact same_new np x _ upd_same
def spModulus : Sp := fun vs H Q _ => ∃ (p c : Addr) (n : Nat), vs = [.ref p] ∧ Pen H p c n ∧ n ≤ 90000 ∧ ∀ (i : Int) (H' : Hp), 2 ≤ i → i ≤ 1000000000000000000 → But p H H' → Pen H' p c (n + 3) → Q (.int i) H'
def spValue : Sp := fun vs H Q _ => ∃ (p c : Addr) (n : Nat) (m : Int), vs = [.ref p, .int m] ∧ Pen H p c n ∧ n ≤ 90000 ∧ 2 ≤ m ∧ m ≤ 1000000000000000000 ∧ ∀ (i : Int) (H' : Hp), i.natAbs < 2 ^ 240 → But p H H' → Pen H' p c (n + 4) → Q (.int i) H'
def partOf (val : Str → Int) (m : Int) (t : Term) : Int := t.2.foldl (fun p x => (p * ((val x).fmod m)).fmod m) (t.1.fmod m)
def dueOf (val : Str → Int) (m : Int) (ts : List Term) : Int := ts.foldl (fun w t => (w + partOf val m t).fmod m) 0
def spDue (K : PySem.W.Frag) : Sp := fun vs H Q _ => ∃ (l d : Addr) (m : Int) (us : List V) (ts : List Term) (kvs : List (Key × V)) (val : Str → Int), vs = [.ref l, .ref d, .int m] ∧ SqL K H l us ∧ TermsV K H us ts ∧ H d = some (.dK kvs) ∧ 0 < m ∧ m < 2 ^ 64 ∧
  (∀ t ∈ ts, ∀ z ∈ t.2, valV kvs (Sum.inr z) = some (.int (val z)) ∧ (val z).natAbs < 2 ^ 250) ∧ Q (.int (dueOf val m ts)) H
def prodOf (val : Str → Int) (m : Int) (t : Term) : Int := t.2.foldl (fun p x => (p * val x).fmod m) t.1
def totalOf (val : Str → Int) (m : Int) (ts : List Term) : Int := (ts.foldl (fun w t => w + prodOf val m t) 0).fmod m
def spTotal (K : PySem.W.Frag) (C : Addr) : Sp := fun vs H Q _ => ∃ (x d : Addr) (m : Int) (ts : List Term) (kvs : List (Key × V)) (val : Str → Int), vs = [.ref x, .ref d, .int m] ∧ SumAt K C H x ts ∧ H d = some (.dK kvs) ∧ 0 < m ∧ m < 2 ^ 64 ∧ (∀ t ∈ ts, TermFine t) ∧
  (∀ t ∈ ts, ∀ z ∈ t.2, valV kvs (Sum.inr z) = some (.int (val z)) ∧ (val z).natAbs < 2 ^ 250) ∧ Q (.int (totalOf val m ts)) H
def spUnlike (K : PySem.W.Frag) : Sp := fun vs H Q _ => ∃ (l : Addr) (us : List V) (ts : List Term), vs = [.ref l] ∧ SqL K H l us ∧ TermsV K H us ts ∧ ts.length ≤ 10 ∧ (∀ t ∈ ts, t.2.length ≤ 10) ∧
  ∀ (r : Addr) (H' : Hp), H r = none → Same H H' → H' r = some (.lst ((unlike ts).map V.str)) → Q (.ref r) H'
theorem unlike_len : ∀ (ts : List Term) (acc : List Str), (∀ t ∈ ts, t.2.length ≤ 10) → (unlikeF acc ts).length ≤ acc.length + 10 * ts.length
  | [], acc, _ => by show acc.length ≤ _; omega
  | t :: r, acc, h => by
    have a := unlike_len r (t.2.foldl addN acc) fun q hq => h q (List.mem_cons_of_mem _ hq)
    have b := foldN_len t.2 acc
    have c := h t (List.mem_cons_self ..)
    show (unlikeF (t.2.foldl addN acc) r).length ≤ acc.length + 10 * (r.length + 1)
    omega
/-- so many unlike names, as a new list -/
def spNames : Sp := fun vs H Q _ => ∃ (p c : Addr) (n : Nat) (m : Int), vs = [.ref p, .int m] ∧ Pen H p c n ∧ n ≤ 90000 ∧ 0 ≤ m ∧ m ≤ 7 ∧
  ∀ (r : Addr) (ts : List Str) (H' : Hp), ts.Nodup → (∀ t ∈ ts, nameB t = true) → (ts.length : Int) = m → H r = none → H' r = some (.lst (ts.map V.str)) → r ≠ p → But p H H' → Pen H' p c (n + 10) → Q (.ref r) H'
def spFactor : Sp := fun vs H Q _ => ∃ (p c : Addr) (n : Nat), vs = [.ref p] ∧ Pen H p c n ∧ n ≤ 90000 ∧ ∀ (i : Int) (H' : Hp), -999999 ≤ i → i ≤ 999999 → But p H H' → Pen H' p c (n + 3) → Q (.int i) H'
end LC
namespace LC
open PySem PySem.Spec PyProof.Rows L2
def topS (i : Nat) : Stmt := PySem.Challenge.pw_leastcode_k02_sums.main.body.getD i (.Pass ⟨0, 0, 0, 0⟩)
structure Txt (mg : Str → Option Value) : Prop where
  n_len : mg "len" = none
  n_int : mg "int" = none
  n_list : mg "list" = none
  n_abs : mg "abs" = none
  n_min : mg "min" = none
  n_range : mg "range" = none
  n_tuple : mg "tuple" = none
  n_str : mg "str" = none
  n_bool : mg "bool" = none
  n_isinstance : mg "isinstance" = none
  n_all : mg "all" = none
  n_enumerate : mg "enumerate" = none
  n_dict : mg "dict" = none
  n_repr : mg "repr" = none
  g_MOST_LETTERS : ∃ t, mg "MOST_LETTERS" = some (.int 6 t)
  g_MOST_FACTOR : ∃ t, mg "MOST_FACTOR" = some (.int 999999 t)
  g_MOST_TERMS : ∃ t, mg "MOST_TERMS" = some (.int 4 t)
  g_MOST_TERM_NAMES : ∃ t, mg "MOST_TERM_NAMES" = some (.int 3 t)
  g_MOST_UNLIKE : ∃ t, mg "MOST_UNLIKE" = some (.int 3 t)
  g_LETTERS : ∃ t, mg "LETTERS" = some (.str "abcdefghijklmnopqrstuvwxyz" t)
section
variable {P : Program} {w : World} {K : PySem.W.Frag} {mg : Str → Option Value} {base : Heap}
abbrev s_draw : Stmt := topS 37
theorem sc_draw : FnScope ["pen", "many", "digit", "at", "cell", "great", "mixed"] ["pen", "many"] (defScope s_draw) := ⟨rfl, rfl, rfl, by decide +kernel, rfl, by decide +kernel, by decide +kernel⟩
theorem ok_draw {f : Addr} {fd : FuncData} (T : Txt mg) (F : FnP K "_law_draw" s_draw f fd) : FnOk P w K mg base CX0 1 f fd ["pen", "many"] spDraw := by
  have sc := sc_draw
  refine F.ok sc (fun vs H Q E h => ?_) (fun cdv A outer s H vs Q E hr h => ?_)
  · obtain ⟨p, c, n, m, rfl, _⟩ := h
    rfl
  · obtain ⟨p, c, n, m, rfl, hP, hn, hm, hm2, q⟩ := h
    refine ⟨_, PSs.nox
     (pss_cons (ps_if (pt_cmpR op_gt (pe_ix ix_list (pv 0) pe_int (fun _ _ => rfl)) pe_int (nomark _))
  (pss_cons (ps_set (i := 2) sc.nd rfl (.inl rfl) (pe_op op_modN (pe_callTy call_int1 (by rfl) T.n_int (by decide +kernel) (pa_cons (pe_ix ix_list (pv 0) pe_int (fun _ _ => rfl)) pa_nil)) (pv 1)))
  (pss_cons (ps_asg (pe_op op_fdivW (pe_callTy call_int1 (by rfl) T.n_int (by decide +kernel) (pa_cons (pe_ix ix_list (pv 0) pe_int (fun _ _ => rfl)) pa_nil)) (pv 1)) (pg_sub (pv 0) pe_int set_list))
  (pss_one (ps_ret (pv 2)))))
  pss_nil)
(pss_cons (ps_set (i := 3) sc.nd rfl (.inl rfl) (pe_ix ix_list (pv 0) pe_int (fun _ _ => rfl)))
(pss_cons (ps_asg (pe_op op_add (pv 3) pe_int) (pg_sub (pv 0) pe_int set_list))
(pss_cons (ps_set (i := 4) sc.nd rfl (.inl rfl) (pe_op op_add (pe_op op_mul pe_int (pv 3)) pe_int))
(Evl.pss_cut (ps_if (pt_cmpR (op_neD hr.units) (pe_ix ix_list (pv 0) pe_int (fun _ _ => rfl)) (pe_lst pa_nil) (nomark _))
  (pss_one (ps_set (i := 4) sc.nd rfl (.inl rfl) (pe_ix ix_list (pe_ix ix_list (pv 0) pe_int (fun _ _ => rfl)) (pe_op op_modN (pe_callTy call_int1 (by rfl) T.n_int (by decide +kernel) (pa_cons (pv 3) pa_nil)) (pe_callB call_len (by rfl) T.n_len (by decide +kernel) (pa_cons (pe_ix ix_list (pv 0) pe_int (fun _ _ => rfl)) pa_nil))) (fun _ _ => rfl))))
  pss_nil)
(Evl.pss_cut (ps_if (PW.pt (pw_and (pt_cmpR op_lt (pv 3) (pe_callB call_len (by rfl) T.n_len (by decide +kernel) (pa_cons (pe_ix ix_list (pv 0) pe_int (fun _ _ => rfl)) pa_nil)) (nomark _)) (pw_and1 (pt_cmpR op_ge (pe_callB call_abs (by rfl) T.n_abs (by decide +kernel) (pa_cons (pv 4) pa_nil)) (pe_op op_pow pe_int pe_int) (nomark _)))))
  (pss_cons (ps_set (i := 5) sc.nd rfl (.inl rfl) (pe_op op_add (pe_op op_mul pe_int (pe_op op_sub (pe_callB call_abs (by rfl) T.n_abs (by decide +kernel) (pa_cons (pv 4) pa_nil)) (pe_op op_pow pe_int pe_int))) (pe_callTy call_int1 (by rfl) T.n_int (by decide +kernel) (pa_cons (pe_cmpR op_lt (pv 4) pe_int (nomark _)) pa_nil))))
  (pss_cons (ps_asg (pe_op op_fdivW (pe_callTy call_int1 (by rfl) T.n_int (by decide +kernel) (pa_cons (pv 5) pa_nil)) (pv 1)) (pg_sub (pv 0) pe_int set_list))
  (pss_one (ps_ret (pe_op op_modN (pe_callTy call_int1 (by rfl) T.n_int (by decide +kernel) (pa_cons (pv 5) pa_nil)) (pv 1))))))
  pss_nil)
(pss_cons (ps_set (i := 6) sc.nd rfl (.inl rfl) (pe_op op_modN (pe_callTy call_int1 (by rfl) T.n_int (by decide +kernel) (pa_cons (pe_op op_pow (pe_op op_add (pe_op op_add (pe_op op_modN (pe_callTy call_int1 (by rfl) T.n_int (by decide +kernel) (pa_cons (pv 4) pa_nil)) pe_int) (pe_op op_mul pe_int (pv 3))) pe_int) pe_int) pa_nil)) pe_int))
(pss_cons (ps_set (i := 6) sc.nd rfl (.inl rfl) (pe_op op_modN (pe_callTy call_int1 (by rfl) T.n_int (by decide +kernel) (pa_cons (pe_op op_pow (pe_op op_add (pe_op op_add (pe_op op_mul (pv 6) (pe_op op_add (pe_op op_mul pe_int (pv 3)) pe_int)) (pe_op op_mul (pe_op op_mul pe_int (pv 3)) (pv 3))) pe_int) pe_int) pa_nil)) pe_int))
(pss_one (ps_ret (pe_op op_modN (pe_callTy call_int1 (by rfl) T.n_int (by decide +kernel) (pa_cons (pe_op op_fdivW (pv 6) pe_int) pa_nil)) (pv 1)))))))))))), ?_⟩
    obtain ⟨ns, i, g, hp, hc, hl, hi, hi2⟩ := hP.ex
    have hpc : c ≠ p := ne_of hc hp (by
      intro z
      have z2 : ns.map V.int = [.ref c, .int i, .int g] := HO.lst.inj z
      cases ns with
      | nil => cases z2
      | cons a r => cases z2)
    -- if pen[2] > 0
    refine ⟨.ref p, rfl, p, _, 2, .int g, rfl, rfl, .of hp, rfl, g, 0, rfl, rfl, _, rfl, iteD (fun e1 => ?_) (fun e1 => ?_)⟩
    · have b1 := fmod_bounds (i := g) hm
      -- digit = int(pen[2]) % many
      refine ⟨.ref p, rfl, p, _, 2, .int g, rfl, rfl, .of hp, rfl, .inl ⟨g, rfl, .int m, rfl, g, m, rfl, rfl, by omega, ?_⟩⟩
      -- pen[2] = int(pen[2]) // many
      refine ⟨.ref p, rfl, p, _, 2, .int g, rfl, rfl, .of hp, rfl, .inl ⟨g, rfl, .int m, rfl, g, m, rfl, rfl, wide_div hm hm2 (by decide) (by decide), ?_⟩⟩
      refine ⟨.ref p, rfl, p, _, 2, 2, rfl, rfl, hp, rfl, ?_⟩
      refine ⟨.int (g.fmod m), rfl, q _ _ b1.1 b1.2 .set ⟨ns, i, g / m, upd_same, ?_, hl, hi, by omega⟩⟩
      rw [upd_ne hpc]
      exact hc
    · -- at = pen[1]; pen[1] = at + 1
      refine ⟨.ref p, rfl, p, _, 1, .int i, rfl, rfl, .of hp, rfl, ?_⟩
      refine ⟨.int i, rfl, i, 1, rfl, rfl, .ref p, rfl, p, _, 1, 1, rfl, rfl, hp, rfl, ?_⟩
      generalize hH : upd H p _ = H1
      have hp1 : H1 p = some (.lst [.ref c, .int (i + 1), .int g]) := by
        rw [← hH]
        exact upd_same
      have hc1 : H1 c = some (.lst (ns.map V.int)) := by
        rw [← hH, upd_ne hpc]
        exact hc
      have k1 : But p H H1 := by
        rw [← hH]
        exact .set
      -- cell = 9293 * at + 641
      refine ⟨.int i, rfl, 9293, i, rfl, rfl, .inl ⟨by decide, by decide⟩, 9293 * i, 641, rfl, rfl, ?_⟩
      -- if pen[0] != []: behind it the cell is some number
      refine ⟨fun σ' H' => Same H1 H' ∧ ∃ x : Int, σ' = [some (.ref p), some (.int m), none, some (.int i), some (.int x), none, none], ?_, ?_⟩
      · refine ⟨.ref p, rfl, p, _, 0, .ref c, rfl, rfl, .of hp1, rfl, Nat.zero_le _, fun o no => ?_⟩
        generalize hH2 : upd H1 o _ = H2
        have ho2 : H2 o = some (.lst []) := by
          rw [← hH2]
          exact upd_same
        have s2 : Same H1 H2 := by
          rw [← hH2]
          exact same_new no
        have hp2 := s2 _ _ hp1
        have hc2 := s2 _ _ hc1
        refine ⟨.list (ns.map PyData.int), .list [], .lst (.of hc2) (dpAll_ints ns), .lst (.of ho2) .nil, shaped_ints ns, rfl, _, rfl, ?_⟩
        cases ns with
        | nil => 
          refine iteF ?_
          exact ⟨s2, _, rfl⟩
        | cons z zs =>
          refine iteT ?_
          have hz : (0 : Int) < ((((z :: zs).map V.int).length : Nat) : Int) := by
            rw [List.length_map]
            show (0 : Int) < ((zs.length + 1 : Nat) : Int)
            omega
          have b1 := fmod_bounds (i := i) hz
          obtain ⟨x, ha, _⟩ := atI_int b1.1 b1.2
          exact ⟨.ref p, rfl, p, _, 0, .ref c, rfl, rfl, .of hp2, rfl, .int i, rfl, .inl ⟨i, rfl, .ref p, rfl, p, _, 0, .ref c, rfl, rfl, .of hp2, rfl, .ref c, _, rfl, .inl ⟨_, .of hc2, rfl⟩, i, _, rfl, rfl, Int.ne_of_gt hz, c, _, _, _, rfl, rfl, .of hc2, ha, s2, _, rfl⟩⟩
      · rintro σ' H2 ⟨s2, x, rfl⟩
        have hp2 := s2 _ _ hp1
        have hc2 := s2 _ _ hc1
        have k2 : But p H H2 := k1.trans (.same s2)
        have pen2 : Pen H2 p c (n + 1) := ⟨ns, i + 1, g, hp2, hc2, hl, by omega, by omega⟩
        -- the last rows, the cell mixed
        have b3 : ∀ y : Int, 0 ≤ y → y < 2 ^ 60 → y.natAbs < 2 ^ 64 := fun y h0 h1 => natAbs_lt_pow h0 (Int.lt_trans h1 (by decide))
        have i5 : i ≤ 100000 := by omega
        have cm := fmod_bounds (i := x) (m := 2147483549) (by decide)
        have h53 : 51437 * i ≤ 51437 * 100000 := by omega
        have M1 := fmod_bounds (i := (x.fmod 2147483549 + 51437 * i + 97) ^ (3 : Int).toNat) (m := 2147483629) (by decide)
        generalize hM1 : ((x.fmod 2147483549 + 51437 * i + 97) ^ (3 : Int).toNat).fmod 2147483629 = y at M1
        have P1 : 0 ≤ y * (2 * i + 83) := Int.mul_nonneg M1.1 (by omega)
        have P2 : y * (2 * i + 83) ≤ 2147483629 * 200083 := Int.mul_le_mul (by omega) (by omega) (by omega) (by decide)
        have P3 : 0 ≤ 60623 * i * i := Int.mul_nonneg (by omega) (by omega)
        have P4 : 60623 * i * i ≤ 6062300000 * 100000 := Int.mul_le_mul (by omega) (by omega) (by omega) (by decide)
        have M2 := fmod_bounds (i := (y * (2 * i + 83) + 60623 * i * i + 43) ^ (5 : Int).toNat) (m := 2147483587) (by decide)
        -- if at < len(pen[0]) and abs(cell) >= 10 ** 18
        refine ⟨fun σ' H' => H' = H2 ∧ σ' = [some (.ref p), some (.int m), none, some (.int i), some (.int x), none, none], ?_, ?_⟩
        · refine ⟨.int i, rfl, .ref p, rfl, p, _, 0, .ref c, rfl, rfl, .of hp2, rfl, .ref c, _, rfl, .inl ⟨_, .of hc2, rfl⟩, _, _, rfl, rfl, _, rfl, iteD (fun e2 => ?_) (fun e2 => ?_)⟩
          · refine ⟨.int x, rfl, x, rfl, 10, 18, rfl, rfl, ⟨by decide, by decide, by decide⟩, _, _, rfl, rfl, _, rfl, iteD (fun e3 => ?_) (fun e3 => ?_)⟩
            · -- great
              refine ⟨.int x, rfl, x, rfl, 10, 18, rfl, rfl, ⟨by decide, by decide, by decide⟩, _, _, rfl, rfl, _, _, rfl, rfl, .inl ⟨by decide, by decide⟩, .int x, rfl, x, 0, rfl, rfl, .inr ⟨_, rfl, _, _, rfl, rfl, ?_⟩⟩
              dsimp only
              generalize 2 * ((if x < 0 then -x else x) - 10 ^ (18 : Int).toNat) + (if decide (x < 0) = true then 1 else 0) = gr
              have b5 := fmod_bounds (i := gr) hm
              refine ⟨.int gr, rfl, .inl ⟨gr, rfl, .int m, rfl, gr, m, rfl, rfl, wide_div hm hm2 (by decide) (by decide), ?_⟩⟩
              refine ⟨.ref p, rfl, p, _, 2, 2, rfl, rfl, hp2, rfl, ?_⟩
              refine ⟨.int gr, rfl, .inl ⟨gr, rfl, .int m, rfl, gr, m, rfl, rfl, Int.ne_of_gt hm, ?_⟩⟩
              refine q _ _ b5.1 b5.2 (k2.trans .set) ⟨ns, i + 1, gr / m, upd_same, ?_, hl, by omega, by omega⟩
              rw [upd_ne hpc]
              exact hc2
            · exact ⟨rfl, rfl⟩
          · exact iteF ⟨rfl, rfl⟩
        · rintro σ' H' ⟨rfl, rfl⟩
          refine ⟨.int x, rfl, .inl ⟨x, rfl, x, _, rfl, rfl, (by show ¬ (2147483549 : Int) = 0; decide), .int i, rfl, _, _, rfl, rfl, .inl ⟨by decide, by decide⟩, _, _, rfl, rfl, _, _, rfl, rfl, _, _, rfl, rfl, ⟨by decide, by decide, ?_⟩, .inl ⟨_, rfl, _, _, rfl, rfl, (by show ¬ (2147483629 : Int) = 0; decide), ?_⟩⟩⟩
          · exact b3 _ (by omega) (by omega)
          dsimp only
          rw [hM1]
          refine ⟨.int y, rfl, .int i, rfl, _, _, rfl, rfl, .inl ⟨by decide, by decide⟩, _, _, rfl, rfl, _, _, rfl, rfl, .inl ⟨by omega, by omega⟩, .int i, rfl, _, _, rfl, rfl, .inl ⟨by decide, by decide⟩, .int i, rfl, _, _, rfl, rfl, .inl ⟨by omega, by omega⟩, _, _, rfl, rfl, _, _, rfl, rfl, _, _, rfl, rfl, ⟨by decide, by decide, ?_⟩, .inl ⟨_, rfl, _, _, rfl, rfl, (by show ¬ (2147483587 : Int) = 0; decide), ?_⟩⟩
          · exact b3 _ (by omega) (by omega)
          have b6 := fmod_bounds (i := ((y * (2 * i + 83) + 60623 * i * i + 43) ^ (5 : Int).toNat).fmod 2147483587 / 16) hm
          refine ⟨_, rfl, _, _, rfl, rfl, wide_div (b := 5) (by decide) (by decide) (by decide) (by decide), .inl ⟨_, rfl, .int m, rfl, _, _, rfl, rfl, Int.ne_of_gt hm, ?_⟩⟩
          exact q _ _ b6.1 b6.2 k2 pen2
end
end LC
namespace LC
open PySem PySem.Spec PyProof.Rows L2
section
variable {P : Program} {w : World} {K : PySem.W.Frag} {mg : Str → Option Value} {base : Heap}
abbrev s_pick : Stmt := topS 38
theorem sc_pick : FnScope ["pen", "some"] ["pen", "some"] (defScope s_pick) := ⟨rfl, rfl, rfl, by decide +kernel, rfl, by decide +kernel, by decide +kernel⟩
theorem ok_pick {f : Addr} {fd : FuncData} (T : Txt mg) (F : FnP K "_law_pick" s_pick f fd) (c__law_draw : Cal P w K mg base CX0 1 "_law_draw" ["pen", "many"] spDraw) : FnOk P w K mg base CX0 2 f fd ["pen", "some"] spPick := by
  have sc := sc_pick
  refine F.ok sc (fun vs H Q E h => ?_) (fun cdv A outer s H vs Q E hr h => ?_)
  · obtain ⟨p, c, n, l, xs, rfl, _⟩ := h
    rfl
  · obtain ⟨p, c, n, l, xs, rfl, hP, hn, hl, hlp, h0, h1, q⟩ := h
    refine ⟨_, PSs.nox (pss_one (ps_ret (pe_ix ix_list (pv 1) (pe_cal c__law_draw hr (by rfl) pass0 (pa_cons (pv 0) (pa_cons (pe_callB call_len (by rfl) T.n_len (by decide +kernel) (pa_cons (pv 1) pa_nil)) pa_nil))) (fun _ _ => rfl)))), ?_⟩
    refine ⟨.ref l, rfl, .ref p, rfl, .ref l, rfl, .ref l, _, rfl, .inl ⟨_, .of hl, rfl⟩, p, c, n, _, rfl, hP, hn, by omega, small_pow (by omega) (by omega), fun d H' d0 d1 k pen => ?_⟩
    obtain ⟨v, e, m⟩ := atI_in d0 d1
    exact ⟨l, xs, d, v, rfl, rfl, k.sql hl hlp, e, q v H' m k pen⟩
abbrev s_some : Stmt := topS 39
theorem sc_some : FnScope ["pen", "pool", "least", "most", "left", "many", "lap"] ["pen", "pool", "least", "most"] (defScope s_some) := ⟨rfl, rfl, rfl, by decide +kernel, rfl, by decide +kernel, by decide +kernel⟩
theorem ok_some {f : Addr} {fd : FuncData} (T : Txt mg) (F : FnP K "_law_some" s_some f fd) (c__law_draw : Cal P w K mg base CX0 1 "_law_draw" ["pen", "many"] spDraw) : FnOk P w K mg base CX0 2 f fd ["pen", "pool", "least", "most"] spSome := by
  have sc := sc_some
  refine F.ok sc (fun vs H Q E h => ?_) (fun cdv A outer s H vs Q E hr h => ?_)
  · obtain ⟨p, c, n, l, xs, a, b, rfl, _⟩ := h
    rfl
  · obtain ⟨p, c, n, l, xs, a, b, rfl, hP, hl, hlp, h1, ha, hab, hax, hn, q⟩ := h
    refine ⟨_, PSs.nox (pss_cons (ps_set (i := 4) sc.nd rfl (.inr rfl) (pe_callTy call_list_of (by rfl) T.n_list (by decide +kernel) (pa_cons (pv 1) pa_nil)))
(pss_cons (ps_set (i := 5) sc.nd rfl (.inl rfl) (pe_op op_add (pv 2) (pe_cal c__law_draw hr (by rfl) pass0 (pa_cons (pv 0) (pa_cons (pe_op op_add (pe_op op_sub (pe_callB (call_min2 rfl) (by rfl) T.n_min (by decide +kernel) (pa_cons (pv 3) (pa_cons (pe_callB call_len (by rfl) T.n_len (by decide +kernel) (pa_cons (pv 1) pa_nil)) pa_nil))) (pv 2)) pe_int) pa_nil)))))
(pss_one (ps_ret (pe_lc (own := [("lap", 6)]) (g := (gName 6)) (te := (tBM K "list" rPopAt (tVar 4) (tCons (tCal spDraw E0 (tCons (tVar 0) (tCons (tCB (fun xs H Q => ∃ x n, xs = [x] ∧ LenV K x H n ∧ Q (.int n) H) (tCons (tVar 4) tNil)) tNil))) tNil))) (tt := tYes) rfl sc.nd (pi_range1 rfl T.n_range (pa_cons (pv 5) pa_nil)) (blkOk_by (N := ["pen", "pool", "least", "most", "left", "many", "lap"]) (sc := defScope s_some) (by decide +kernel)) (fun _ _ _ _ _ => by exact (pg_name (i := 6) sc.nd rfl (.inl rfl))) (fun _ _ _ _ _ => by exact pts_nil) (fun _ _ _ _ _ => by exact (pe_bm PySem.F.plainAttrs_list PySem.F.slot_list_pop PySem.F.type_list_pop mt_popAt (pv 4) (pa_cons (pe_cal c__law_draw hr (by rfl) pass0 (pa_cons (pv 0) (pa_cons (pe_callB call_len (by rfl) T.n_len (by decide +kernel) (pa_cons (pv 4) pa_nil)) pa_nil))) pa_nil)))))))), ?_⟩
    -- left = list(pool)
    refine ⟨.ref l, rfl, l, xs, rfl, .inl (.of hl), fun lf nlf => ?_⟩
    have hlfp : lf ≠ p := hP.newP nlf
    have hlfc : lf ≠ c := hP.newC nlf
    generalize hH1 : upd H lf _ = H1
    have s1 : Same H H1 := by
      rw [← hH1]
      exact same_new nlf
    have hlf : H1 lf = some (.lst xs) := by
      rw [← hH1]
      exact upd_same
    -- many = least + ..
    have hm0 : (0 : Int) < (if ((xs.length : Nat) : Int) < b then ((xs.length : Nat) : Int) else b) - a + 1 := by
      split <;> omega
    have hm1 : (if ((xs.length : Nat) : Int) < b then ((xs.length : Nat) : Int) else b) - a + 1 ≤ b - a + 1 ∧ (if ((xs.length : Nat) : Int) < b then ((xs.length : Nat) : Int) else b) - a + 1 ≤ xs.length - a + 1 := by
      constructor <;> (split <;> omega)
    refine ⟨.int a, rfl, .ref p, rfl, .int b, rfl, .ref l, rfl, .ref l, _, rfl, .inl ⟨_, .of (s1 _ _ hl), rfl⟩, _, _, rfl, .int a, rfl, _, _, rfl, rfl, _, _, rfl, rfl, p, c, n, _, rfl, hP.same s1, by omega, hm0, small_pow (by omega) (by omega), fun d H2 d0 d1 k2 pen2 => ?_⟩
    refine ⟨_, _, rfl, rfl, ?_⟩
    have hlf2 := k2 _ _ hlfp hlf
    -- [left.pop(..) for lap in range(many)]
    refine ⟨.int (a + d), rfl, a + d, rfl, by omega, by omega, fun D nD => ?_⟩
    have hDp : D ≠ p := pen2.newP nD
    have hDc : D ≠ c := pen2.newC nD
    have hDlf : D ≠ lf := new_ne hlf2 nD
    have nD0 : H D = none := by
      have z := k2.free hDp nD
      exact s1.free z
    refine lc_range (n := (a + d).toNat) (fun i H' => ∃ ys zs : List V, H' D = some (.lst ys) ∧ H' lf = some (.lst zs) ∧ (ys ++ zs).Perm xs ∧ ys.length = i ∧ But p H H' ∧ Pen H' p c (n + 1 + i)) ?_ ?_ ?_
    · refine ⟨[], xs, upd_same, ?_, List.Perm.refl _, rfl, ?_, pen2.new nD⟩
      · rw [upd_ne hDlf.symm]
        exact hlf2
      · exact ((But.same s1).trans k2).trans (.new nD)
    · rintro i H' hi ⟨ys, zs, hD, hl', pm, hlen, k', pen'⟩
      have pl := pm.length_eq
      rw [List.length_append] at pl
      have hz : 0 < zs.length := by omega
      refine ⟨rfl, tyes_of ?_⟩
      refine ⟨.ref lf, rfl, .inl ⟨rfl, _, .inl (.inl hl')⟩, .ref p, rfl, .ref lf, rfl, .ref lf, _, rfl, .inl ⟨_, .of hl', rfl⟩, p, c, n + 1 + i, _, rfl, pen', by omega, by omega, small_pow (by omega) (by omega), fun e H3 e0 e1 k3 pen3 => ?_⟩
      have hlf3 := k3 _ _ hlfp hl'
      have hD3 := k3 _ _ hDp hD
      have he : e.toNat < zs.length := by omega
      refine ⟨lf, zs, e, e.toNat, zs[e.toNat], rfl, rfl, hlf3, by omega, by omega, ?_, List.getElem?_eq_getElem he, ?_⟩
      · exact seqIndex_of e0 e1
      · refine ⟨ys, ?_, sz_lt (by omega), ys ++ [zs[e.toNat]], zs.eraseIdx e.toNat, upd_same, ?_, ?_, ?_, ?_, ?_⟩
        · rw [upd_ne hDlf]
          exact hD3
        · rw [upd_ne hDlf.symm, upd_same]
        · refine List.Perm.trans ?_ pm
          rw [List.append_assoc]
          exact List.Perm.append_left _ (erase_perm he)
        · rw [List.length_append, hlen]
          rfl
        · exact ((k'.trans k3).mut nlf).mut nD0
        · exact (pen3.mut hlfp hlfc).mut hDp hDc
    · rintro H' ⟨ys, zs, hD, hl', pm, hlen, k', pen'⟩
      refine q D ys zs H' pm (by omega) (by omega) nD0 hD hDp k' ?_
      rw [hlen]
      exact pen'
end
end LC
namespace LC
open PySem PySem.Spec PyProof.Rows L2
def pool1 : List Str := ["a", "b", "c", "d", "e", "f", "g"]
def pool2 : List Str := ["x", "xy", "xyz", "xyzz", "xyzzz", "xyzzzz", "y"]
def pool3 : List Str := ["tell", "loop", "end", "given", "fixed", "r", "x"]
def pool4 : List Str := ["zzzzzz", "aaaaaa", "azazaz", "z", "zz", "store", "result"]
theorem pools_ok : ∀ q ∈ [pool1, pool2, pool3, pool4], q.Nodup ∧ (∀ t ∈ q, nameB t = true) ∧ q.length = 7 := by decide +kernel
section
variable {P : Program} {w : World} {K : PySem.W.Frag} {mg : Str → Option Value} {base : Heap}
abbrev s_names : Stmt := topS 40
theorem sc_names : FnScope ["pen", "many", "pools"] ["pen", "many"] (defScope s_names) := ⟨rfl, rfl, rfl, by decide +kernel, rfl, by decide +kernel, by decide +kernel⟩
theorem ok_names {f : Addr} {fd : FuncData} (T : Txt mg) (F : FnP K "_law_names" s_names f fd) (c__law_pick : Cal P w K mg base CX0 2 "_law_pick" ["pen", "some"] spPick) (c__law_some : Cal P w K mg base CX0 2 "_law_some" ["pen", "pool", "least", "most"] spSome) :
    FnOk P w K mg base CX0 3 f fd ["pen", "many"] spNames := by
  have sc := sc_names
  refine F.ok sc (fun vs H Q E h => ?_) (fun cdv A outer s H vs Q E hr h => ?_)
  · obtain ⟨p, c, n, m, rfl, _⟩ := h
    rfl
  · obtain ⟨p, c, n, m, rfl, hP, hn, h0, h7, q⟩ := h
    refine ⟨_, PSs.nox (pss_cons (ps_set (i := 2) sc.nd rfl (.inl rfl) (pe_lst (pa_cons (pe_lst (pa_cons pe_str (pa_cons pe_str (pa_cons pe_str (pa_cons pe_str (pa_cons pe_str (pa_cons pe_str (pa_cons pe_str pa_nil)))))))) (pa_cons (pe_lst (pa_cons pe_str (pa_cons pe_str (pa_cons pe_str (pa_cons pe_str (pa_cons pe_str (pa_cons pe_str (pa_cons pe_str pa_nil)))))))) pa_nil))))
(pss_cons (ps_expr (pe_bm PySem.F.plainAttrs_list PySem.F.slot_list_append PySem.F.type_list_append mt_append (pv 2) (pa_cons (pe_lst (pa_cons pe_str (pa_cons pe_str (pa_cons pe_str (pa_cons pe_str (pa_cons pe_str (pa_cons pe_str (pa_cons pe_str pa_nil)))))))) pa_nil)))
(pss_cons (ps_expr (pe_bm PySem.F.plainAttrs_list PySem.F.slot_list_append PySem.F.type_list_append mt_append (pv 2) (pa_cons (pe_lst (pa_cons pe_str (pa_cons pe_str (pa_cons pe_str (pa_cons pe_str (pa_cons pe_str (pa_cons pe_str (pa_cons pe_str pa_nil)))))))) pa_nil)))
(pss_one (ps_ret (pe_cal c__law_some hr (by rfl) pass0 (pa_cons (pv 0) (pa_cons (pe_cal c__law_pick hr (by rfl) pass0 (pa_cons (pv 0) (pa_cons (pv 2) pa_nil))) (pa_cons (pv 1) (pa_cons (pv 1) pa_nil)))))))))), ?_⟩
    -- pools
    refine ⟨szn 7, alloc_of fun l1 H1 n1 s1 e1 => ⟨szn 7, alloc_of fun l2 H2 n2 s2 e2 => ⟨szn 2, alloc_of fun l0 H3 n0 s3 e0 => ?_⟩⟩⟩
    refine ⟨.ref l0, rfl, .inl ⟨rfl, _, .inl (.inl e0)⟩, szn 7, alloc_of fun l3 H4 n3 s4 e3 => ?_⟩
    refine ⟨l0, _, _, rfl, rfl, s4 _ _ e0, by show 2 < sizeLine; decide, set_of fun H5 k5 e5 => ?_⟩
    refine ⟨.ref l0, rfl, .inl ⟨rfl, _, .inl (.inl e5)⟩, szn 7, alloc_of fun l4 H6 n4 s6 e4 => ?_⟩
    refine ⟨l0, _, _, rfl, rfl, s6 _ _ e5, by show 3 < sizeLine; decide, set_of fun H7 k7 e7 => ?_⟩
    have x1 : l1 ≠ l0 := (new_ne (s2 _ _ e1) n0).symm
    have x2 : l2 ≠ l0 := (new_ne e2 n0).symm
    have x3 : l3 ≠ l0 := new_ne e0 n3
    have x4 : l4 ≠ l0 := new_ne e5 n4
    have f1 := k7 _ _ x1 (s6 _ _ (k5 _ _ x1 (s4 _ _ (s3 _ _ (s2 _ _ e1)))))
    have f2 := k7 _ _ x2 (s6 _ _ (k5 _ _ x2 (s4 _ _ (s3 _ _ e2))))
    have f3 := k7 _ _ x3 (s6 _ _ (k5 _ _ x3 e3))
    have f4 := k7 _ _ x4 e4
    have P3 := ((hP.same s1).same s2).same s3
    have h0p : l0 ≠ p := ((hP.same s1).same s2).newP n0
    have h0c : l0 ≠ c := ((hP.same s1).same s2).newC n0
    have P7 := (((P3.same s4).but k5 h0p h0c).same s6).but k7 h0p h0c
    have m0 : H l0 = none := s1.free (s2.free n0)
    have K7 : But p H H7 := ((((((But.same s1).trans (.same s2)).trans (.same s3)).trans (.same s4)).more m0 k5).trans (.same s6)).more m0 k7
    have h1p : l1 ≠ p := hP.newP n1
    have h2p : l2 ≠ p := (hP.same s1).newP n2
    have h3p : l3 ≠ p := P3.newP n3
    have h4p : l4 ≠ p := ((P3.same s4).but k5 h0p h0c).newP n4
    -- _law_some(pen, _law_pick(pen, pools), many, many)
    refine ⟨.ref p, rfl, .ref p, rfl, .ref l0, rfl, p, c, n, l0, _, rfl, P7, by omega, e7, h0p, by show 0 < 4; decide, by show 4 ≤ 1000; decide, fun v H8 hv k8 P8 => ?_⟩
    have K8 := K7.trans k8
    have fin : ∀ (l : Addr) (pool : List Str), v = .ref l → pool ∈ [pool1, pool2, pool3, pool4] → H7 l = some (.lst (pool.map V.str)) → l ≠ p → spSome [.ref p, v, .int m, .int m] H8 Q E0 := by
      intro l pool ev hpool fl hlp
      obtain ⟨nd, ok, len⟩ := pools_ok pool hpool
      subst ev
      refine ⟨p, c, n + 1, l, _, m, m, rfl, P8, k8 _ _ hlp fl, hlp, ?_, h0, Int.le_refl _, ?_, ?_, fun r ys zs H9 pm a1 a2 nr er hr k9 P9 => ?_⟩
      · rw [List.length_map, len]
        decide
      · rw [List.length_map, len]
        exact h7
      · rw [List.length_map, len]
        omega
      · obtain ⟨ts, ey, nd2, mem⟩ := some_strs pm nd
        subst ey
        rw [List.length_map] at a1 a2 P9
        exact q r ts H9 nd2 (fun t ht => ok t (mem t ht)) (by omega) (K8.free hr nr) er hr (K8.trans k9) (P9.mono (by omega))
    refine ⟨.int m, rfl, .int m, rfl, ?_⟩
    have hv' : v = .ref l1 ∨ v = .ref l2 ∨ v = .ref l3 ∨ v = .ref l4 := by
      have z : v ∈ [V.ref l1, V.ref l2, V.ref l3, V.ref l4] := hv
      simpa using z
    rcases hv' with e | e | e | e
    · exact fin l1 pool1 e (by decide) f1 h1p
    · exact fin l2 pool2 e (by decide) f2 h2p
    · exact fin l3 pool3 e (by decide) f3 h3p
    · exact fin l4 pool4 e (by decide) f4 h4p
end
end LC
namespace LC
open PySem PySem.Spec PyProof.Rows L2
section
variable {P : Program} {w : World} {K : PySem.W.Frag} {mg : Str → Option Value} {base : Heap}
abbrev s_factor : Stmt := topS 41
theorem sc_factor : FnScope ["pen", "menu"] ["pen"] (defScope s_factor) := ⟨rfl, rfl, rfl, by decide +kernel, rfl, by decide +kernel, by decide +kernel⟩
theorem ok_factor {f : Addr} {fd : FuncData} (T : Txt mg) (F : FnP K "_law_factor" s_factor f fd) (c__law_draw : Cal P w K mg base CX0 2 "_law_draw" ["pen", "many"] spDraw) (c__law_pick : Cal P w K mg base CX0 2 "_law_pick" ["pen", "some"] spPick) :
    FnOk P w K mg base CX0 3 f fd ["pen"] spFactor := by
  have sc := sc_factor
  refine F.ok sc (fun vs H Q E h => ?_) (fun cdv A outer s H vs Q E hr h => ?_)
  · obtain ⟨p, c, n, rfl, _⟩ := h
    rfl
  · obtain ⟨p, c, n, rfl, hP, hn, q⟩ := h
    refine ⟨_, PSs.nox (pss_cons (ps_set (i := 1) sc.nd rfl (.inl rfl) (pe_lst (pa_cons pe_int (pa_cons pe_int (pa_cons pe_int (pa_cons (pe_un un_neg pe_int) (pa_cons (pe_un un_neg pe_int) (pa_cons pe_int (pa_cons (pe_un un_neg pe_int) (pa_cons pe_int (pa_cons (pe_un un_neg pe_int) pa_nil)))))))))))
(pss_one (ps_ret (pe_cal c__law_pick hr (by rfl) pass0 (pa_cons (pv 0) (pa_cons (pe_op op_cat (pv 1) (pe_lst (pa_cons (pe_op op_sub (pe_cal c__law_draw hr (by rfl) pass0 (pa_cons (pv 0) (pa_cons pe_int pa_nil))) pe_int) (pa_cons (pe_op op_sub (pe_cal c__law_draw hr (by rfl) pass0 (pa_cons (pv 0) (pa_cons pe_int pa_nil))) pe_int) pa_nil)))) pa_nil)))))), ?_⟩
    refine ⟨_, rfl, _, rfl, _, rfl, _, rfl, szn 9, alloc_of fun l H1 n1 s1 e1 => ?_⟩
    have hlp : l ≠ p := hP.newP n1
    refine ⟨.ref p, rfl, .ref l, rfl, .ref p, rfl, p, c, n, _, rfl, hP.same s1, by omega, by decide, by decide, fun d1 H2 a0 a1 k2 P2 => ?_⟩
    refine ⟨_, _, rfl, rfl, .ref p, rfl, p, c, n + 1, _, rfl, P2, by omega, by decide, by decide, fun d2 H3 b0 b1 k3 P3 => ?_⟩
    refine ⟨_, _, rfl, rfl, szn 2, fun l2 n4 => ?_⟩
    generalize hH4 : upd H3 l2 _ = H4
    obtain ⟨s4, e4⟩ := alloc_eq n4 hH4
    have f1 := s4 _ _ (k3 _ _ hlp (k2 _ _ hlp e1))
    refine ⟨l, l2, _, _, rfl, rfl, f1, e4, by show 11 ≤ sizeLine; decide, alloc_of fun l3 H5 n5 s5 e5 => ?_⟩
    have P5 := (P3.same s4).same s5
    refine ⟨p, c, n + 2, l3, _, rfl, P5, by omega, e5, (P3.same s4).newP n5, by show 0 < 11; decide, by show 11 ≤ 1000; decide, fun v H6 hv k6 P6 => ?_⟩
    have K6 : But p H H6 := (((((But.same s1).trans k2).trans k3).trans (.same s4)).trans (.same s5)).trans k6
    have hv' : v ∈ ([.int 0, .int 1, .int 1, .int (-1), .int (-1), .int 2, .int (-2), .int 999999, .int (-999999), .int (d1 - 999999), .int (d2 - 999999)] : List V) := hv
    simp only [List.mem_cons, List.not_mem_nil, or_false] at hv'
    rcases hv' with e | e | e | e | e | e | e | e | e | e | e <;> (subst e; exact q _ H6 (by omega) (by omega) K6 P6)
abbrev s_terms : Stmt := topS 42
theorem sc_terms : FnScope ["pen", "names", "found", "lap", "many", "spot"] ["pen", "names"] (defScope s_terms) := ⟨rfl, rfl, rfl, by decide +kernel, rfl, by decide +kernel, by decide +kernel⟩
theorem ok_terms {f : Addr} {fd : FuncData} (T : Txt mg) (F : FnP K "_law_terms" s_terms f fd) (c__law_draw : Cal P w K mg base CX0 3 "_law_draw" ["pen", "many"] spDraw) (c__law_pick : Cal P w K mg base CX0 3 "_law_pick" ["pen", "some"] spPick)
    (c__law_factor : Cal P w K mg base CX0 3 "_law_factor" ["pen"] spFactor) : FnOk P w K mg base CX0 4 f fd ["pen", "names"] (spTerms K) := by
  have sc := sc_terms
  refine F.ok sc (fun vs H Q E h => ?_) (fun cdv A outer s H vs Q E hr h => ?_)
  · obtain ⟨p, c, n, l, ys, rfl, _⟩ := h
    rfl
  · obtain ⟨p, c, n, l, ys, rfl, hP, hn, hl, hlp, hys, hnm, q⟩ := h
    refine ⟨_, PSs.nox (pss_cons (ps_set (i := 2) sc.nd rfl (.inl rfl) (pe_lst pa_nil))
(pss_cons (ps_for PassesOwn.never rfl (pi_range1 rfl T.n_range (pa_cons (pe_op op_add pe_int (pe_cal c__law_draw hr (by rfl) pass0 (pa_cons (pv 0) (pa_cons pe_int pa_nil)))) pa_nil)) (pg_name (i := 3) sc.nd rfl (.inl rfl))
  (Evl.pss_cut (ps_set (i := 4) sc.nd rfl (.inl rfl) (pe_ifExp (pt_cmpR (op_neD hr.units) (pv 1) (pe_lst pa_nil) (nomark _)) (pe_ix ix_list (pe_lst (pa_cons pe_int (pa_cons pe_int (pa_cons pe_int (pa_cons pe_int (pa_cons pe_int pa_nil)))))) (pe_cal c__law_draw hr (by rfl) pass0 (pa_cons (pv 0) (pa_cons pe_int pa_nil))) (fun _ _ => rfl)) pe_int))
  (pss_one (ps_expr (pe_bm PySem.F.plainAttrs_list PySem.F.slot_list_append PySem.F.type_list_append mt_append (pv 2) (pa_cons (pe_tup (pa_cons (pe_cal c__law_factor hr (by rfl) pass0 (pa_cons (pv 0) pa_nil)) (pa_cons (pe_callTy call_tuple_of (by rfl) T.n_tuple (by decide +kernel) (pa_cons (pe_lc (own := [("spot", 5)]) (g := (gName 5)) (te := (tCal spPick E0 (tCons (tVar 0) (tCons (tVar 1) tNil)))) (tt := tYes) rfl sc.nd (pi_range1 rfl T.n_range (pa_cons (pv 4) pa_nil)) (blkOk_by (N := ["pen", "names", "found", "lap", "many", "spot"]) (sc := defScope s_terms) (by decide +kernel)) (fun _ _ _ _ _ => by exact (pg_name (i := 5) sc.nd rfl (.inl rfl))) (fun _ _ _ _ _ => by exact pts_nil) (fun _ _ _ _ _ => by exact (pe_cal c__law_pick hr (by rfl) pass0 (pa_cons (pv 0) (pa_cons (pv 1) pa_nil))))) pa_nil)) pa_nil))) pa_nil))))))
(pss_one (ps_ret (pv 2))))), ?_⟩
    refine ⟨szn 0, alloc_of fun fo H1 n1 s1 e1 => ?_⟩
    have hfp : fo ≠ p := hP.newP n1
    have hfc : fo ≠ c := hP.newC n1
    refine ⟨.ref p, rfl, p, c, n, _, rfl, hP.same s1, by omega, by decide, by decide, fun d H2 d0 d1 k2 P2 => ?_⟩
    refine ⟨_, _, rfl, rfl, _, rfl, by omega, by omega, ?_⟩
    refine for_range (n := (1 + d).toNat) (fun i σ H' => ∃ (a b : Option V) (us : List V) (ts : List Term), σ = [some (.ref p), some (.ref l), some (.ref fo), a, b, none] ∧ H' fo = some (.lst us) ∧ TermsV K H' us ts ∧ ts.length = i ∧ (∀ t ∈ ts, TermOk ys t) ∧ But p H H' ∧ Pen H' p c (n + 1 + 10 * i)) ?_ ?_ ?_
    · refine ⟨none, none, [], [], rfl, k2 _ _ hfp e1, .nil, rfl, fun t h => (nomatch h), (But.same s1).trans k2, P2⟩
    · rintro i σ H' hi ⟨a, b, us, ts, rfl, hfo, hts, hlen, hok, k', P'⟩
      have hl' := k' _ _ hlp hl
      -- many: behind it some number from 0 to 3, 0 where there are no names
      refine ⟨fun σ' H4 => ∃ z : Int, 0 ≤ z ∧ z ≤ 3 ∧ (z = 0 ∨ ys ≠ []) ∧ σ' = [some (.ref p), some (.ref l), some (.ref fo), some (.int (0 + (i : Int))), some (.int z), none] ∧ But p H' H4 ∧ Pen H4 p c (n + 1 + 10 * i + 1), ?_, ?_⟩
      · refine ⟨.ref l, rfl, szn 0, fun le n4 => ?_⟩
        generalize hH4 : upd H' le _ = H4
        obtain ⟨s4, e4⟩ := alloc_eq n4 hH4
        refine ⟨.list (ys.map PyData.str), .list [], .lst (.of (s4 _ _ hl')) (dpAll_strs ys), .lst (.of e4) .nil, shaped_names ys hnm, rfl, _, rfl, ?_⟩
        cases ys with
        | nil =>
          refine iteF ?_
          exact ⟨0, by decide, by decide, .inl rfl, rfl, .same s4, (P'.same s4).mono (by omega)⟩
        | cons y0 yr =>
          refine iteT ?_
          refine ⟨szn 5, fun l5 n5 => ?_⟩
          generalize hH5 : upd H4 l5 _ = H5
          obtain ⟨s5, e5⟩ := alloc_eq n5 hH5
          have h5 : l5 ≠ p := (P'.same s4).newP n5
          refine ⟨.ref p, rfl, p, c, _, _, rfl, (P'.same s4).same s5, by omega, by decide, by decide, fun e H6 e0 e1 k6 P6 => ?_⟩
          obtain ⟨v, ha, hv⟩ := atI_in (xs := ([.int 0, .int 1, .int 1, .int 2, .int 3] : List V)) e0 e1
          refine ⟨l5, _, e, v, rfl, rfl, k6.sql e5 h5, ha, ?_⟩
          simp only [List.mem_cons, List.not_mem_nil, or_false] at hv
          have K6 : But p H' H6 := ((But.same s4).trans (.same s5)).trans k6
          rcases hv with e | e | e | e | e <;> (subst e; exact ⟨_, by decide, by decide, .inr (List.cons_ne_nil _ _), rfl, K6, P6⟩)
      · rintro σ' H4 ⟨z, z0, z3, hz, rfl, k4, P4⟩
        have hfo4 := k4 _ _ hfp hfo
        obtain ⟨px, hpx⟩ := P'.at_
        -- the factor
        refine ⟨.ref fo, rfl, .inl ⟨rfl, _, .inl (.inl hfo4)⟩, .ref p, rfl, p, c, _, rfl, P4, by omega, fun fa H5 f0 f1 k5 P5 => ?_⟩
        -- the names
        refine ⟨.int z, rfl, z, rfl, by omega, by omega, fun D nD => ?_⟩
        have hDp : D ≠ p := P5.newP nD
        have hDc : D ≠ c := P5.newC nD
        refine lc_range (n := z.toNat) (fun j H6 => ∃ ws : List Str, H6 D = some (.lst (ws.map V.str)) ∧ ws.length = j ∧ (∀ x ∈ ws, x ∈ ys) ∧ But p H5 H6 ∧ Pen H6 p c (n + 1 + 10 * i + 4 + j)) ?_ ?_ ?_
        · exact ⟨[], upd_same, rfl, fun x h => (nomatch h), .new nD, P5.new nD⟩
        · rintro j H6 hj ⟨ws, hD, hw, hin, k6, P6⟩
          refine ⟨rfl, tyes_of ?_⟩
          have hl6 := k6 _ _ hlp (k5 _ _ hlp (k4 _ _ hlp hl'))
          have hy0 : 0 < (ys.map V.str).length := by
            rcases hz with e | e
            · omega
            · rw [List.length_map]
              exact List.length_pos_iff.mpr e
          refine ⟨.ref p, rfl, .ref l, rfl, p, c, _, l, _, rfl, P6, by omega, hl6, hlp, hy0, by rw [List.length_map]; omega, fun v H7 hv k7 P7 => ?_⟩
          obtain ⟨x, hx, rfl⟩ := List.mem_map.mp hv
          have hD7 := k7 _ _ hDp hD
          refine ⟨_, hD7, ?_, ws ++ [x], ?_, ?_, ?_, ?_, ?_⟩
          · rw [List.length_map]
            exact sz_lt (by omega)
          · rw [upd_same, List.map_append]
            rfl
          · rw [List.length_append, hw]
            rfl
          · intro q hq
            rcases List.mem_append.mp hq with hq | hq
            · exact hin q hq
            · rw [List.mem_singleton.mp hq]
              exact hx
          · exact (k6.trans k7).mut nD
          · exact P7.mut hDp hDc
        · rintro H6 ⟨ws, hD, hw, hin, k6, P6⟩
          refine ⟨D, _, rfl, .inl ⟨.of hD, fun tn ntn => ?_⟩⟩
          generalize hH7 : upd H6 tn _ = H7
          obtain ⟨s7, e7⟩ := alloc_eq ntn hH7
          refine ⟨szn 2, fun tt ntt => ?_⟩
          generalize hH8 : upd H7 tt _ = H8
          obtain ⟨s8, e8⟩ := alloc_eq ntt hH8
          have K8 : But p H' H8 := (((k4.trans k5).trans k6).trans (.same s7)).trans (.same s8)
          have hfo8 := K8 _ _ hfp hfo
          have hlen' : us.length = ts.length := hts.length
          refine ⟨fo, us, _, rfl, rfl, hfo8, sz_lt (by omega), ?_⟩
          generalize hH9 : upd H8 fo _ = H9
          have k9 : But fo H8 H9 := by
            rw [← hH9]
            exact .set
          have e9 : H9 fo = some (.lst (us ++ [.ref tt])) := by
            rw [← hH9]
            exact upd_same
          have t8 : TermV K H8 (.ref tt) (fa, ws) := ⟨tt, tn, rfl, .of e8, .of (s8 _ _ e7)⟩
          refine ⟨_, _, us ++ [.ref tt], ts ++ [(fa, ws)], rfl, e9, ?_, ?_, ?_, ?_, ?_⟩
          · exact ((hts.but K8 hpx).but k9 hfo8).snoc (t8.but k9 hfo8)
          · rw [List.length_append, hlen]
            rfl
          · intro t ht
            rcases List.mem_append.mp ht with ht | ht
            · exact hok t ht
            · rw [List.mem_singleton.mp ht]
              exact ⟨f0, f1, by show ws.length ≤ 3; omega, hin⟩
          · exact (k'.trans K8).more n1 k9
          · exact ((((P6.same s7).same s8).but k9 hfp hfc).mono (by omega))
    · rintro σ H' ⟨a, b, us, ts, rfl, hfo, hts, hlen, hok, k', P'⟩
      exact ⟨_, rfl, q fo us ts H' hts (by omega) (by omega) hok n1 hfo hfp k' (P'.mono (by omega))⟩
end
end LC
namespace LC
open PySem PySem.Spec PyProof.Rows L2
section
variable {P : Program} {w : World} {K : PySem.W.Frag} {mg : Str → Option Value} {base : Heap}
abbrev s_unlike : Stmt := topS 45
theorem sc_unlike : FnScope ["terms", "found", "factor", "names", "name"] ["terms"] (defScope s_unlike) := ⟨rfl, rfl, rfl, by decide +kernel, rfl, by decide +kernel, by decide +kernel⟩
theorem ok_unlike {f : Addr} {fd : FuncData} (T : Txt mg) (F : FnP K "_law_unlike" s_unlike f fd) : FnOk P w K mg base CX0 1 f fd ["terms"] (spUnlike K) := by
  have sc := sc_unlike
  refine F.ok sc (fun vs H Q E h => ?_) (fun cdv A outer s H vs Q E hr h => ?_)
  · obtain ⟨l, us, ts, rfl, _⟩ := h
    rfl
  · obtain ⟨l, us, ts, rfl, hl, hts, h10, h11, q⟩ := h
    refine ⟨_, PSs.nox (pss_cons (ps_set (i := 1) sc.nd rfl (.inl rfl) (pe_lst pa_nil))
(pss_cons (ps_for PassesOwn.never rfl (pi_list (pv 0)) (pg_tup rfl (pgs_cons (pg_name (i := 2) sc.nd rfl (.inl rfl)) (pgs_cons (pg_name (i := 3) sc.nd rfl (.inl rfl)) pgs_nil)))
  (pss_one (ps_for PassesOwn.never rfl (pi_tup (pv 3)) (pg_name (i := 4) sc.nd rfl (.inl rfl))
    (pss_one (ps_if (pt_cmpR op_notIn_seq (pv 4) (pv 1) (by rfl))
      (pss_one (ps_expr (pe_bm PySem.F.plainAttrs_list PySem.F.slot_list_append PySem.F.type_list_append mt_append (pv 1) (pa_cons (pv 4) pa_nil))))
      pss_nil)))))
(pss_one (ps_ret (pv 1))))), ?_⟩
    refine ⟨szn 0, fun fo n1 => ?_⟩
    generalize hH1 : upd H fo _ = H1
    obtain ⟨s1, e1⟩ := alloc_eq n1 hH1
    -- the terms
    refine ⟨.ref l, rfl, l, rfl, ⟨_, s1.seq hl⟩, for_list (K := K) (a := l) (xs := us) (fun i σ H' => ∃ a b c : Option V, σ = [some (.ref l), some (.ref fo), a, b, c] ∧ Same H H' ∧ H' fo = some (.lst ((unlike (ts.take i)).map V.str))) ⟨none, none, none, rfl, s1, e1⟩
      (fun i σ H' _ ⟨_, _, _, _, s, _⟩ => s.seq hl) ?_ ?_⟩
    · rintro i x σ H' hi ⟨a, b, c, rfl, sm, hfo⟩
      obtain ⟨t, ht, ta, tb, rfl, h1, h2⟩ := paired_get hts hi
      have hm : t ∈ ts := List.mem_of_getElem? ht
      refine ⟨ta, _, rfl, sqt_same sm h1, rfl, .int t.1, [.ref tb], rfl, .ref tb, [], rfl, rfl, ?_⟩
      -- the names
      have g2 := sqt_same sm h2
      refine ⟨.ref tb, rfl, tb, rfl, ⟨_, g2⟩, for_tup (K := K) (a := tb) (xs := t.2.map V.str) (fun j σ H2 => ∃ c : Option V, σ = [some (.ref l), some (.ref fo), some (.int t.1), some (.ref tb), c] ∧ Same H H2 ∧ H2 fo = some (.lst (((t.2.take j).foldl addN (unlike (ts.take i))).map V.str))) ⟨c, rfl, sm, hfo⟩
        (fun j σ H2 _ ⟨_, _, s, _⟩ => sqt_same s h2) ?_ ?_⟩
      · rintro j y σ H2 hj ⟨c, rfl, s2, hfo2⟩
        rw [List.getElem?_map] at hj
        obtain ⟨z, hz, rfl⟩ := Option.map_eq_some_iff.mp hj
        have nx := addN_next (acc := unlike (ts.take i)) hz
        have ln : ((t.2.take j).foldl addN (unlike (ts.take i))).length ≤ 1000 := by
          have a1 := foldN_len (t.2.take j) (unlike (ts.take i))
          have a2 := unlike_len (ts.take i) [] fun q hq => h11 q (List.mem_of_mem_take hq)
          have a3 : (ts.take i).length ≤ 10 := by
            rw [List.length_take]
            omega
          have a4 : (t.2.take j).length ≤ 10 := by
            rw [List.length_take]
            have := h11 t hm
            omega
          have a5 : ([] : List Str).length = 0 := rfl
          unfold unlike at a1 ⊢
          omega
        refine ⟨.str z, rfl, .ref fo, rfl, fo, _, rfl, .inl (.of hfo2), rfl, flat_strs _, _, rfl, ?_⟩
        rw [if_pos rfl, inV_str]
        refine iteND (fun hn => ?_) (fun hn => ?_)
        · refine ⟨.ref fo, rfl, .inl ⟨rfl, _, .inl (.inl hfo2)⟩, .str z, rfl, fo, _, _, rfl, rfl, hfo2, ?_, ?_⟩
          · rw [List.length_map]
            exact sz_lt (by omega)
          · refine ⟨some (.str z), rfl, ?_, ?_⟩
            · exact fun b o e => by
                rw [upd_ne (ne_of_none e n1)]
                exact s2 b o e
            · rw [upd_same, nx, addN_new hn, List.map_append]
              rfl
        · refine ⟨some (.str z), rfl, s2, ?_⟩
          rw [nx, addN_old hn]
          exact hfo2
      · rintro σ H2 ⟨c, rfl, s2, hfo2⟩
        refine ⟨_, _, c, rfl, s2, ?_⟩
        rw [unlike_next ht]
        rw [List.length_map, List.take_length] at hfo2
        exact hfo2
    · rintro σ H' ⟨a, b, c, rfl, sm, hfo⟩
      refine ⟨.ref fo, rfl, q fo H' n1 sm ?_⟩
      rw [hts.length, List.take_length] at hfo
      exact hfo
end
end LC
/-! LcEnum: for i, x in enumerate(t), t a tuple. -/
namespace LC
open PySem PySem.Spec PyProof.Rows L2
open AutoSeq1 (wpAny_loadPart')
theorem enum_newT (l : Addr) (items : Array Value) (n : Nat) (dct : Option Addr) (sl : Array (Option Value)) :
    Meets (Builtin.«enumerate.__new__» ⟨[.type "enumerate", .ref l], []⟩) (fun _ R s => s.heap.get? l = some { cls := .type "tuple", dict := dct, data := .seq items n, slots := sl } ∧
      R (.ok (.ret (.ref (s.heap.push { cls := .type "tuple_iterator", data := .fields #[.ref l, .int 0 0] }).objs.size)))
        { s with heap := (s.heap.push { cls := .type "tuple_iterator", data := .fields #[.ref l, .int 0 0] }).push { cls := .type "enumerate", data := .fields #[.none, .bool false, .ref s.heap.objs.size, rawInt 0, .none, .none] } }) :=
  .of_wp fun pr wo A R s h => by
    obtain ⟨hp, g, d, tk, os⟩ := s
    obtain ⟨hl, h⟩ := h
    have sub := sub_enumerate
    have hT : Heap.IsTuple (Shared.heap ⟨hp, g, d, tk, os⟩) l items := ⟨_, hl, rfl, n, rfl⟩
    wp_walk using wpAny_loadPart' hl
    refine wpAny_stack_any fun st => wpAny_pure ?_
    split
    · rename_i c _ _ _ _ _
      cases (c == Value.type "enumerate")
      all_goals
        wp_walk using wpAny_loadPart' hl, wpAny_pyIter_tuple hT
        exact ⟨_, rfl, h⟩
    · wp_walk using wpAny_loadPart' hl, wpAny_pyIter_tuple hT
      exact ⟨_, rfl, h⟩
theorem call_enumT {prog : Program} {w : World} {A : Around} {E : Value → Shared → Prop} {s : Shared} {l : Addr} {items : Array Value} {Q : Value → Shared → Prop} (hL : s.heap.IsTuple l items)
    (h : ∀ h', IsEnum h' (s.heap.objs.size + 1) s.heap.objs.size 0 .none → h'.IsTupleIter s.heap.objs.size l 0 → (∀ b o, s.heap.get? b = some o → h'.get? b = some o) → Q (.ref (s.heap.objs.size + 1)) { s with heap := h' }) :
    wpAny (model prog w) A (call (.type "enumerate") [.ref l]) Q E s := by
  obtain ⟨⟨c, dct, dt, sl⟩, hl, hc, n, hd⟩ := hL
  cases (show c = .type "tuple" from hc)
  cases (show dt = .seq items n from hd)
  refine callType_new F.called_enumerate (by decide) (F.typeCall_enumerate_1 _) (F.newCall_enumerate_1 _) (fun obj => F.args_object_init_2 obj _) F.entry_enumerate_new (enum_newT l items n dct sl) ⟨hl, ?_⟩
  have z1 : (s.heap.push { cls := .type "tuple_iterator", data := .fields #[.ref l, .int 0 0] }).objs.size = s.heap.objs.size + 1 := Heap.size_push ..
  show _ ∧ _
  rw [z1]
  have e1 := Heap.get?_push_size (s.heap.push { cls := .type "tuple_iterator", data := .fields #[.ref l, .int 0 0] }) (o := { cls := .type "enumerate", data := .fields #[.none, .bool false, .ref s.heap.objs.size, rawInt 0, .none, .none] }) rfl
  rw [z1] at e1
  refine ⟨⟨_, e1, rfl⟩, h _ e1 ⟨_, Heap.get?_push_of_some _ (Heap.get?_push_size _ rfl), rfl, rfl⟩ fun b o x => Heap.get?_push_of_some _ (Heap.get?_push_of_some _ x)⟩
/-- the tuple at a, its items in new pairs with their places -/
def IteT (K : PySem.W.Frag) (a : Addr) : It :=
  ⟨fun i H => ∃ (xs : List V) (x : V), SqT K H a xs ∧ xs[i]? = some x, fun i H v H' => ∃ T x, v = .ref T ∧ H T = none ∧ H' = upd H T (.tup [.int (i : Nat), x]) ∧ ∀ xs, SqT K H a xs → xs[i]? = some x, fun i H => ∃ xs : List V, SqT K H a xs ∧ xs.length ≤ i⟩
theorem turn_enumT {P : Program} {w : World} {K : PySem.W.Frag} {elts : List Expr} {kk : Nat} {tpos : Pos} (a e it : Addr) :
    Turn P w K (.Tuple elts kk tpos) (IteT K a) [e, it] e (fun i h => (∃ old, IsEnum h e it ((i : Nat) : Int) old) ∧ h.IsTupleIter it a i ∧ e ≠ it) where
  mem := by simp
  obj := fun i h st b hb => by
    obtain ⟨⟨old, he⟩, ⟨o, ho, hc, hd⟩, _⟩ := st
    have q : b = e ∨ b = it := by simpa using hb
    cases q with
    | inl z =>
      rw [z]
      exact ⟨_, he, fun v q => nomatch q⟩
    | inr z =>
      rw [z]
      refine ⟨o, ho, fun v q => ?_⟩
      rw [hd] at q
      cases q
  keep := fun i h h' st k => by
    obtain ⟨⟨old, he⟩, hi, hne⟩ := st
    exact ⟨⟨old, k e (by simp) _ he⟩, hi.at fun o q => k it (by simp) o q, hne⟩
  item := by
    intro X hP hw hK hc i pins s σ H E I hf st hg
    cases hP
    cases hw
    cases hK
    obtain ⟨⟨old, he⟩, hit, hne⟩ := st
    obtain ⟨xs, x, hq, hx⟩ := hg
    obtain ⟨its, rv, p, hz⟩ := I.tuple hq
    obtain ⟨u, hu, ru⟩ := rv.get hx
    have pT : s.heap.IsTuple a its.toArray := p
    have hel : e < s.heap.objs.size := Heap.lt_size he
    have hil : it < s.heap.objs.size := by
      obtain ⟨_, q, _⟩ := hit
      exact Heap.lt_size q
    have neT : ∀ {b : Addr}, b ∈ [e, it] → a ≠ b := fun {b} hb z => by
      obtain ⟨oa, ha, ca, _⟩ := pT
      rw [z] at ha
      have q : b = e ∨ b = it := by simpa using hb
      cases q with
      | inl z =>
        rw [z] at ha
        rw [he] at ha
        cases ha
        injection ca with z2
        exact absurd z2 (by decide)
      | inr z =>
        obtain ⟨oi, hi, ci, _⟩ := hit
        rw [z, hi] at ha
        cases ha
        rw [ci] at ca
        injection ca with z2
        exact absurd z2 (by decide)
    have hlt : i < its.toArray.size := by
      have q := (List.getElem?_eq_some_iff.mp hu).1
      simpa using q
    refine wpAny_pyNext_enum_itemD (fp := [it, a]) (Draws.tuple (A := X.A.in1) (I.ok.hd hc) it a (neT (by simp)) its.toArray) he ⟨hit, pT⟩ hlt hne (by
      simp only [List.mem_cons, List.not_mem_nil, or_false]
      rintro (z | z)
      · exact hne z
      · exact neT (b := e) (by simp) z.symm) fun y h' tk hy ho hst hT hsz hk => ?_
    have ey : y = u := by
      have q : its.toArray[i]? = some u := by simpa using hu
      exact Option.some.inj ((show its.toArray[i]? = some y from hy).symm.trans q)
    subst ey
    refine ⟨_, rfl, wpAny_letOwnedTupleGo_enum (s := { s with heap := h', toks := tk + 1 }) ho fun h2 he' sb => ?_⟩
    have hT2 : h2.get? s.heap.objs.size = some { cls := .type "tuple", data := .seq #[.int i tk, y] } := (sb.2 _ (Nat.ne_of_gt hel)).trans hT
    have new : ObjOk X.prog X.w (upd H s.heap.objs.size (.tup [.int (i : Nat), x])) h2 s.heap.objs.size (.tup [.int (i : Nat), x]) := ⟨by show 2 ≤ sizeLine; decide, [.int i tk, y], .cons ⟨_, rfl⟩ (.cons ru .nil), ⟨_, hT2, rfl, _, rfl⟩⟩
    have I1 : Inv X pins σ (upd H s.heap.objs.size (.tup [.int (i : Nat), x])) { s with heap := h2, toks := tk + 1 } :=
      I.turnedNew (ch := [e, it]) (fun b ob hb q => (sb.2 b (fun z => hb (by simp [z]))).trans (hk b ob (fun z => hb (by simp [z])) (fun z => hb (by simp [z])) q)) hf (Nat.le_refl _) new
    refine ⟨.ref s.heap.objs.size, _, I1, rfl, ⟨_, x, rfl, I.hok.fresh (Nat.le_refl _), rfl, fun ys hy2 => ?_⟩, ⟨⟨y, ?_⟩, hst.1.at fun o q => (sb.2 it (Ne.symm hne)).trans q, hne⟩, fun b hb => ?_⟩
    · rw [I.tuple_inj hy2 hq]
      exact hx
    · have e1 : ((i + 1 : Nat) : Int) = (i : Int) + 1 := by omega
      rw [e1]
      exact he'
    · have hb' : b < s.heap.objs.size := by
        have q : b = e ∨ b = it := by simpa using hb
        cases q with
        | inl z => rw [z]; exact hel
        | inr z => rw [z]; exact hil
      rw [upd_ne (Nat.ne_of_lt hb')]
      exact (hf b hb).1
  done := by
    intro X hP hw hK hc i pins s σ H E I hf st hg
    cases hP
    cases hw
    cases hK
    obtain ⟨⟨old, he⟩, hit, hne⟩ := st
    obtain ⟨xs, hq, hx⟩ := hg
    obtain ⟨its, rv, p, hz⟩ := I.tuple hq
    obtain ⟨f0, f1, f2, f3, f4, f5⟩ := hf it (by simp)
    have pT : s.heap.IsTuple a its.toArray := p
    have hl := rv.length
    have hnone : its.toArray[i]? = none := by
      simp
      omega
    have neA : a ≠ it := fun z => by
      obtain ⟨oa, ha, ca, _⟩ := pT
      obtain ⟨oi, hi, ci, _⟩ := hit
      rw [z, hi] at ha
      cases ha
      rw [ci] at ca
      injection ca with z2
      exact absurd z2 (by decide)
    have D : Draws X.prog X.w X.A.in1 it [it, a] i (fun _ _ => False) (fun j h => j = i ∧ h.IsTupleIter it a i ∧ h.IsTuple a its.toArray) :=
      { live := fun j h st => by
          obtain ⟨_, ⟨o, ho, _⟩, _⟩ := st
          exact ⟨o, ho⟩
        frame := fun j h h' st hk => ⟨st.1, st.2.1.at fun o q => hk it (by simp) o q, by
          obtain ⟨o, ho, r⟩ := st.2.2
          exact ⟨o, hk a (by simp) o ho, r⟩⟩
        item := fun j s Q E hj st _ => absurd st.1 (Nat.ne_of_lt hj)
        done := fun s Q E st hE => wpAny_nextOf_tuple_end (show X.A.in1.handled = none from I.ok.hd hc) st.2.1 st.2.2 hnone hE }
    exact wpAny_pyNext_enum_endD D he ⟨rfl, hit, pT⟩ fun h' eb => ⟨rfl, I.turned (t' := s.toks) (fun b o hb q => eb b o hb q) f0 f1 f3 f4 f5⟩
  self := fun A i s Q E st h => by
    obtain ⟨⟨_, he⟩, _⟩ := st
    exact wpAny_pyIter_enum he h
def iEnumT (K : PySem.W.Frag) (ta : TA) : TI := fun σ H R => ta σ H fun vs H1 => ∃ a xs, vs = [.ref a] ∧ SqT K H1 a xs ∧ R (IteT K a) H1
theorem pi_enumT {X : Cx} {e : Expr} {ta : TA} {p pos tpos : Pos} {elts : List Expr} {kk : Nat} (hg : Gl X "enumerate") (hm : X.mg "enumerate" = none) (ha : PA X [e] ta) (hs : starEach [e] X.env = [(false, eval e X.env)] := by rfl) :
    PI X (.Tuple elts kk tpos) (.Call (.Name "enumerate" p) [e] [] pos) (iEnumT X.K ta) := by
  constructor
  intro pins s σ H R I h
  refine Call_ (ld_blt I hg hm boot_enumerate (PyProof.Rows.callWith_type1 (thn (ha.run pos pins s σ H _ I h) fun us s1 ⟨vs, H1, I1, r1, q1⟩ => ?_) hs rfl))
  obtain ⟨a, xs, ex, hq, q⟩ := q1
  subst ex
  obtain ⟨u, rfl, ru⟩ := vals1 r1
  obtain rfl : u = Value.ref a := ru
  obtain ⟨its, rv, p', hz⟩ := I1.tuple hq
  refine call_enumT (show s1.heap.IsTuple a its.toArray from p') fun h' he hit hk => wpAny_pyIter_enum he ?_
  have I2 : Inv X pins σ H1 { s1 with heap := h' } := I1.kept (t' := s1.toks) hk
  refine ⟨s1.heap.objs.size + 1, [s1.heap.objs.size + 1, s1.heap.objs.size], _, _, H1, rfl, I2, turn_enumT a (s1.heap.objs.size + 1) s1.heap.objs.size, ⟨⟨.none, he⟩, hit, Nat.succ_ne_self _⟩, fun b hb => ?_, q⟩
  have z : b = s1.heap.objs.size + 1 ∨ b = s1.heap.objs.size := by simpa using hb
  have hle : s1.heap.objs.size ≤ b := by
    cases z with
    | inl z => rw [z]; exact Nat.le_add_right _ _
    | inr z => rw [z]; exact Nat.le_refl _
  exact I1.fpOk hle (I1.hok.fresh hle)
theorem walk_enumT {K : PySem.W.Frag} {a : Addr} {xs : List V} : Walk (IteT K a) xs.length (fun H => SqT K H a xs) (YPair (fun i => some (.int (i : Nat))) (fun i => xs[i]?)) := by
  refine ⟨fun i H hi q => ⟨xs, xs[i], q, by simp [hi]⟩, fun H q => ⟨xs, q, Nat.le_refl _⟩, fun i H v H' hi q y => ?_⟩
  obtain ⟨T, x, y1, y2, y3, y4⟩ := y
  exact ⟨T, .int (i : Nat), x, y1, y2, y3, rfl, y4 xs q⟩
end LC
namespace LC
open PySem PySem.Spec PyProof.Rows L2
theorem letters_mem (c : Nat) : c ∈ ("abcdefghijklmnopqrstuvwxyz" : Str).cps.toList ↔ 97 ≤ c ∧ c ≤ 122 := by
  have e : ("abcdefghijklmnopqrstuvwxyz" : Str).cps.toList = List.range' 97 26 := by decide +kernel
  rw [e, List.mem_range'_1]
  omega
theorem letters_dec (c : Nat) : decide (c ∈ ("abcdefghijklmnopqrstuvwxyz" : Str).cps.toList) = (decide (97 ≤ c) && decide (c ≤ 122)) := by
  rw [← Bool.decide_and]
  exact decide_eq_decide.mpr (letters_mem c)
section
variable {P : Program} {w : World} {K : PySem.W.Frag} {mg : Str → Option Value} {base : Heap}
abbrev s_is_integer : Stmt := topS 14
theorem sc_is_integer : FnScope ["value"] ["value"] (defScope s_is_integer) := ⟨rfl, rfl, rfl, by decide +kernel, rfl, by decide +kernel, by decide +kernel⟩
theorem ok_is_integer {f : Addr} {fd : FuncData} (T : Txt mg) (F : FnP K "is_integer" s_is_integer f fd) : FnOk P w K mg base CX0 1 f fd ["value"] (spIsInteger K) := by
  have sc := sc_is_integer
  refine F.ok sc (fun vs H Q E h => ?_) (fun cdv A outer s H vs Q E hr h => ?_)
  · obtain ⟨v, n, rfl, _⟩ := h
    rfl
  · obtain ⟨v, n, rfl, hn, ty, q⟩ := h
    refine ⟨_, PSs.nox (pss_one (ps_ret (pe_and (pe_callB call_isi (by rfl) T.n_isinstance (by decide +kernel) (pa_cons (pv 0) (pa_cons (pe_bty "int" T.n_int (by decide +kernel)) pa_nil))) (pe_one (pe_not (pe_callB call_isi (by rfl) T.n_isinstance (by decide +kernel) (pa_cons (pv 0) (pa_cons (pe_bty "bool" T.n_bool (by decide +kernel)) pa_nil)))))))), ?_⟩
    rw [intB_ty ty] at q
    refine ⟨v, rfl, v, .ty "int", .type n, .type "int", _, rfl, .ty _, ty, kit_k "int" (fun n => n == "int" || n == "bool") (by decide +kernel) hn, _, rfl, iteB (fun e1 => ?_) (fun e1 => ?_)⟩
    · refine ⟨v, rfl, v, .ty "bool", .type n, .type "bool", _, rfl, .ty _, ty, kit_k "bool" (fun n => n == "bool") (by decide +kernel) hn, _, rfl, ?_⟩
      have z : ∀ n ∈ kinds, (n == "int" || n == "bool") = true → (!(n == "bool")) = (n == "int") := by decide +kernel
      rw [z n hn e1]
      exact q
    · have z : ∀ n ∈ kinds, (n == "int" || n == "bool") = false → (n == "int") = false := by decide +kernel
      rw [z n hn e1] at q
      exact q
abbrev s_is_within : Stmt := topS 15
theorem sc_is_within : FnScope ["value", "least", "most"] ["value", "least", "most"] (defScope s_is_within) := ⟨rfl, rfl, rfl, by decide +kernel, rfl, by decide +kernel, by decide +kernel⟩
theorem ok_is_within {f : Addr} {fd : FuncData} (T : Txt mg) (F : FnP K "is_within" s_is_within f fd) (c_is_integer : Cal P w K mg base CX0 1 "is_integer" ["value"] (spIsInteger K)) : FnOk P w K mg base CX0 2 f fd ["value", "least", "most"] (spIsWithin K) := by
  have sc := sc_is_within
  refine F.ok sc (fun vs H Q E h => ?_) (fun cdv A outer s H vs Q E hr h => ?_)
  · obtain ⟨v, n, lo, hi, rfl, _⟩ := h
    rfl
  · obtain ⟨v, n, lo, hi, rfl, hn, ty, q⟩ := h
    refine ⟨_, PSs.nox (pss_one (ps_ret (pe_and (pe_cal c_is_integer hr (by rfl) pass0 (pa_cons (pv 0) pa_nil)) (pe_one (pe_chain op_le op_le (pv 1) (pv 0) (pv 2)))))), ?_⟩
    refine ⟨v, rfl, v, n, rfl, hn, ty, _, rfl, iteB (fun e1 => ?_) (fun e1 => ?_)⟩
    · obtain ⟨i, rfl⟩ : ∃ i, v = .int i := by
        cases v <;> first | exact ⟨_, rfl⟩ | cases e1
      refine ⟨_, rfl, _, rfl, lo, i, rfl, rfl, _, rfl, iteD (fun e2 => ?_) (fun e2 => ?_)⟩
      · refine ⟨_, rfl, i, hi, rfl, rfl, ?_⟩
        have q' : Q (.bl (decide (lo ≤ i) && decide (i ≤ hi))) H := q
        rw [decide_eq_true e2, Bool.true_and] at q'
        exact q'
      · have q' : Q (.bl (decide (lo ≤ i) && decide (i ≤ hi))) H := q
        rw [decide_eq_false e2, Bool.false_and] at q'
        exact q'
    · have z : withinB lo hi v = false := by
        cases v <;> first | rfl | cases e1
      rw [z] at q
      exact q
abbrev s_is_name : Stmt := topS 16
theorem sc_is_name : FnScope ["value", "letter"] ["value"] (defScope s_is_name) := ⟨rfl, rfl, rfl, by decide +kernel, rfl, by decide +kernel, by decide +kernel⟩
theorem ok_is_name {f : Addr} {fd : FuncData} (T : Txt mg) (F : FnP K "is_name" s_is_name f fd) : FnOk P w K mg base CX0 1 f fd ["value"] (spIsName K) := by
  have sc := sc_is_name
  refine F.ok sc (fun vs H Q E h => ?_) (fun cdv A outer s H vs Q E hr h => ?_)
  · obtain ⟨v, n, rfl, _⟩ := h
    rfl
  · obtain ⟨v, n, rfl, hn, ty, hz, q⟩ := h
    refine ⟨_, PSs.nox (pss_cons (ps_if (PW.pt (pw_or (pt_not (pt_val (pe_callB call_isi (by rfl) T.n_isinstance (by decide +kernel) (pa_cons (pv 0) (pa_cons (pe_bty "str" T.n_str (by decide +kernel)) pa_nil))))) (pw_or1 (pt_not (pt_chain op_le op_le pe_int (pe_callB call_len (by rfl) T.n_len (by decide +kernel) (pa_cons (pv 0) pa_nil)) (pe_gint T.g_MOST_LETTERS))))))
  (pss_one (ps_ret pe_bl))
  pss_nil)
(pss_one (ps_ret (pe_callB (cr_all rfl) (by rfl) T.n_all (by decide +kernel) (pa_cons (pe_lc (own := [("letter", 1)]) (g := (gName 1)) (te := (tOp (fun x y H Q => ∃ (c : Nat) (z : Str), x = .str ⟨#[c]⟩ ∧ y = .str z ∧ Q (.bl (decide (c ∈ z.cps.toList))) H) (tVar 1) (tC (.str "abcdefghijklmnopqrstuvwxyz")))) (tt := tYes) rfl sc.nd (pi_str (pv 0)) (blkOk_by (N := ["value", "letter"]) (sc := defScope s_is_name) (by decide +kernel)) (fun _ _ _ _ _ => by exact (pg_name (i := 1) sc.nd rfl (.inl rfl))) (fun _ _ _ _ _ => by exact pts_nil) (fun _ _ _ _ _ => by exact (pe_cmpR op_in_sign (pv 1) (pe_gstr T.g_LETTERS) (by rfl)))) pa_nil))))), ?_⟩
    refine ⟨v, rfl, v, .ty "str", .type n, .type "str", _, rfl, .ty _, ty, kit_k "str" (fun n => n == "str") (by decide +kernel) hn, _, rfl, ?_⟩
    by_cases e1 : n = "str"
    · subst e1
      obtain ⟨z, rfl⟩ := tyx_str ty
      have hl := hz z rfl
      refine ⟨_, rfl, .str z, _, rfl, ⟨sz_le hl, rfl⟩, 1, _, rfl, rfl, _, rfl, iteD (fun e2 => ?_) (fun e2 => ?_)⟩
      · refine ⟨z.length, 6, rfl, rfl, _, rfl, iteND (fun e3 => ?_) (fun e3 => ?_)⟩
        · have zz : isNameB (.str z) = false := by
            show nameB z = false
            unfold nameB
            rw [decide_eq_false (show ¬ z.length ≤ 6 by omega), Bool.and_false, Bool.false_and]
          rw [zz] at q
          exact q H (Same.refl H)
        · refine ⟨.str z, rfl, z, rfl, fun D nD => ?_⟩
          refine lc_it walk_str (fun i H' => Same H H' ∧ H' D = some (.lst (((z.cps.toList.take i).map fun c => decide (97 ≤ c) && decide (c ≤ 122)).map V.bl))) ⟨same_new nD, upd_same⟩ (fun _ _ _ _ => True.intro) ?_ ?_
          · rintro i x H' H2 hi ⟨sm, hD⟩ ⟨rfl, c, hc, rfl⟩
            refine ⟨rfl, tyes_of ?_⟩
            refine ⟨_, rfl, c, _, rfl, rfl, _, hD, ?_, fun b o e => ?_, ?_⟩
            · rw [List.length_map, List.length_map, List.length_take]
              have : z.cps.toList.length = z.length := rfl
              exact sz_lt (by omega)
            · rw [upd_ne (ne_of_none e nD)]
              exact sm b o e
            · have hc2 : z.cps.toList[i]? = some c := by simpa using hc
              rw [upd_same, take_next hc2, List.map_append, List.map_append, letters_dec]
              rfl
          · rintro H' ⟨sm, hD⟩
            have e4 : z.cps.toList.take z.cps.size = z.cps.toList := List.take_of_length_le (Nat.le_refl _)
            rw [e4] at hD
            refine ⟨D, _, rfl, .of hD, ?_⟩
            have zz : (List.map (fun c => decide (97 ≤ c) && decide (c ≤ 122)) z.cps.toList).all id = isNameB (.str z) := by
              show _ = nameB z
              unfold nameB
              rw [decide_eq_true (show 1 ≤ z.length by omega), decide_eq_true (show z.length ≤ 6 by omega), List.all_map]
              rfl
            rw [zz]
            exact q H' sm
      · have zz : isNameB (.str z) = false := by
          show nameB z = false
          unfold nameB
          rw [decide_eq_false (show ¬ 1 ≤ z.length by omega), Bool.false_and, Bool.false_and]
        rw [zz] at q
        exact ⟨_, rfl, q H (Same.refl H)⟩
    · have zz : isNameB v = false := notName_ty ty e1
      rw [zz] at q
      rw [beq_eq_false_iff_ne.mpr e1]
      exact q H (Same.refl H)
end
end LC
/-! LcSeq: values that are a list or a tuple; values of any plain kind. -/
namespace LC
open PySem PySem.Spec PyProof.Rows L2
def iOr (a b : TI) : TI := fun σ H R => a σ H R ∨ b σ H R
theorem pi_or {X : Cx} {tg l : Expr} {a b : TI} (x : PI X tg l a) (y : PI X tg l b) : PI X tg l (iOr a b) := ⟨fun pins s σ H R I h => h.elim (x.run pins s σ H R I) (y.run pins s σ H R I)⟩
def gOr (a b : TG) : TG := fun v σ H Q => a v σ H Q ∨ b v σ H Q
theorem pg_or {X : Cx} {tg : Expr} {a b : TG} (x : PG X tg a) (y : PG X tg b) : PG X tg (gOr a b) := ⟨fun pins s σ H v u Q I r h => h.elim (x.run pins s σ H v u Q I r) (y.run pins s σ H v u Q I r)⟩
/-- v is a list or a tuple of these -/
def SeqOf (K : PySem.W.Frag) (H : Hp) (v : V) (xs : List V) : Prop := ∃ a : Addr, v = .ref a ∧ (SqL K H a xs ∨ SqT K H a xs)
theorem sql_same {K : PySem.W.Frag} {a : Addr} {H H' : Hp} {xs : List V} (e : Same H H') (h : SqL K H a xs) : SqL K H' a xs := by
  rcases h with (z | ⟨o, z⟩) | z
  · exact .inl (.inl (e _ _ z))
  · exact .inl (.inr ⟨o, e _ _ z⟩)
  · exact .inr z
theorem SeqOf.same {K : PySem.W.Frag} {H H' : Hp} {v : V} {xs : List V} (h : SeqOf K H v xs) (e : Same H H') : SeqOf K H' v xs := by
  obtain ⟨a, ev, q⟩ := h
  exact ⟨a, ev, q.imp (sql_same e) (sqt_same e)⟩
theorem sql_ty {K : PySem.W.Frag} {H : Hp} {a : Addr} {xs : List V} (h : SqL K H a xs) : TyX K H (.ref a) (.type "list") := by
  rcases h with (z | ⟨o, z⟩) | ⟨o, its, n, z, c, _⟩
  · exact .base (.lst z)
  · exact .base (.frz z)
  · exact .kList z c
/-- of one of the plain kinds, texts not too long -/
structure ValOk (K : PySem.W.Frag) (H : Hp) (v : V) (n : String) : Prop where
  k : n ∈ kinds
  t : TyX K H v (.type n)
  s : ∀ z, v = .str z → z.length ≤ 100000
theorem tyx_same {K : PySem.W.Frag} {H H' : Hp} {v : V} {t : Value} (h : TyX K H v t) (e : Same H H') : TyX K H' v t := by
  cases h with
  | base b =>
    cases b with
    | non => exact .base .non
    | bl x => exact .base (.bl x)
    | int i => exact .base (.int i)
    | str x => exact .base (.str x)
    | flt x => exact .base (.flt x)
    | lst q => exact .base (.lst (e _ _ q))
    | frz q => exact .base (.frz (e _ _ q))
    | tup q => exact .base (.tup (e _ _ q))
    | dK q => exact .base (.dK (e _ _ q))
    | dT q => exact .base (.dT (e _ _ q))
    | ins q cl ha hn htk hm => exact .base (.ins (e _ _ q) cl ha hn htk hm)
  | byt b => exact .byt b
  | set q => exact .set (e _ _ q)
  | kList q c => exact .kList q c
  | kTuple q c => exact .kTuple q c
  | kDict q c => exact .kDict q c
  | fTuple q => exact .fTuple (e _ _ q)
  | fDict q => exact .fDict (e _ _ q)
theorem ValOk.same {K : PySem.W.Frag} {H H' : Hp} {v : V} {n : String} (h : ValOk K H v n) (e : Same H H') : ValOk K H' v n := ⟨h.k, tyx_same h.t e, h.s⟩
theorem SeqOf.ok {K : PySem.W.Frag} {H : Hp} {v : V} {xs : List V} (h : SeqOf K H v xs) : ∃ n, ValOk K H v n ∧ (n == "tuple" || n == "list") = true := by
  obtain ⟨a, rfl, q | q⟩ := h
  · exact ⟨"list", ⟨by decide, sql_ty q, fun z e => nomatch e⟩, by decide⟩
  · exact ⟨"tuple", ⟨by decide, sqt_ty q, fun z e => nomatch e⟩, by decide⟩
theorem kit_seq {K : PySem.W.Frag} {n : String} (hn : n ∈ kinds) : PySem.W.kitAny K (.type n) [.type "tuple", .type "list"] = some (n == "tuple" || n == "list") := by
  have a := kit_k (K := K) "tuple" (fun n => n == "tuple") (by decide +kernel) hn
  have b := kit_k (K := K) "list" (fun n => n == "list") (by decide +kernel) hn
  unfold PySem.W.kitAny
  rw [a]
  cases q : (n == "tuple") with
  | true => rfl
  | false =>
    show PySem.W.kitAny K (.type n) [.type "list"] = some (n == "list")
    unfold PySem.W.kitAny
    rw [b]
    cases q2 : (n == "list") with
    | true => rfl
    | false => rfl
theorem SeqOf.len {K : PySem.W.Frag} {H : Hp} {v : V} {xs : List V} (h : SeqOf K H v xs) : LenV K v H xs.length := by
  obtain ⟨a, rfl, q | q⟩ := h
  · exact .inl ⟨_, q, rfl⟩
  · exact .inr ⟨_, q, rfl⟩
/-- what a value is, as a term: its answer -/
inductive ArgT (K : PySem.W.Frag) (H : Hp) (v : V) : Bool → Prop
  | other {n : String} : ValOk K H v n → (n == "tuple" || n == "list") = false → ArgT K H v false
  | size {xs : List V} : SeqOf K H v xs → xs.length ≠ 2 → ArgT K H v false
  | factor {x y : V} {n : String} : SeqOf K H v [x, y] → ValOk K H x n → withinB (-999999) 999999 x = false → ArgT K H v false
  | parts {x y : V} {n m : String} : SeqOf K H v [x, y] → ValOk K H x n → withinB (-999999) 999999 x = true → ValOk K H y m → (m == "tuple" || m == "list") = false → ArgT K H v false
  | long {x y : V} {n : String} {zs : List V} : SeqOf K H v [x, y] → ValOk K H x n → withinB (-999999) 999999 x = true → SeqOf K H y zs → 3 < zs.length → ArgT K H v false
  | names {x y : V} {n : String} {zs : List V} : SeqOf K H v [x, y] → ValOk K H x n → withinB (-999999) 999999 x = true → SeqOf K H y zs → zs.length ≤ 3 → (∀ z ∈ zs, ∃ m, ValOk K H z m) → ArgT K H v (zs.all isNameB)
def spIsTermG (K : PySem.W.Frag) : Sp := fun vs H Q _ => ∃ (v : V) (b : Bool), vs = [v] ∧ ArgT K H v b ∧ ∀ H', Same H H' → Q (.bl b) H'
end LC
namespace LC
open PySem PySem.Spec PyProof.Rows L2
section
variable {P : Program} {w : World} {K : PySem.W.Frag} {mg : Str → Option Value} {base : Heap}
abbrev s_is_term : Stmt := topS 32
theorem sc_is_term : FnScope ["value", "factor", "names", "name"] ["value"] (defScope s_is_term) := ⟨rfl, rfl, rfl, by decide +kernel, rfl, by decide +kernel, by decide +kernel⟩
theorem ok_is_term {f : Addr} {fd : FuncData} (T : Txt mg) (F : FnP K "is_term" s_is_term f fd) (c_is_within : Cal P w K mg base CX0 2 "is_within" ["value", "least", "most"] (spIsWithin K)) (c_is_name : Cal P w K mg base CX0 2 "is_name" ["value"] (spIsName K)) :
    FnOk P w K mg base CX0 3 f fd ["value"] (spIsTermG K) := by
  have sc := sc_is_term
  refine F.ok sc (fun vs H Q E h => ?_) (fun cdv A outer s H vs Q E hr h => ?_)
  · obtain ⟨v, b, rfl, _⟩ := h
    rfl
  · obtain ⟨v, b, rfl, arg, q⟩ := h
    refine ⟨_, PSs.nox (pss_cons (ps_if (PW.pt (pw_or (pt_not (pt_val (pe_callB call_isiT (by rfl) T.n_isinstance (by decide +kernel) (pa_cons (pv 0) (pa_cons (pe_tup (pa_cons (pe_bty "tuple" T.n_tuple (by decide +kernel)) (pa_cons (pe_bty "list" T.n_list (by decide +kernel)) pa_nil))) pa_nil))))) (pw_or1 (pt_cmpR op_ne (pe_callB call_len (by rfl) T.n_len (by decide +kernel) (pa_cons (pv 0) pa_nil)) pe_int (nomark _)))))
  (pss_one (ps_ret pe_bl))
  pss_nil)
(pss_cons (ps_asg (pv 0) (pg_or (pg_tup rfl (pgs_cons (pg_name (i := 1) sc.nd rfl (.inl rfl)) (pgs_cons (pg_name (i := 2) sc.nd rfl (.inl rfl)) pgs_nil))) (pg_lst rfl (pgs_cons (pg_name (i := 1) sc.nd rfl (.inl rfl)) (pgs_cons (pg_name (i := 2) sc.nd rfl (.inl rfl)) pgs_nil)))))
(pss_cons (ps_if (PW.pt (pw_or (pt_not (pt_val (pe_cal c_is_within hr (by rfl) pass0 (pa_cons (pv 1) (pa_cons (pe_un un_neg (pe_gint T.g_MOST_FACTOR)) (pa_cons (pe_gint T.g_MOST_FACTOR) pa_nil)))))) (pw_or1 (pt_not (pt_val (pe_callB call_isiT (by rfl) T.n_isinstance (by decide +kernel) (pa_cons (pv 2) (pa_cons (pe_tup (pa_cons (pe_bty "tuple" T.n_tuple (by decide +kernel)) (pa_cons (pe_bty "list" T.n_list (by decide +kernel)) pa_nil))) pa_nil))))))))
  (pss_one (ps_ret pe_bl))
  pss_nil)
(pss_one (ps_ret (pe_and (pe_cmpR op_le (pe_callB call_len (by rfl) T.n_len (by decide +kernel) (pa_cons (pv 2) pa_nil)) (pe_gint T.g_MOST_TERM_NAMES) (nomark _)) (pe_one (pe_callB (cr_all rfl) (by rfl) T.n_all (by decide +kernel) (pa_cons (pe_lc (own := [("name", 3)]) (g := (gName 3)) (te := (tCal (spIsName K) E0 (tCons (tVar 3) tNil))) (tt := tYes) rfl sc.nd (pi_or (pi_list (pv 2)) (pi_tup (pv 2))) (blkOk_by (N := ["value", "factor", "names", "name"]) (sc := defScope s_is_term) (by decide +kernel)) (fun _ _ _ _ _ => by exact (pg_name (i := 3) sc.nd rfl (.inl rfl))) (fun _ _ _ _ _ => by exact pts_nil) (fun _ _ _ _ _ => by exact (pe_cal c_is_name hr (by rfl) pass0 (pa_cons (pv 3) pa_nil)))) pa_nil))))))))), ?_⟩
    refine ⟨v, rfl, szn 2, fun tp ntp => ?_⟩
    generalize hH1 : upd H tp _ = H1
    obtain ⟨s1, e1⟩ := alloc_eq ntp hH1
    have two : ∀ {x y : V} {σ : L2.St} {Q : L2.St → Hp → Prop}, SeqOf K H v [x, y] → Q ((σ.set 1 (some x)).set 2 (some y)) H1 → gOr (gTup K 2 (gCons (gName 1) (gCons (gName 2) gNil))) (gLst K 2 (gCons (gName 1) (gCons (gName 2) gNil))) v σ H1 Q := fun {x y σ Q} sq q => by
      obtain ⟨a, rfl, z⟩ := sq.same s1
      rcases z with z | z
      · exact .inr ⟨a, _, rfl, z, rfl, x, [y], rfl, y, [], rfl, rfl, q⟩
      · exact .inl ⟨a, _, rfl, z, rfl, x, [y], rfl, y, [], rfl, rfl, q⟩
    cases arg with
    | @other n0 ok0 e0 =>
      refine ⟨v, tp, _, .type n0, [.type "tuple", .type "list"], _, rfl, e1, .cons (.ty _) (.cons (.ty _) .nil), tyx_same ok0.t s1, kit_seq ok0.k, ?_⟩
      refine ⟨_, rfl, ?_⟩
      rw [e0]
      exact iteT (q H1 s1)
    | size sq hl =>
      obtain ⟨n0, ok0, e0⟩ := sq.ok
      refine ⟨v, tp, _, .type n0, [.type "tuple", .type "list"], _, rfl, e1, .cons (.ty _) (.cons (.ty _) .nil), tyx_same ok0.t s1, kit_seq ok0.k, ?_⟩
      rw [e0]
      refine ⟨_, rfl, iteF ?_⟩
      refine ⟨v, rfl, v, _, rfl, (sq.same s1).len, rfl, _, rfl, iteND (fun _ => q H1 s1) (fun e => absurd (by have := V.int.inj e; omega) hl)⟩
    | @factor x y n sq okx w0 =>
      obtain ⟨n0, ok0, e0⟩ := sq.ok
      refine ⟨v, tp, _, .type n0, [.type "tuple", .type "list"], _, rfl, e1, .cons (.ty _) (.cons (.ty _) .nil), tyx_same ok0.t s1, kit_seq ok0.k, ?_⟩
      rw [e0]
      refine ⟨_, rfl, iteF ?_⟩
      refine ⟨v, rfl, v, _, rfl, (sq.same s1).len, rfl, _, rfl, iteND (fun e => absurd rfl e) (fun _ => ?_)⟩
      refine ⟨v, rfl, two sq ?_⟩
      refine ⟨x, rfl, _, rfl, x, n, _, _, rfl, okx.k, tyx_same okx.t s1, _, rfl, ?_⟩
      rw [w0]
      exact iteT (q H1 s1)
    | @parts x y n m sq okx w0 oky em =>
      obtain ⟨n0, ok0, e0⟩ := sq.ok
      refine ⟨v, tp, _, .type n0, [.type "tuple", .type "list"], _, rfl, e1, .cons (.ty _) (.cons (.ty _) .nil), tyx_same ok0.t s1, kit_seq ok0.k, ?_⟩
      rw [e0]
      refine ⟨_, rfl, iteF ?_⟩
      refine ⟨v, rfl, v, _, rfl, (sq.same s1).len, rfl, _, rfl, iteND (fun e => absurd rfl e) (fun _ => ?_)⟩
      refine ⟨v, rfl, two sq ?_⟩
      refine ⟨x, rfl, _, rfl, x, n, _, _, rfl, okx.k, tyx_same okx.t s1, _, rfl, ?_⟩
      rw [w0]
      refine iteF ?_
      refine ⟨y, rfl, szn 2, fun tq ntq => ?_⟩
      generalize hH2 : upd H1 tq _ = H2
      obtain ⟨s2, e2⟩ := alloc_eq ntq hH2
      refine ⟨y, tq, _, .type m, [.type "tuple", .type "list"], _, rfl, e2, .cons (.ty _) (.cons (.ty _) .nil), tyx_same oky.t (s1.trans s2), kit_seq oky.k, ?_⟩
      rw [em]
      exact ⟨_, rfl, iteT (q H2 (s1.trans s2))⟩
    | @long x y n zs sq okx w0 sy hl =>
      obtain ⟨m, oky, em⟩ := sy.ok
      obtain ⟨n0, ok0, e0⟩ := sq.ok
      refine ⟨v, tp, _, .type n0, [.type "tuple", .type "list"], _, rfl, e1, .cons (.ty _) (.cons (.ty _) .nil), tyx_same ok0.t s1, kit_seq ok0.k, ?_⟩
      rw [e0]
      refine ⟨_, rfl, iteF ?_⟩
      refine ⟨v, rfl, v, _, rfl, (sq.same s1).len, rfl, _, rfl, iteND (fun e => absurd rfl e) (fun _ => ?_)⟩
      refine ⟨v, rfl, two sq ?_⟩
      refine ⟨x, rfl, _, rfl, x, n, _, _, rfl, okx.k, tyx_same okx.t s1, _, rfl, ?_⟩
      rw [w0]
      refine iteF ?_
      refine ⟨y, rfl, szn 2, fun tq ntq => ?_⟩
      generalize hH2 : upd H1 tq _ = H2
      obtain ⟨s2, e2⟩ := alloc_eq ntq hH2
      refine ⟨y, tq, _, .type m, [.type "tuple", .type "list"], _, rfl, e2, .cons (.ty _) (.cons (.ty _) .nil), tyx_same oky.t (s1.trans s2), kit_seq oky.k, ?_⟩
      rw [em]
      refine ⟨_, rfl, iteF ?_⟩
      refine ⟨y, rfl, y, _, rfl, (sy.same (s1.trans s2)).len, _, _, rfl, rfl, _, rfl, iteD (fun e => absurd e (by omega)) (fun _ => q H2 (s1.trans s2))⟩
    | @names x y n zs sq okx w0 sy hl hz =>
      obtain ⟨m, oky, em⟩ := sy.ok
      obtain ⟨n0, ok0, e0⟩ := sq.ok
      refine ⟨v, tp, _, .type n0, [.type "tuple", .type "list"], _, rfl, e1, .cons (.ty _) (.cons (.ty _) .nil), tyx_same ok0.t s1, kit_seq ok0.k, ?_⟩
      rw [e0]
      refine ⟨_, rfl, iteF ?_⟩
      refine ⟨v, rfl, v, _, rfl, (sq.same s1).len, rfl, _, rfl, iteND (fun e => absurd rfl e) (fun _ => ?_)⟩
      refine ⟨v, rfl, two sq ?_⟩
      refine ⟨x, rfl, _, rfl, x, n, _, _, rfl, okx.k, tyx_same okx.t s1, _, rfl, ?_⟩
      rw [w0]
      refine iteF ?_
      refine ⟨y, rfl, szn 2, fun tq ntq => ?_⟩
      generalize hH2 : upd H1 tq _ = H2
      obtain ⟨s2, e2⟩ := alloc_eq ntq hH2
      refine ⟨y, tq, _, .type m, [.type "tuple", .type "list"], _, rfl, e2, .cons (.ty _) (.cons (.ty _) .nil), tyx_same oky.t (s1.trans s2), kit_seq oky.k, ?_⟩
      rw [em]
      refine ⟨_, rfl, iteF ?_⟩
      have s12 := s1.trans s2
      refine ⟨y, rfl, y, _, rfl, (sy.same s12).len, _, _, rfl, rfl, _, rfl, iteD (fun _ => ?_) (fun e => absurd (by omega) e)⟩
      obtain ⟨b, rfl, sb⟩ := sy.same s12
      rcases sb with sb | sb
      · refine .inl ⟨.ref b, rfl, b, rfl, ⟨_, sb⟩, fun D nD => ?_⟩
        refine lc_list (K := K) (a := b) (xs := zs) (fun i H' => Same H2 H' ∧ H' D = some (.lst (((zs.take i).map isNameB).map V.bl))) ⟨same_new nD, upd_same⟩ (fun i H' _ h => sql_same h.1 sb) ?_ ?_
        · rintro k u H' hk ⟨sm, hD⟩
          have hku : k < zs.length := (List.getElem?_eq_some_iff.mp hk).1
          obtain ⟨mu, oku⟩ := hz u (List.mem_of_getElem? hk)
          have oku' := oku.same (s12.trans sm)
          refine ⟨rfl, tyes_of ?_⟩
          refine ⟨u, rfl, u, mu, rfl, oku'.k, oku'.t, oku.s, fun H3 s3 => ?_⟩
          refine ⟨_, s3 _ _ hD, ?_, fun b o e => ?_, ?_⟩
          · rw [List.length_map, List.length_map, List.length_take]
            exact sz_lt (by omega)
          · rw [upd_ne (ne_of_none e nD)]
            exact s3 _ _ (sm b o e)
          · rw [upd_same, take_next hk, List.map_append, List.map_append]
            rfl
        · rintro H' ⟨sm, hD⟩
          rw [List.take_length] at hD
          refine ⟨D, _, rfl, .of hD, ?_⟩
          have z : (zs.map isNameB).all id = zs.all isNameB := by
            rw [List.all_map]
            rfl
          rw [z]
          exact q H' (s12.trans sm)
      · refine .inr ⟨.ref b, rfl, b, rfl, ⟨_, sb⟩, fun D nD => ?_⟩
        refine lc_tup (K := K) (a := b) (xs := zs) (fun i H' => Same H2 H' ∧ H' D = some (.lst (((zs.take i).map isNameB).map V.bl))) ⟨same_new nD, upd_same⟩ (fun i H' _ h => sqt_same h.1 sb) ?_ ?_
        · rintro k u H' hk ⟨sm, hD⟩
          have hku : k < zs.length := (List.getElem?_eq_some_iff.mp hk).1
          obtain ⟨mu, oku⟩ := hz u (List.mem_of_getElem? hk)
          have oku' := oku.same (s12.trans sm)
          refine ⟨rfl, tyes_of ?_⟩
          refine ⟨u, rfl, u, mu, rfl, oku'.k, oku'.t, oku.s, fun H3 s3 => ?_⟩
          refine ⟨_, s3 _ _ hD, ?_, fun b o e => ?_, ?_⟩
          · rw [List.length_map, List.length_map, List.length_take]
            exact sz_lt (by omega)
          · rw [upd_ne (ne_of_none e nD)]
            exact s3 _ _ (sm b o e)
          · rw [upd_same, take_next hk, List.map_append, List.map_append]
            rfl
        · rintro H' ⟨sm, hD⟩
          rw [List.take_length] at hD
          refine ⟨D, _, rfl, .of hD, ?_⟩
          have z : (zs.map isNameB).all id = zs.all isNameB := by
            rw [List.all_map]
            rfl
          rw [z]
          exact q H' (s12.trans sm)
end
end LC
/-! LcHeld: an exception that was caught, and held by a name behind its clause. -/
namespace LC
open PySem PySem.Spec PyProof.Rows L2
/-- at a: an exception object of the class cls, its dict d -/
def Held (cls : Value) (d : Option Addr) (a : Addr) : HO := .ext fun g => ∃ (ob : Obj) (fv : Array Value), g.get? a = some ob ∧ Zc cls d ob ∧ ob.data = .fields fv
theorem held_ok {P : Program} {w : World} {H : Hp} {g : Heap} {a : Addr} {cls : Value} {d : Option Addr} {ob : Obj} {fv : Array Value} (e : g.get? a = some ob) (z : Zc cls d ob) (dd : ob.data = .fields fv) : ObjOk P w H g a (Held cls d a) :=
  ⟨⟨ob, fv, e, z, dd⟩, ⟨ob, e⟩, fun _ _ ⟨o, v, q, r⟩ k => ⟨o, v, k o q, r⟩⟩
theorem held_at {P : Program} {w : World} {H : Hp} {g : Heap} {a : Addr} {cls : Value} {d : Option Addr} (ok : HOk P w H g) (e : H a = some (Held cls d a)) : ∃ (ob : Obj) (fv : Array Value), g.get? a = some ob ∧ Zc cls d ob ∧ ob.data = .fields fv := (ok a _ e).1
section
variable {X : Cx} {pins : List (Addr × Obj)} {σ : L2.St} {H : Hp} {s : Shared}
/-- an object that is there, was not there when the def was entered, and is not known, is known from now on -/
theorem track {a : Addr} {cls : Value} {d : Option Addr} {ob : Obj} {fv : Array Value} (I : Inv X pins σ H s) (n0 : X.s_0.heap.get? a = none) (na : H a = none) (e : s.heap.get? a = some ob) (z : Zc cls d ob) (dd : ob.data = .fields fv)
    (nL : a ≠ X.env.locals) (np : ∀ p ∈ X.pn ++ pins, p.1 ≠ a) : Inv X pins σ (upd H a (Held cls d a)) s := by
  have nb : ∀ {b : Addr} {u : HO}, H b = some u → b ≠ a := fun h => ne_of_none h na
  refine ⟨I.ok, I.os, I.bare, ⟨I.base.keep, I.base.slot, fun b u q n x => ?_, I.base.there, fun b xs q => ?_, fun b u v q => ?_, fun b ps q => ?_⟩, I.loc, I.cell, ?_, fun y c q => ?_, fun p hp => ?_, fun b u q => ?_, I.len⟩
  · rw [upd_ne (fun z => by rw [z, n0] at q; cases q)]
    exact I.base.free b u q n x
  · have h := I.base.tups b xs q
    rw [upd_ne (nb h)]
    exact h
  · have h := I.base.frzs b u v q
    rw [upd_ne (nb h)]
    exact h
  · obtain ⟨more, h⟩ := I.base.tbls b ps q
    exact ⟨more, by rw [upd_ne (nb h)]; exact h⟩
  · rw [upd_ne (Ne.symm nL)]
    exact I.free
  · have hca : c ≠ a := fun w => by
      obtain ⟨v, o, ho, hc⟩ := I.cell y c q
      rw [w, e] at ho
      cases ho
      rw [dd] at hc
      cases hc
    rw [upd_ne hca]
    exact I.freeC y c q
  · obtain ⟨h1, h2, h3⟩ := I.pin p hp
    exact ⟨h1, by rw [upd_ne (np p hp)]; exact h2, h3⟩
  · by_cases hb : b = a
    · subst hb
      rw [upd_same] at q
      cases q
      exact held_ok e z dd
    · rw [upd_ne hb] at q
      exact (I.hok b u q).stay (fun _ _ _ q => q) (fun c q => by rw [upd_ne (nb q)]; exact q) fun c xs q => by rw [upd_ne (nb q)]; exact q
end
/-- what is wanted of an exception of the body, where the clause lets a name hold it -/
def wHeld (K : PySem.W.Frag) (c : Value) (i : Nat) (ts : Addr → Value → Option Addr → TS) (Wout : WX) (D : Ends) : WX := fun cls d σ H =>
  ∃ b, PySem.W.exmOne K cls c = some b ∧ (b = true → ∀ a, H a = none → ts a cls d { nx := fun σ' H' => H' a = none → D.nx (σ'.set i none) (upd H' a (Held cls d a)), rt := fun _ _ => False, bk := fun _ _ => False, ct := fun _ _ => False } (σ.set i (some (.ref a))) H) ∧
    (b = false → Wout cls d σ H)
section
variable {X : Cx} {x n : Str} {c : Value} {i : Nat} {body suite : List Stmt} {b₀ : Stmt} {np pos pos' : Pos} {tb : WX → TS} {ts : Addr → Value → Option Addr → TS} {Wout : WX}
theorem ps_try_held (hex : X.ex = []) (stk : X.stack = X.env :: X.outer) (frm : X.env.frame = some X.env.locals) (hN : X.N.Nodup) (hi : X.N[i]? = some n) (hln : X.env.kindOf n = some .local) (hc : Names X x c) (tk : Takes X Wout)
    (hb : ∀ (W : WX) (pn : List (Addr × Obj)) (xe : Value → Shared → Prop), Takes (X.tr pn xe) W → PassesOwn (model X.prog X.w) X.A X.env xe → PSs (X.tr pn xe) body (tb W))
    (hsu : ∀ (a : Addr) (ob : Obj) (cls : Value) (d : Option Addr) (pn : List (Addr × Obj)), Zc cls d ob → (∃ fv, ob.data = .fields fv) → PSs (X.suite a ((a, ob) :: pn)) (b₀ :: suite) (ts a cls d)) :
    PS X (.Try body [.ExceptHandler (some (.Name x np)) (some n) (b₀ :: suite) pos'] [] [] pos) (fun D σ H => tb (wHeld X.K c i ts Wout D) D σ H) := by
  constructor
  intro pins s σ H D In want
  have okX := In.ok
  have frA : X.A.frames = some (X.env :: X.outer) := by rw [okX.frames, stk]
  refine wpAny_Try_except ?_
  refine wpAny_mono ((hb (wHeld X.K c i ts Wout D) (X.pn ++ pins) _ (fun u sx air => ?caught) PassesOwn.looking).run [] s σ H D (In.toTry _) want) (fun fl s1 out => ?through) (fun _ _ bad => bad)
  case through =>
    cases fl with
    | next =>
      obtain ⟨σ1, H1, In1, want1⟩ := out
      exact wpAny_execs_nil ⟨σ1, H1, In1.ofTry okX, want1⟩
    | ret v =>
      obtain ⟨y, σ1, H1, In1, rel, want1⟩ := out
      exact ⟨y, σ1, H1, In1.ofTry okX, rel, want1⟩
    | brk =>
      obtain ⟨σ1, H1, In1, want1⟩ := out
      exact ⟨σ1, H1, In1.ofTry okX, want1⟩
    | cont =>
      obtain ⟨σ1, H1, In1, want1⟩ := out
      exact ⟨σ1, H1, In1.ofTry okX, want1⟩
  case caught =>
    obtain ⟨a, B, sI, pins1, σ1, H1, cls, d, rfl, InT, grd, ups, sky, na, os, ag, b, hb1, yes, no⟩ := air
    have InI : Inv X pins σ1 H1 sI := InT.ofTry okX
    have skyX : Sky B (X.env :: X.outer) a (Zc cls d) X.env.locals sx.heap := stk ▸ sky
    show wpAny (model X.prog X.w) X.A (noteFrame (.ref a) X.env) _ _ _
    refine Sky.land Zc.steady frA frm skyX fun g fly up1 => ?_
    have InG : Inv X pins σ1 H1 { sx with heap := g } := InI.landed grd fly.1 (ups.trans up1) os ag
    obtain ⟨ob, fv, hob, zob, dob⟩ := fly.there
    have noFrame : a ∉ frs (X.env :: X.outer) := fun hm => by
      obtain ⟨_, o2, q2, hnf⟩ := fly.2.2.1.mem hm
      rw [hob] at q2
      cases q2
      exact hnf _ dob
    have nL : a ≠ X.env.locals := fun z => noFrame (List.mem_filterMap.mpr ⟨X.env, List.mem_cons_self, by rw [frm, z]⟩)
    have nF : a ∉ X.fs := fun hm => by
      obtain ⟨en, hen, q⟩ := List.mem_filterMap.mp hm
      exact noFrame (List.mem_filterMap.mpr ⟨en, List.mem_cons_of_mem _ hen, q⟩)
    -- it was not there at the def's entry, and nothing pinned is it
    have nI : sI.heap.get? a = none := by
      cases q : sI.heap.get? a with
      | none => rfl
      | some o =>
        have z := grd a o q (by rw [stk]; exact noFrame)
        rw [fly.2.1] at z
        cases z
    have n0 : X.s_0.heap.get? a = none := by
      cases q : X.s_0.heap.get? a with
      | none => rfl
      | some o =>
        by_cases hx : a ∈ X.ex
        · rw [hex] at hx
          cases hx
        · obtain ⟨o2, z⟩ := InI.base.there a o q hx
          rw [nI] at z
          cases z
    have npin : ∀ p ∈ X.pn ++ pins, p.1 ≠ a := fun p hp z => by
      have q := (InI.pin p hp).1
      rw [z, nI] at q
      cases q
    have InS := InG.suite hob dob na nL nF
    refine wpAny_handleBy_cons (codeAny_handlers_test ?_) (by intro q; cases q)
    have kind : PySem.W.Looks (model X.prog X.w) g (typeOf (.ref a)) cls := fun A Q E s k q => wpAny_typeOf_ref (k _ _ hob) (by rw [zob.1]; exact q)
    have meets := PySem.W.exm_one (M := model X.prog X.w) (InG.kIn) kind hb1
    have named : ∀ {Q : Value → Shared → Prop} {E : Value → Shared → Prop}, Q c { sx with heap := g } → wpAny (model X.prog X.w) (X.A.mark (some (.ref a))) (eval (.Name x np) X.env) Q E { sx with heap := g } := fun {Q E} q => by
      obtain ⟨hg, hdbg, hm | ⟨hm, hv, hnn⟩⟩ := hc
      · exact ld_glob (X := X.suite a ((a, ob) :: (X.pn ++ pins))) InS hg hm q hdbg
      · exact ld_blt (X := X.suite a ((a, ob) :: (X.pn ++ pins))) InS hg hm hv q hnn hdbg
    refine named (meets.here ?_)
    cases b with
    | true =>
      refine codeAny_handlers_suite_as ?_
      refine HandSPX.lands_againZ fly fun g2 fly2 up2 => ?_
      have In2 : Inv X pins σ1 H1 { sx with heap := g2 } := InI.landed grd fly2.1 ((ups.trans up1).trans up2) os ag
      obtain ⟨ob2, fv2, hob2, zob2, dob2⟩ := fly2.there
      refine store_ok (X := X.suite a ((a, ob2) :: (X.pn ++ pins))) (v := .ref a) (In2.suite hob2 dob2 na nL nF) hN hi (.inl hln) rfl (fun s5 In5 => ?_) (.inr hln)
      refine wpAny_mono ((hsu a ob2 cls d (X.pn ++ pins) zob2 ⟨_, dob2⟩).run [] s5 _ H1 _ In5 (yes rfl a na)) (fun fl s6 out => ?_) (fun _ _ z => False.elim z)
      cases fl with
      | next =>
        obtain ⟨σ6, H6, In6, want6⟩ := out
        refine gone_ok (X := X.suite a ((a, ob2) :: (X.pn ++ pins))) In6 hN hi hln fun s7 In7 => ?_
        obtain ⟨at7, n7, _⟩ := In7.pin (a, ob2) (by simp)
        exact ⟨_, _, track (In7.unsuite okX) n0 n7 at7 zob2 dob2 nL npin, want6 n7⟩
      | ret v =>
        obtain ⟨_, _, _, _, _, bad⟩ := out
        exact (show False from bad).elim
      | brk =>
        obtain ⟨_, _, _, bad⟩ := out
        exact (show False from bad).elim
      | cont =>
        obtain ⟨_, _, _, bad⟩ := out
        exact (show False from bad).elim
    | false =>
      show wpAny _ X.A (handleBy (.ref a) X.env []) _ _ _
      refine wpAny_handleBy_nil ?_
      obtain ⟨_, _, _, o3, fv3, T3, oT3, ts3, q3, z3, d3, t3, r3⟩ := id fly
      unfold PySem.passOn
      refine wpAny_bind (wpAny_field q3 d3 t3 ?_)
      rw [if_neg (show ¬ ((Value.ref T3 == Value.none) = true) from by simp)]
      have on : wpAny (model X.prog X.w) X.A (setFlight (.ref a) X.env.frame) (fun _ s4 => wpAny (model X.prog X.w) X.A (throw (.ref a) : Sem Flow) (SP X pins D) X.xe s4) X.xe { sx with heap := g } := by
        rw [frm]
        refine HandSPX.setFlight_upZ fly fun g4 note up4 => wpAny_throw (tk _ _ ?_)
        exact ⟨a, B, sI, pins, σ1, H1, cls, d, rfl, InI, grd, (ups.trans up1).trans up4, .inr (.inr (by rw [stk]; exact note)), na, os, ag, no rfl⟩
      first
        | exact wpAny_bind on
        | exact wpAny_bind (wpAny_pure (wpAny_bind on))
end
end LC
/-! LcHeld2: what a held exception is asked: its class, its fields. -/
namespace LC
open PySem PySem.Spec PyProof.Rows L2
/-- what the head must say of an exception class of the program -/
structure HeldC (K : PySem.W.Frag) (C : Addr) : Prop where
  x : XfC K C
  cl : (PySem.W.clsIn K C).isSome = true
  kc : PySem.W.findIn K (.ref C) "__class__" = some (some (.builtin "object.__class__"))
  kg : PySem.W.specialIn K (.builtin "object.__class__") "__get__" = some (some (.builtin "getset_descriptor.__get__"))
  kt : PySem.W.takesIn K (.builtin "object.__class__") = some true
  mo : PySem.W.mroIn K C (.type "object") = some true
def heldB (K : PySem.W.Frag) (C : Addr) : Bool := xfB K C && (PySem.W.clsIn K C).isSome && decide (PySem.W.findIn K (.ref C) "__class__" = some (some (.builtin "object.__class__"))) &&
  decide (PySem.W.specialIn K (.builtin "object.__class__") "__get__" = some (some (.builtin "getset_descriptor.__get__"))) && decide (PySem.W.takesIn K (.builtin "object.__class__") = some true) && decide (PySem.W.mroIn K C (.type "object") = some true)
theorem heldC_of {K : PySem.W.Frag} {C : Addr} (h : heldB K C = true) : HeldC K C := by
  unfold heldB at h
  simp only [Bool.and_eq_true, decide_eq_true_eq] at h
  obtain ⟨⟨⟨⟨⟨h1, h2⟩, h3⟩, h4⟩, h5⟩, h6⟩ := h
  exact ⟨xfB_ok h1, h2, h3, h4, h5, h6⟩
/-- v is such an exception, with these fields -/
def HeldV (K : PySem.W.Frag) (H : Hp) (v : V) (C : Addr) (fs : List (Str × V)) : Prop := ∃ a dd : Addr, v = .ref a ∧ H a = some (Held (.ref C) (some dd) a) ∧ H dd = some (.xd fs) ∧ HeldC K C
theorem HeldV.same {K : PySem.W.Frag} {H H' : Hp} {v : V} {C : Addr} {fs : List (Str × V)} (h : HeldV K H v C fs) (s : Same H H') : HeldV K H' v C fs := by
  obtain ⟨a, dd, e, h1, h2, h3⟩ := h
  exact ⟨a, dd, e, s _ _ h1, s _ _ h2, h3⟩
section
variable {X : Cx} {pins : List (Addr × Obj)} {σ : L2.St} {H : Hp} {s : Shared}
theorem held_inst {a dd C : Addr} {fs : List (Str × V)} (I : Inv X pins σ H s) (h1 : H a = some (Held (.ref C) (some dd) a)) (h2 : H dd = some (.xd fs)) :
    ∃ (ob od : Obj) (mA : Str → Option Value), PySem.W.InstAt s.heap a ob C (some od) ∧ (∀ y, PySem.W.lookIn y od = some (mA y)) ∧ ∀ f, RelO (fs.lookup f) (mA f) := by
  obtain ⟨ob, fv, g, z, d⟩ := held_at I.hok h1
  obtain ⟨mA, hns, hr⟩ := (show ObjOk X.prog X.w H s.heap dd (.xd fs) from I.hok dd _ h2)
  obtain ⟨od, ho, hl⟩ := lookIn_ns hns
  refine ⟨ob, od, mA, ⟨g, z.1, ?_, by rw [z.2]; exact ho⟩, hl, hr⟩
  unfold PySem.W.notCls
  rw [d]
def rIsiH (K : PySem.W.Frag) : List V → Hp → VK → Prop := fun xs H Q => ∃ (x c : V) (C : Addr) (fs : List (Str × V)) (u : Value) (b : Bool), xs = [x, c] ∧ ClsV c u ∧ HeldV K H x C fs ∧ PySem.W.kitOne K (.ref C) u = some b ∧ Q (.bl b) H
theorem call_isiH : CallR X (.builtin "isinstance") (rIsiH X.K) := by
  intro pins s σ H xs us Q I r h
  obtain ⟨x, c, C, fs, u, b, rfl, k, ⟨a, dd, rfl, h1, h2, hc⟩, e, q⟩ := h
  obtain ⟨u1, u2, rfl, r1, r2⟩ := vals2 r
  have e2 := k.eq r2
  subst e2
  obtain rfl : u1 = Value.ref a := r1
  obtain ⟨ob, od, mA, J, _, _⟩ := held_inst I h1 h2
  exact PySem.W.kia_one (PySem.W.kitx_exc (ox := ob) (od := some od) hc.cl hc.x.ga hc.x.gg hc.x.exC hc.kc hc.kg hc.kt hc.mo) I.kIn J e (fun z => nomatch z) fun tk => ⟨.bl b, H, I.tok tk, rfl, q⟩
def rIsiTH (K : PySem.W.Frag) : List V → Hp → VK → Prop := fun xs H Q => ∃ (x : V) (tp : Addr) (cs : List V) (C : Addr) (fs : List (Str × V)) (us : List Value) (b : Bool), xs = [x, .ref tp] ∧ H tp = some (.tup cs) ∧ Paired ClsV cs us ∧ HeldV K H x C fs ∧ PySem.W.kitAny K (.ref C) us = some b ∧ Q (.bl b) H
theorem call_isiTH : CallR X (.builtin "isinstance") (rIsiTH X.K) := by
  intro pins s σ H xs us Q I r h
  obtain ⟨x, tp, cs, C, fs, ws, b, rfl, ht, k, ⟨a, dd, rfl, h1, h2, hc⟩, e, q⟩ := h
  obtain ⟨u1, u2, rfl, r1, r2⟩ := vals2 r
  obtain rfl : u2 = Value.ref tp := r2
  obtain rfl : u1 = Value.ref a := r1
  obtain ⟨ob, od, mA, J, _, _⟩ := held_inst I h1 h2
  obtain ⟨_, its, rv, ⟨oc, odd, dt, sl⟩, g, kc, n, kd⟩ := (show ObjOk X.prog X.w H s.heap tp (.tup cs) from I.hok tp _ ht)
  have e3 := ClsV.all k rv
  subst e3
  have kc : oc = .type "tuple" := kc
  have kd : dt = .seq its.toArray n := kd
  subst kc kd
  exact PySem.W.kia_tup (PySem.W.kitx_exc (ox := ob) (od := some od) hc.cl hc.x.ga hc.x.gg hc.x.exC hc.kc hc.kg hc.kt hc.mo) I.kIn J g e (fun z => nomatch z) fun tk => ⟨.bl b, H, I.tok tk, rfl, q⟩
/-- e.f of a held exception -/
def tHeldF (K : PySem.W.Frag) (f : Str) (te : TE) : TE := fun σ H Q => te σ H fun x H1 => ∃ (C : Addr) (fs : List (Str × V)) (v : V), HeldV K H1 x C fs ∧ PySem.W.findIn K (.ref C) f = some none ∧ fs.lookup f = some v ∧ Q v H1
theorem pe_heldF {e : Expr} {te : TE} {pos : Pos} {f : Str} (he : PE X e te) (hb : attributeBase e f X.env (eval e X.env) = eval e X.env := by rfl) : PE X (.Attribute e f pos) (tHeldF X.K f te) := by
  constructor
  intro pins s σ H Q I h
  refine attr_of hb (thn (he.run pins s σ H _ I h) fun u s1 told => ?_)
  obtain ⟨x, H1, I1, rx, C, fs, v, ⟨a, dd, rfl, h1, h2, hc⟩, hno, lk, q⟩ := told
  obtain rfl : u = Value.ref a := rx
  obtain ⟨ob, od, mA, J, hl, hr⟩ := held_inst I1 h1 h2
  obtain ⟨w, hw, rw'⟩ := RelO.some_of (v := v) (o := mA f) (by rw [← lk]; exact hr f)
  exact HandSPX.exc_get I1.kIn J hc.x.ga hc.x.gg hc.x.exC (PySem.W.findObj_own hc.x.hdC hno rfl (by rw [hl, hw])) (handed_of rw') ⟨v, H1, I1.tok _, rw', q⟩
end
end LC
/-! LcErr: raise X(e), X an own class over ValueError whose __init__ keeps one field. -/
namespace LC
open PySem PySem.Spec PyProof.Rows L2
/-- __init__(self, f): self.f = f -/
def spErr (C : Addr) (f : Str) : Sp := fun vs H Q _ => ∃ (a : Addr) (v : V), vs = [.ref a, v] ∧ H a = some (exo a C none) ∧ ∀ dx, H dx = none → dx ≠ a → Q .non (upd (upd H dx (exd dx [(f, v)])) a (exo a C (some dx)))
/-- such a class, as the head leaves it -/
structure ErrC (P : Program) (w : World) (K : PySem.W.Frag) (mg : Str → Option Value) (base : Heap) (x f : Str) (C fI : Addr) (fd : FuncData) : Prop where
  g : mg x = some (.ref C)
  o : OexC K C
  i : PySem.W.findIn K (.ref C) "__init__" = some (some (.ref fI))
  t : PySem.W.typeIn K (.ref fI) = some (.type "function")
  F : FnOk P w K mg base CX0 1 fI fd ["self", f] (spErr C f)
  b : Binds K fd ["self", f] []
/-- what is wanted where X(v) is raised: its dict d is new and holds the field -/
theorem err_of {C : Addr} {f : Str} {v : V} {H1 : Hp} {Q : XK} (q : ∀ (d : Addr) (H2 : Hp), H1 d = none → Same H1 H2 → H2 d = some (.xd [(f, v)]) → Q (.ref C) (some d) H2) :
    ([v] : List V).length ≤ 1000 ∧ ∀ a, H1 a = none → spErr C f (.ref a :: ([v] ++ [])) (upd H1 a (exo a C none)) (fun u H2 => u = .non ∧ ∃ (d : Addr) (fs : List (Str × V)), H2 a = some (exo a C (some d)) ∧ H2 d = some (exd d fs) ∧ H1 d = none ∧ Q (.ref C) (some d) (upd (del H2 a) d (.xd fs))) (fun _ _ _ => False) := by
  refine ⟨by show 1 ≤ 1000; decide, fun a na => ⟨a, v, rfl, upd_same, fun dx ndx ne => ⟨rfl, dx, [(f, v)], upd_same, ?_, ?_, ?_⟩⟩⟩
  · rw [upd_ne ne]
    exact upd_same
  · rw [upd_ne ne] at ndx
    exact ndx
  · rw [upd_ne ne] at ndx
    refine q dx _ ndx (fun b o e => ?_) upd_same
    have b1 : b ≠ dx := ne_of_none e ndx
    have b2 : b ≠ a := ne_of_none e na
    rw [upd_ne b1, del_ne b2, upd_ne b2, upd_ne b1, upd_ne b2]
    exact e
theorem ps_err {X : Cx} {x f : Str} {C fI : Addr} {fd : FuncData} {k : Nat} {e : Expr} {ta : TA} {W : WX} {p pos pos2 : Pos} (T : ErrC X.prog X.w X.K X.mg X.base x f C fI fd) (hc : X.calm = true) (hr : Room k X.A) (hk : 2 ≤ k) (tk : Takes X W) (ha : PA X [e] ta) (hg : Gl X x := by rfl) (hdb : (x == ("__debug__" : Str)) = false := by decide)
    (he : starEach (e :: []) X.env = (false, eval e X.env) :: starEach [] X.env := by rfl) (hpl : (backTo pos (starEach [] X.env)).any (·.1) = false := by rfl) :
    PS X (.Raise (some (.Call (.Name x p) [e] [] pos)) none pos2) (fun _ σ H => tMkO C (spErr C f) [] ta σ H fun cls d H' => W cls d σ H') :=
  ps_raise hc tk (pmk_oex T.o T.i T.t T.F (hr.mono hk) T.b .nil pass0 hg T.g ha hdb he hpl)
/-- __init__(self, f, g): self.f = f; self.g = g -/
def spErr2 (C : Addr) (f g : Str) : Sp := fun vs H Q _ => ∃ (a : Addr) (v u : V), vs = [.ref a, v, u] ∧ H a = some (exo a C none) ∧ ∀ dx H', H dx = none → dx ≠ a → Same (del H a) (del H' a) → H' a = some (exo a C (some dx)) → H' dx = some (exd dx [(g, u), (f, v)]) → Q .non H'
structure ErrC2 (P : Program) (w : World) (K : PySem.W.Frag) (mg : Str → Option Value) (base : Heap) (x f f2 : Str) (C fI : Addr) (fd : FuncData) : Prop where
  g : mg x = some (.ref C)
  o : OexC K C
  i : PySem.W.findIn K (.ref C) "__init__" = some (some (.ref fI))
  t : PySem.W.typeIn K (.ref fI) = some (.type "function")
  F : FnOk P w K mg base CX0 1 fI fd ["self", f, f2] (spErr2 C f f2)
  b : Binds K fd ["self", f, f2] []
theorem err_of2 {C : Addr} {f g : Str} {v u : V} {H1 : Hp} {Q : XK} (q : ∀ (d : Addr) (H2 : Hp), H1 d = none → Same H1 H2 → H2 d = some (.xd [(g, u), (f, v)]) → Q (.ref C) (some d) H2) :
    ([v, u] : List V).length ≤ 1000 ∧ ∀ a, H1 a = none → spErr2 C f g (.ref a :: ([v, u] ++ [])) (upd H1 a (exo a C none)) (fun z H2 => z = .non ∧ ∃ (d : Addr) (fs : List (Str × V)), H2 a = some (exo a C (some d)) ∧ H2 d = some (exd d fs) ∧ H1 d = none ∧ Q (.ref C) (some d) (upd (del H2 a) d (.xd fs))) (fun _ _ _ => False) := by
  refine ⟨by show 2 ≤ 1000; decide, fun a na => ⟨a, v, u, rfl, upd_same, fun dx H' ndx ne sm ha hd => ⟨rfl, dx, _, ha, hd, ?_, ?_⟩⟩⟩
  · rw [upd_ne ne] at ndx
    exact ndx
  · rw [upd_ne ne] at ndx
    refine q dx _ ndx (fun b o e => ?_) upd_same
    have b1 : b ≠ dx := ne_of_none e ndx
    have b2 : b ≠ a := ne_of_none e na
    rw [upd_ne b1]
    exact sm b o (by rw [del_ne b2, upd_ne b2]; exact e)
theorem ps_err2 {X : Cx} {x f g : Str} {C fI : Addr} {fd : FuncData} {k : Nat} {e e2 : Expr} {ta : TA} {W : WX} {p pos pos2 : Pos} (T : ErrC2 X.prog X.w X.K X.mg X.base x f g C fI fd) (hc : X.calm = true) (hr : Room k X.A) (hk : 2 ≤ k) (tk : Takes X W) (ha : PA X [e, e2] ta) (hg : Gl X x := by rfl) (hdb : (x == ("__debug__" : Str)) = false := by decide)
    (he : starEach (e :: [e2]) X.env = (false, eval e X.env) :: starEach [e2] X.env := by rfl) (hpl : (backTo pos (starEach [e2] X.env)).any (·.1) = false := by rfl) :
    PS X (.Raise (some (.Call (.Name x p) [e, e2] [] pos)) none pos2) (fun _ σ H => tMkO C (spErr2 C f g) [] ta σ H fun cls d H' => W cls d σ H') :=
  ps_raise hc tk (pmk_oex T.o T.i T.t T.F (hr.mono hk) T.b .nil pass0 hg T.g ha hdb he hpl)
/-- a def that raises nothing, where its caller's callees may -/
theorem lift0 {P : Program} {w : World} {K : PySem.W.Frag} {mg : Str → Option Value} {base : Heap} {CX : CXT} {k : Nat} {f : Addr} {fd : FuncData} {ps : List Str} {sp : Sp} (F : FnOk P w K mg base CX0 k f fd ps sp) : FnOk P w K mg base CX k f fd ps sp := by
  refine ⟨F.len, fun A out s H ar us vs Q E hr e0 hb r h => codeAny_mono (F.run A out s H ar us vs Q E hr e0 hb r h) fun r s' q => ?_⟩
  cases r with
  | error e => exact (show False from q).elim
  | ok fl =>
    cases fl with
    | ret u => exact q
    | next => exact q
    | brk => exact q
    | cont => exact q
theorem Cal.lift {P : Program} {w : World} {K : PySem.W.Frag} {mg : Str → Option Value} {base : Heap} {CX : CXT} {k : Nat} {x : Str} {ps : List Str} {sp : Sp} (c : Cal P w K mg base CX0 k x ps sp) : Cal P w K mg base CX k x ps sp := by
  obtain ⟨f, fd, m, F, kp, b⟩ := c
  exact ⟨f, fd, m, lift0 F, kp, b⟩
end LC
/-! LcSum: what Sum(..) answers to any plain values. -/
namespace LC
open PySem PySem.Spec PyProof.Rows L2
/-- an exception of one of the two classes, with its field -/
def Bad (CS CM : Addr) (word : Str) (v : V) (cls : Value) (d : Option Addr) (H : Hp) : Prop := ∃ dd : Addr, d = some dd ∧ ((cls = .ref CS ∧ word = "sum" ∧ H dd = some (.xd [("at", v)])) ∨ (cls = .ref CM ∧ word = "many" ∧ H dd = some (.xd [("most", v)])))
/-- a right term: a list or a tuple of a factor and a list or a tuple of names -/
def TermA (K : PySem.W.Frag) (H : Hp) (v : V) (t : Term) : Prop := ∃ y : V, SeqOf K H v [.int t.1, y] ∧ SeqOf K H y (t.2.map V.str) ∧ TermFine t
theorem TermA.same {K : PySem.W.Frag} {H H' : Hp} {v : V} {t : Term} (h : TermA K H v t) (e : Same H H') : TermA K H' v t := by
  obtain ⟨y, a, b, c⟩ := h
  exact ⟨y, a.same e, b.same e, c⟩
theorem strs_names : ∀ {zs : List V}, zs.all isNameB = true → ∃ ns : List Str, zs = ns.map V.str ∧ ∀ x ∈ ns, nameB x = true
  | [], _ => ⟨[], rfl, fun _ h => nomatch h⟩
  | z :: r, h => by
    rw [List.all_cons, Bool.and_eq_true] at h
    obtain ⟨ns, e, hn⟩ := strs_names h.2
    cases z with
    | str x =>
      refine ⟨x :: ns, by rw [e]; rfl, fun q hq => ?_⟩
      rcases List.mem_cons.mp hq with e2 | hq
      · rw [e2]
        exact h.1
      · exact hn q hq
    | _ => exact absurd h.1 (by intro w; cases w)
theorem argT_true {K : PySem.W.Frag} {H : Hp} {v : V} (h : ArgT K H v true) : ∃ t, TermA K H v t := by
  generalize e : true = b at h
  cases h with
  | @names x y n zs sq okx w sy hl hz =>
    obtain ⟨ns, rfl, hn⟩ := strs_names e.symm
    cases x with
    | int i =>
      have w' : (decide (-999999 ≤ i) && decide (i ≤ 999999)) = true := w
      rw [Bool.and_eq_true, decide_eq_true_eq, decide_eq_true_eq] at w'
      exact ⟨(i, ns), y, sq, sy, w'.1, w'.2, by rw [List.length_map] at hl; exact hl, hn⟩
    | _ => cases w
  | _ => cases e
theorem termA_arg {K : PySem.W.Frag} {H : Hp} {v : V} {t : Term} (h : TermA K H v t) : ArgT K H v true := by
  obtain ⟨y, sq, sy, f0, f1, hl, hn⟩ := h
  have w : withinB (-999999) 999999 (.int t.1) = true := by
    show (decide (-999999 ≤ t.1) && decide (t.1 ≤ 999999)) = true
    rw [decide_eq_true f0, decide_eq_true f1]
    rfl
  have e : (t.2.map V.str).all isNameB = true := by
    rw [List.all_map, List.all_eq_true]
    exact fun x hx => hn x hx
  have z := ArgT.names (n := "int") sq ⟨by decide, .base (.int _), fun z e => nomatch e⟩ w sy (by rw [List.length_map]; exact hl) (fun z hz => by
    obtain ⟨x, hx, rfl⟩ := List.mem_map.mp hz
    exact ⟨"str", by decide, .base (.str x), fun u e => by cases e; have := (name_len (hn x hx)).2; omega⟩)
  rw [e] at z
  exact z
/-- an argument: a right term, or none -/
def ArgO (K : PySem.W.Frag) (H : Hp) (v : V) : Option Term → Prop
  | none => ArgT K H v false
  | some t => TermA K H v t
theorem ArgT.same {K : PySem.W.Frag} {H H' : Hp} {v : V} {b : Bool} (h : ArgT K H v b) (e : Same H H') : ArgT K H' v b := by
  cases h with
  | other a b => exact .other (a.same e) b
  | size a b => exact .size (a.same e) b
  | factor a b c => exact .factor (a.same e) (b.same e) c
  | parts a b c d f => exact .parts (a.same e) (b.same e) c (d.same e) f
  | long a b c d f => exact .long (a.same e) (b.same e) c (d.same e) f
  | names a b c d f g => exact .names (a.same e) (b.same e) c (d.same e) f fun z hz => let ⟨m, q⟩ := g z hz; ⟨m, q.same e⟩
theorem ArgO.same {K : PySem.W.Frag} {H H' : Hp} {v : V} : ∀ {o : Option Term}, ArgO K H v o → Same H H' → ArgO K H' v o
  | none, h, e => ArgT.same h e
  | some _, h, e => TermA.same h e
theorem ArgO.arg {K : PySem.W.Frag} {H : Hp} {v : V} : ∀ {o : Option Term}, ArgO K H v o → ArgT K H v o.isSome
  | none, h => h
  | some _, h => termA_arg h
/-- what Sum(..) answers -/
def sumOut (os : List (Option Term)) : Except (Str × V) (List Term) :=
  if os = [] then .error ("sum", .non) else if 4 < os.length then .error ("many", .int 4) else
  match os.findIdx? (·.isNone) with
  | some i => .error ("sum", .int (i : Nat))
  | none => if 3 < (unlike (os.filterMap id)).length then .error ("many", .int 3) else .ok (os.filterMap id)
def spInitG (K : PySem.W.Frag) (C CS CM : Addr) : Sp := fun vs H Q E => ∃ (x tp dx : Addr) (us : List V) (os : List (Option Term)), vs = [.ref x, .ref tp] ∧ H x = some (.ins C dx []) ∧ SqT K H tp us ∧ Paired (ArgO K H) us os ∧ us.length ≤ 1000 ∧
  match sumOut os with
  | .ok ts => ∀ H', But x H H' → SumAt K C H' x ts → Q .non H'
  | .error e => ∀ cls d H', But x H H' → Bad CS CM e.1 e.2 cls d H' → E cls d H'
/-- C(), C's __init__ with a rest -/
theorem pe_makeR0 {X : Cx} {CX : CXT} {k : Nat} {f C : Addr} {sp : Sp} {E : XK} {x : Str} {p pos : Pos} (M : Mk X.K C f) (F : FnR X.prog X.w X.K X.mg X.base CX k f sp) (hr : Room (k + 1) X.A) (hg : Gl X x) (hm : X.mg x = some (.ref C)) (hx : Passes CX X E) (hdb : (x == ("__debug__" : Str)) = false := by decide) : PE X (.Call (.Name x p) [] [] pos) (StX.tMakeR C sp E tNil) := by
  constructor
  intro pins s σ H Q I h
  exact wpAny_Call_Name_kw (ld_glob I hg hm (PySem.W.callWith_K0 I.kIn M.kp (StX.run_makeR (us := []) M F hr hx I .nil h)) hdb)
/-- what Sum(..) leaves, or raises -/
def spSumG (K : PySem.W.Frag) (C CS CM : Addr) : Sp := fun vs H Q E => ∃ (l : Addr) (us : List V) (os : List (Option Term)), vs = [.ref l] ∧ SqL K H l us ∧ Paired (ArgO K H) us os ∧ us.length ≤ 5 ∧
  match sumOut os with
  | .ok ts => ∀ (x : Addr) (H' : Hp), H x = none → Same H H' → SumAt K C H' x ts → Q (.ref x) H'
  | .error e => ∀ cls d H', Same H H' → Bad CS CM e.1 e.2 cls d H' → E cls d H'
theorem args_same {K : PySem.W.Frag} {H H' : Hp} (e : Same H H') : ∀ {us : List V} {os : List (Option Term)}, Paired (ArgO K H) us os → Paired (ArgO K H') us os
  | _, _, .nil => .nil
  | _, _, .cons a r => .cons (ArgO.same a e) (args_same e r)
theorem mk_sumG {K : PySem.W.Frag} {C CS CM : Addr} {H : Hp} {us : List V} {os : List (Option Term)} {Q : VK} {E : XK} (ho : Paired (ArgO K H) us os) (hl : us.length ≤ 5)
    (q : match sumOut os with
      | .ok ts => ∀ (x : Addr) (H' : Hp), H x = none → Same H H' → SumAt K C H' x ts → Q (.ref x) H'
      | .error e => ∀ cls d H', Same H H' → Bad CS CM e.1 e.2 cls d H' → E cls d H') :
    ∀ x dx, H x = none → H dx = none → dx ≠ x → ∃ ws rest, V.ref x :: us = ws ++ rest ∧ ws.length = 1 ∧ rest.length ≤ sizeLine ∧ ∀ p, (upd (upd H dx (.own x)) x (.ins C dx [])) p = none →
      spInitG K C CS CM (ws ++ [V.ref p]) (upd (upd (upd H dx (.own x)) x (.ins C dx [])) p (.tup rest)) (fun v H2 => v = .non ∧ Q (.ref x) H2) E := by
  intro x dx nx ndx ne
  refine ⟨[.ref x], us, rfl, rfl, sz_le (by omega), fun p np => ?_⟩
  have s1 : Same H (upd (upd H dx (.own x)) x (.ins C dx [])) := fun b o e => by
    rw [upd_ne (ne_of_none e nx), upd_ne (ne_of_none e ndx)]
    exact e
  have s2 := s1.trans (same_new (o := .tup us) np)
  have fresh : ∀ {H' : Hp}, But x (upd (upd (upd H dx (.own x)) x (.ins C dx [])) p (.tup us)) H' → Same H H' := fun k b o e => k b o (ne_of_none e nx) (s2 b o e)
  refine ⟨x, p, dx, us, os, rfl, same_new np x _ upd_same, .of upd_same, args_same s2 ho, by omega, ?_⟩
  cases e : sumOut os with
  | ok ts =>
    rw [e] at q
    exact fun H' k sm => ⟨rfl, q x H' nx (fresh k) sm⟩
  | error er =>
    rw [e] at q
    exact fun cls d H' k bad => q cls d H' (fresh k) bad
end LC
namespace LC
open PySem PySem.Spec PyProof.Rows L2
section
variable {P : Program} {w : World} {K : PySem.W.Frag} {mg : Str → Option Value} {base : Heap}
abbrev s_unlike_names : Stmt := topS 33
theorem sc_unlike_names : FnScope ["terms", "found", "_", "names", "name"] ["terms"] (defScope s_unlike_names) := ⟨rfl, rfl, rfl, by decide +kernel, rfl, by decide +kernel, by decide +kernel⟩
theorem ok_unlike_names {f : Addr} {fd : FuncData} (T : Txt mg) (F : FnP K "unlike_names" s_unlike_names f fd) : FnOk P w K mg base CX0 1 f fd ["terms"] (spUnlikeNames K) := by
  have sc := sc_unlike_names
  refine F.ok sc (fun vs H Q E h => ?_) (fun cdv A outer s H vs Q E hr h => ?_)
  · obtain ⟨l, us, ts, rfl, _⟩ := h
    rfl
  · obtain ⟨l, us, ts, rfl, hl, hts, h10, h11, q⟩ := h
    refine ⟨_, PSs.nox (pss_cons (ps_set (i := 1) sc.nd rfl (.inl rfl) (pe_lst pa_nil))
(pss_cons (ps_for PassesOwn.never rfl (pi_tup (pv 0)) (pg_tup rfl (pgs_cons (pg_name (i := 2) sc.nd rfl (.inl rfl)) (pgs_cons (pg_name (i := 3) sc.nd rfl (.inl rfl)) pgs_nil)))
  (pss_one (ps_for PassesOwn.never rfl (pi_tup (pv 3)) (pg_name (i := 4) sc.nd rfl (.inl rfl))
    (pss_one (ps_if (pt_cmpR op_notIn_seq (pv 4) (pv 1) (by rfl))
      (pss_one (ps_expr (pe_bm PySem.F.plainAttrs_list PySem.F.slot_list_append PySem.F.type_list_append mt_append (pv 1) (pa_cons (pv 4) pa_nil))))
      pss_nil)))))
(pss_one (ps_ret (pe_callTy call_tuple_of (by rfl) T.n_tuple (by decide +kernel) (pa_cons (pv 1) pa_nil)))))), ?_⟩
    refine ⟨szn 0, fun fo n1 => ?_⟩
    generalize hH1 : upd H fo _ = H1
    obtain ⟨s1, e1⟩ := alloc_eq n1 hH1
    -- the terms
    refine ⟨.ref l, rfl, l, rfl, ⟨_, sqt_same s1 hl⟩, for_tup (K := K) (a := l) (xs := us) (fun i σ H' => ∃ a b c : Option V, σ = [some (.ref l), some (.ref fo), a, b, c] ∧ Same H H' ∧ H' fo = some (.lst ((unlike (ts.take i)).map V.str))) ⟨none, none, none, rfl, s1, e1⟩
      (fun i σ H' _ ⟨_, _, _, _, s, _⟩ => sqt_same s hl) ?_ ?_⟩
    · rintro i x σ H' hi ⟨a, b, c, rfl, sm, hfo⟩
      obtain ⟨t, ht, ta, tb, rfl, h1, h2⟩ := paired_get hts hi
      have hm : t ∈ ts := List.mem_of_getElem? ht
      refine ⟨ta, _, rfl, sqt_same sm h1, rfl, .int t.1, [.ref tb], rfl, .ref tb, [], rfl, rfl, ?_⟩
      -- the names
      have g2 := sqt_same sm h2
      refine ⟨.ref tb, rfl, tb, rfl, ⟨_, g2⟩, for_tup (K := K) (a := tb) (xs := t.2.map V.str) (fun j σ H2 => ∃ c : Option V, σ = [some (.ref l), some (.ref fo), some (.int t.1), some (.ref tb), c] ∧ Same H H2 ∧ H2 fo = some (.lst (((t.2.take j).foldl addN (unlike (ts.take i))).map V.str))) ⟨c, rfl, sm, hfo⟩
        (fun j σ H2 _ ⟨_, _, s, _⟩ => sqt_same s h2) ?_ ?_⟩
      · rintro j y σ H2 hj ⟨c, rfl, s2, hfo2⟩
        rw [List.getElem?_map] at hj
        obtain ⟨z, hz, rfl⟩ := Option.map_eq_some_iff.mp hj
        have nx := addN_next (acc := unlike (ts.take i)) hz
        have ln : ((t.2.take j).foldl addN (unlike (ts.take i))).length ≤ 1000 := by
          have a1 := foldN_len (t.2.take j) (unlike (ts.take i))
          have a2 := unlike_len (ts.take i) [] fun q hq => h11 q (List.mem_of_mem_take hq)
          have a3 : (ts.take i).length ≤ 10 := by
            rw [List.length_take]
            omega
          have a4 : (t.2.take j).length ≤ 10 := by
            rw [List.length_take]
            have := h11 t hm
            omega
          have a5 : ([] : List Str).length = 0 := rfl
          unfold unlike at a1 ⊢
          omega
        refine ⟨.str z, rfl, .ref fo, rfl, fo, _, rfl, .inl (.of hfo2), rfl, flat_strs _, _, rfl, ?_⟩
        rw [if_pos rfl, inV_str]
        refine iteND (fun hn => ?_) (fun hn => ?_)
        · refine ⟨.ref fo, rfl, .inl ⟨rfl, _, .inl (.inl hfo2)⟩, .str z, rfl, fo, _, _, rfl, rfl, hfo2, ?_, ?_⟩
          · rw [List.length_map]
            exact sz_lt (by omega)
          · refine ⟨some (.str z), rfl, ?_, ?_⟩
            · exact fun b o e => by
                rw [upd_ne (ne_of_none e n1)]
                exact s2 b o e
            · rw [upd_same, nx, addN_new hn, List.map_append]
              rfl
        · refine ⟨some (.str z), rfl, s2, ?_⟩
          rw [nx, addN_old hn]
          exact hfo2
      · rintro σ H2 ⟨c, rfl, s2, hfo2⟩
        refine ⟨_, _, c, rfl, s2, ?_⟩
        rw [unlike_next ht]
        rw [List.length_map, List.take_length] at hfo2
        exact hfo2
    · rintro σ H' ⟨a, b, c, rfl, sm, hfo⟩
      rw [hts.length, List.take_length] at hfo
      refine ⟨.ref fo, rfl, fo, _, rfl, .inl ⟨.of hfo, fun r nr => ?_⟩⟩
      generalize hH9 : upd H' r _ = H9
      obtain ⟨s9, e9⟩ := alloc_eq nr hH9
      exact q r H9 (sm.free nr) (sm.trans s9) (.of e9)
end
end LC
namespace LC
open PySem PySem.Spec PyProof.Rows L2
section
variable {P : Program} {w : World} {K : PySem.W.Frag} {mg : Str → Option Value} {base : Heap}
abbrev s_BadSum_init : Stmt := inClass (topS 7) 0
theorem sc_BadSum_init : FnScope ["self", "at"] ["self", "at"] (defScope s_BadSum_init) := ⟨rfl, rfl, rfl, by decide +kernel, rfl, by decide +kernel, by decide +kernel⟩
theorem ok_BadSum {f C : Addr} {fd : FuncData} (o : OexC K C) (no : PySem.W.findIn K (.ref C) "at" = some none) (F : FunD K "__init__" "BadSum.__init__" (defArgs s_BadSum_init) (defBody s_BadSum_init) (defScope s_BadSum_init) [] [] f fd) : FnOk P w K mg base CX0 1 f fd ["self", "at"] (spErr C "at") := by
  have sc := sc_BadSum_init
  refine F.ok sc (fun vs H Q E h => ?_) (fun cdv A outer s H vs Q E hr h => ?_)
  · obtain ⟨a, v, rfl, _⟩ := h
    rfl
  · obtain ⟨a, v, rfl, ha, q⟩ := h
    refine ⟨_, PSs.nox (pss_one (ps_ost (pv 0) (pv 1))), ?_⟩
    exact ⟨v, rfl, .ref a, rfl, a, C, rfl, o, no, .inl ⟨ha, fun dx n ne => q dx n ne⟩⟩
abbrev s_TooMany_init : Stmt := inClass (topS 6) 0
theorem sc_TooMany_init : FnScope ["self", "most"] ["self", "most"] (defScope s_TooMany_init) := ⟨rfl, rfl, rfl, by decide +kernel, rfl, by decide +kernel, by decide +kernel⟩
theorem ok_TooMany {f C : Addr} {fd : FuncData} (o : OexC K C) (no : PySem.W.findIn K (.ref C) "most" = some none) (F : FunD K "__init__" "TooMany.__init__" (defArgs s_TooMany_init) (defBody s_TooMany_init) (defScope s_TooMany_init) [] [] f fd) : FnOk P w K mg base CX0 1 f fd ["self", "most"] (spErr C "most") := by
  have sc := sc_TooMany_init
  refine F.ok sc (fun vs H Q E h => ?_) (fun cdv A outer s H vs Q E hr h => ?_)
  · obtain ⟨a, v, rfl, _⟩ := h
    rfl
  · obtain ⟨a, v, rfl, ha, q⟩ := h
    refine ⟨_, PSs.nox (pss_one (ps_ost (pv 0) (pv 1))), ?_⟩
    exact ⟨v, rfl, .ref a, rfl, a, C, rfl, o, no, .inl ⟨ha, fun dx n ne => q dx n ne⟩⟩
end
end LC
namespace LC
open PySem PySem.Spec PyProof.Rows L2
theorem first_bad {α : Type} : ∀ {os : List (Option α)} {i : Nat}, os[i]? = some none → (∀ o ∈ os.take i, o.isNone = false) → os.findIdx? (·.isNone) = some i
  | [], _, h, _ => by simp at h
  | o :: r, 0, h, _ => by
    have e : o = none := by simpa using h
    rw [e]
    rfl
  | o :: r, i + 1, h, g => by
    have e : o.isNone = false := g o (by simp)
    rw [List.findIdx?_cons, e, first_bad (os := r) (i := i) (by simpa using h) fun z hz => g z (by simp [hz])]
    rfl
theorem all_good {os : List (Option Term)} (h : ∀ o ∈ os, o.isNone = false) : ∃ ts : List Term, os = ts.map some := by
  induction os with
  | nil => exact ⟨[], rfl⟩
  | cons o r ih =>
    obtain ⟨ts, e⟩ := ih fun z hz => h z (List.mem_cons_of_mem _ hz)
    cases o with
    | none => exact absurd (h none (List.mem_cons_self ..)) (by decide)
    | some t => exact ⟨t :: ts, by rw [e]; rfl⟩
section
variable {P : Program} {w : World} {K : PySem.W.Frag} {mg : Str → Option Value} {base : Heap}
abbrev s_Sum_init : Stmt := inClass (topS 34) 0
theorem sc_Sum_init : FnScope ["self", "terms", "at", "term", "factor", "names"] ["self", "terms"] (defScope s_Sum_init) := ⟨rfl, rfl, rfl, by decide +kernel, rfl, by decide +kernel, by decide +kernel⟩
theorem fr_initG {f C CS CM fS fM : Addr} {fd fdS fdM : FuncData} (T : Txt mg) (S : SumTxt K mg C) (ES : ErrC P w K mg base "BadSum" "at" CS fS fdS) (EM : ErrC P w K mg base "TooMany" "most" CM fM fdM)
    (F : FunD K "__init__" "Sum.__init__" (defArgs s_Sum_init) (defBody s_Sum_init) (defScope s_Sum_init) [] [] f fd) (c_is_term : Cal P w K mg base CX0 3 "is_term" ["value"] (spIsTermG K))
    (c_unlike_names : Cal P w K mg base CX0 3 "unlike_names" ["terms"] (spUnlikeNames K)) : FnR P w K mg base (L2.CX P w) 4 f (fun vs H Q E => ∃ ws rest, vs = ws ++ rest ∧ ws.length = 1 ∧ rest.length ≤ sizeLine ∧ ∀ p, H p = none → spInitG K C CS CM (ws ++ [V.ref p]) (upd H p (.tup rest)) Q E) := by
  have sc := sc_Sum_init
  obtain ⟨oc, od, dV, kV, doc, pm, an, cdv, ct, osl, rfl, lk, hcd, hD, _⟩ := F.ex
  have eD : dV = .none := by
    rcases hD with ⟨_, e⟩ | ⟨e, _⟩
    · exact e
    · exact absurd rfl e
  subst eD
  refine StX.fn_star (ps := ["self"]) (pv := "terms") lk hcd sc StX.cxUp (StX.bind_star1 (B := fun us => bindArgs (PySem.W.fnOf "__init__" "Sum.__init__" (defArgs s_Sum_init) (defBody s_Sum_init) (defScope s_Sum_init) .none kV doc pm an cdv ct) ⟨us, []⟩) (p1 := "self") (pv := "terms") (fun a => rfl) (fun a r rs => rfl)) (fun A outer s H vs Q E hr h => ?_)
  obtain ⟨x, tp, dx, us, os, rfl, hx, htp, hos, l1000, q⟩ := h
  refine ⟨_, (pss_cons (ps_if (pt_not (pt_truth (pv 1) (by intro _; rfl)))
  (pss_one (ps_err ES rfl hr (by decide) (takes_of rfl rfl rfl rfl) (pa_cons pe_non pa_nil)))
  pss_nil)
(pss_cons (ps_if (pt_cmpR op_gt (pe_callB call_len (by rfl) T.n_len (by decide +kernel) (pa_cons (pv 1) pa_nil)) (pe_gint T.g_MOST_TERMS) (nomark _))
  (pss_one (ps_err EM rfl hr (by decide) (takes_of rfl rfl rfl rfl) (pa_cons (pe_gint T.g_MOST_TERMS) pa_nil)))
  pss_nil)
(pss_cons (ps_for (passes_of rfl) rfl (pi_enumT (by rfl) T.n_enumerate (pa_cons (pv 1) pa_nil)) (pg_or (pg_tup rfl (pgs_cons (pg_name (i := 2) sc.nd rfl (.inl rfl)) (pgs_cons (pg_name (i := 3) sc.nd rfl (.inl rfl)) pgs_nil))) (pg_lst rfl (pgs_cons (pg_name (i := 2) sc.nd rfl (.inl rfl)) (pgs_cons (pg_name (i := 3) sc.nd rfl (.inl rfl)) pgs_nil))))
  (pss_one (ps_if (pt_not (pt_val (pe_cal c_is_term hr (by rfl) pass0 (pa_cons (pv 3) pa_nil))))
    (pss_one (ps_err ES rfl hr (by decide) (takes_of rfl rfl rfl rfl) (pa_cons (pv 2) pa_nil)))
    pss_nil)))
(pss_cons (ps_fld (pv 0) (pe_callTy call_tuple_of (by rfl) T.n_tuple (by decide +kernel) (pa_cons (pe_lc (own := [("factor", 4), ("names", 5)]) (g := (gOr (gTup K 2 (gCons (gName 4) (gCons (gName 5) gNil))) (gLst K 2 (gCons (gName 4) (gCons (gName 5) gNil))))) (te := (tTup (tCons (tVar 4) (tCons (tCB (fun xs H Q => ∃ p ys, xs = [.ref p] ∧ ((SqL K H p ys ∧ ∀ l, H l = none → Q (.ref l) (upd H l (.tup ys))) ∨ (SqT K H p ys ∧ Q (.ref p) H))) (tCons (tVar 5) tNil)) tNil)))) (tt := tYes) rfl sc.nd (pi_tup (pv 1)) (blkOk_by (N := ["self", "terms", "at", "term", "factor", "names"]) (sc := defScope s_Sum_init) (by decide +kernel)) (fun _ _ _ _ _ => by exact (pg_or (pg_tup rfl (pgs_cons (pg_name (i := 4) sc.nd rfl (.inl rfl)) (pgs_cons (pg_name (i := 5) sc.nd rfl (.inl rfl)) pgs_nil))) (pg_lst rfl (pgs_cons (pg_name (i := 4) sc.nd rfl (.inl rfl)) (pgs_cons (pg_name (i := 5) sc.nd rfl (.inl rfl)) pgs_nil))))) (fun _ _ _ _ _ => by exact pts_nil) (fun _ _ _ _ _ => by exact (pe_tup (pa_cons (pv 4) (pa_cons (pe_callTy call_tuple_of (by rfl) T.n_tuple (by decide +kernel) (pa_cons (pv 5) pa_nil)) pa_nil))))) pa_nil)) rfl)
(pss_cons (ps_fld (pv 0) (pe_cal c_unlike_names hr (by rfl) pass0 (pa_cons (pe_fld (pv 0) rfl) pa_nil)) rfl)
(pss_one (ps_if (pt_cmpR op_gt (pe_callB call_len (by rfl) T.n_len (by decide +kernel) (pa_cons (pe_fld (pv 0) rfl) pa_nil)) (pe_gint T.g_MOST_UNLIKE) (nomark _))
  (pss_one (ps_err EM rfl hr (by decide) (takes_of rfl rfl rfl rfl) (pa_cons (pe_gint T.g_MOST_UNLIKE) pa_nil)))
  pss_nil))))))), ?_⟩
  have hlen : us.length = os.length := hos.length
  have wrong : ∀ {word : Str} {v : V}, sumOut os = .error (word, v) → ∀ cls d H', But x H H' → Bad CS CM word v cls d H' → E cls d H' := fun e => by
    rw [e] at q
    exact q
  -- if not terms
  refine ⟨.ref tp, rfl, _, .inr (.inl ⟨us, htp, rfl⟩), ?_⟩
  by_cases h0 : os = []
  · have e0 : (!us.isEmpty) = false := by
      rw [h0] at hlen
      rw [List.length_eq_zero_iff.mp hlen]
      rfl
    rw [e0]
    refine iteT ?_
    have out : sumOut os = .error ("sum", .non) := by
      unfold sumOut
      rw [if_pos h0]
    exact err_of fun d H2 nd sm ed => wrong out _ _ _ (.same sm) ⟨d, rfl, .inl ⟨rfl, rfl, ed⟩⟩
  have e0 : (!us.isEmpty) = true := by
    cases us with
    | nil => exact absurd (List.length_eq_zero_iff.mp hlen.symm) h0
    | cons a r => rfl
  rw [e0]
  refine iteF ?_
  -- if len(terms) > MOST_TERMS
  refine ⟨.ref tp, rfl, .ref tp, _, rfl, .inr ⟨_, htp, rfl⟩, _, 4, rfl, rfl, _, rfl, iteD (fun e1 => ?_) (fun e1 => ?_)⟩
  · have out : sumOut os = .error ("many", .int 4) := by
      unfold sumOut
      rw [if_neg h0, if_pos (by omega)]
    exact err_of fun d H2 nd sm ed => wrong out _ _ _ (.same sm) ⟨d, rfl, .inr ⟨rfl, rfl, ed⟩⟩
  have l4 : os.length ≤ 4 := by omega
  -- for at, term in enumerate(terms)
  refine ⟨.ref tp, rfl, tp, us, rfl, htp, for_it walk_enumT (fun i σ H' => (∀ o ∈ os.take i, o.isNone = false) ∧ Same H H' ∧ ∃ a b : Option V, σ = [some (.ref x), some (.ref tp), a, b, none, none]) ⟨fun _ h => (nomatch h), Same.refl H, none, none, rfl⟩ (fun i σ H' _ h => sqt_same h.2.1 htp) ?_ ?_⟩
  · rintro i v σ H' H2 hi ⟨good, sm, a, b, rfl⟩ ⟨tt, v1, v2, rfl, ntt, rfl, hv1, hv2⟩
    cases Option.some.inj hv1
    obtain ⟨o, ho, ao⟩ := paired_get hos hv2
    have s2 : Same H (upd H' tt (.tup [.int (i : Nat), v2])) := sm.trans (same_new ntt)
    refine .inl ⟨tt, _, rfl, .of upd_same, rfl, .int (i : Nat), [v2], rfl, v2, [], rfl, rfl, ?_⟩
    refine ⟨v2, rfl, v2, o.isSome, rfl, (ao.same s2).arg, fun H3 s3 => ⟨_, rfl, ?_⟩⟩
    cases o with
    | none =>
      refine iteT ?_
      refine ⟨.int (i : Nat), rfl, ?_⟩
      have out : sumOut os = .error ("sum", .int (i : Nat)) := by
        unfold sumOut
        rw [if_neg h0, if_neg (by omega), first_bad ho good]
      exact err_of fun d H4 nd sm4 ed => wrong out _ _ _ (.same ((s2.trans s3).trans sm4)) ⟨d, rfl, .inl ⟨rfl, rfl, ed⟩⟩
    | some t =>
      refine iteF ?_
      refine ⟨?_, s2.trans s3, some (.int (i : Nat)), some v2, rfl⟩
      rw [take_next ho]
      intro z hz
      rcases List.mem_append.mp hz with hz | hz
      · exact good z hz
      · rw [List.mem_singleton.mp hz]
        rfl
  · rintro σ H' ⟨good, sm, a, b, rfl⟩
    rw [hlen, List.take_length] at good
    obtain ⟨ts, rfl⟩ := all_good good
    rw [List.length_map] at hlen l4
    have hx' := sm _ _ hx
    -- self._terms = tuple([..])
    refine ⟨.ref tp, rfl, tp, rfl, ⟨_, sqt_same sm htp⟩, fun D nD => ?_⟩
    refine lc_tup (K := K) (a := tp) (xs := us) (fun i H2 => ∃ vs2 : List V, Same H' H2 ∧ H2 D = some (.lst vs2) ∧ TermsV K H2 vs2 (ts.take i) ∧ vs2.length = i) ⟨[], same_new nD, upd_same, .nil, rfl⟩ (fun i H2 _ ⟨_, s2, _⟩ => sqt_same s2 (sqt_same sm htp)) ?_ ?_
    · rintro i v H2 hi ⟨vs2, s2, hD, h2, hl2⟩
      obtain ⟨o, ho, ao⟩ := paired_get hos hi
      rw [List.getElem?_map] at ho
      obtain ⟨t, ht, rfl⟩ := Option.map_eq_some_iff.mp ho
      have hil : i < us.length := (List.getElem?_eq_some_iff.mp hi).1
      obtain ⟨y, sq, sy, tf⟩ := TermA.same ao (sm.trans s2)
      obtain ⟨a, rfl, sq⟩ := sq
      obtain ⟨b, rfl, sy⟩ := sy
      have fin : ∀ (H3 : Hp) (n : Addr), Same H2 H3 → SqT K H3 n (t.2.map V.str) → ∀ tn : Addr, H3 tn = none → ∃ acc, (upd H3 tn (.tup [.int t.1, .ref n])) D = some (.lst acc) ∧ acc.length < sizeLine ∧
          ∃ vs3 : List V, Same H' (upd (upd H3 tn (.tup [.int t.1, .ref n])) D (.lst (acc ++ [.ref tn]))) ∧ (upd (upd H3 tn (.tup [.int t.1, .ref n])) D (.lst (acc ++ [.ref tn]))) D = some (.lst vs3) ∧ TermsV K (upd (upd H3 tn (.tup [.int t.1, .ref n])) D (.lst (acc ++ [.ref tn]))) vs3 (ts.take (i + 1)) ∧ vs3.length = i + 1 := by
        intro H3 n s3 hn tn ntn
        generalize hH4 : upd H3 tn _ = H4
        obtain ⟨s4, e4⟩ := alloc_eq ntn hH4
        have hD4 := s4 _ _ (s3 _ _ hD)
        have k5 : But D H4 (upd H4 D (.lst (vs2 ++ [.ref tn]))) := .set
        refine ⟨vs2, hD4, sz_lt (by omega), vs2 ++ [.ref tn], fun b o e => ?_, upd_same, ?_, ?_⟩
        · rw [upd_ne (ne_of_none e nD)]
          exact s4 _ _ (s3 _ _ (s2 b o e))
        · rw [take_next ht]
          exact ((h2.same (s3.trans s4)).but k5 hD4).snoc (TermV.but ⟨tn, n, rfl, .of e4, sqt_same s4 hn⟩ k5 hD4)
        · rw [List.length_append, hl2]
          rfl
      rcases sq with sq | sq
      · refine .inr ⟨a, _, rfl, sq, rfl, .int t.1, [.ref b], rfl, .ref b, [], rfl, rfl, rfl, tyes_of ?_⟩
        rcases sy with sy | sy
        · refine ⟨.int t.1, rfl, .ref b, rfl, b, _, rfl, .inl ⟨sy, fun n nn => ?_⟩⟩
          generalize hH3 : upd H2 n _ = H3
          obtain ⟨s3, e3⟩ := alloc_eq nn hH3
          exact ⟨szn 2, fun tn ntn => fin H3 n s3 (.of e3) tn ntn⟩
        · exact ⟨.int t.1, rfl, .ref b, rfl, b, _, rfl, .inr ⟨sy, szn 2, fun tn ntn => fin H2 b (Same.refl H2) sy tn ntn⟩⟩
      · refine .inl ⟨a, _, rfl, sq, rfl, .int t.1, [.ref b], rfl, .ref b, [], rfl, rfl, rfl, tyes_of ?_⟩
        rcases sy with sy | sy
        · refine ⟨.int t.1, rfl, .ref b, rfl, b, _, rfl, .inl ⟨sy, fun n nn => ?_⟩⟩
          generalize hH3 : upd H2 n _ = H3
          obtain ⟨s3, e3⟩ := alloc_eq nn hH3
          exact ⟨szn 2, fun tn ntn => fin H3 n s3 (.of e3) tn ntn⟩
        · exact ⟨.int t.1, rfl, .ref b, rfl, b, _, rfl, .inr ⟨sy, szn 2, fun tn ntn => fin H2 b (Same.refl H2) sy tn ntn⟩⟩
    · rintro H2 ⟨vs2, s2, hD, h2, hl2⟩
      rw [hlen, List.take_length] at h2
      refine ⟨D, _, rfl, .inl ⟨.of hD, fun tT ntT => ?_⟩⟩
      generalize hH3 : upd H2 tT _ = H3
      obtain ⟨s3, e3⟩ := alloc_eq ntT hH3
      have hx3 := s3 _ _ (s2 _ _ hx')
      refine ⟨.ref x, rfl, x, C, dx, _, rfl, hx3, S.cl, S.nT, by show 0 < 1000; decide, ?_⟩
      generalize hH4 : upd H3 x _ = H4
      have k4 : But x H3 H4 := by
        rw [← hH4]
        exact .set
      have hx4 : H4 x = some (.ins C dx (putF "_terms" (.ref tT) [])) := by
        rw [← hH4]
        exact upd_same
      have txT : tT ≠ x := ne_of e3 hx3 (fun z => nomatch z)
      have eT : H4 tT = some (.tup vs2) := k4 _ _ txT e3
      have h4 : TermsV K H4 vs2 ts := (h2.same s3).butN k4 hx3 trivial
      have hf : ∀ t ∈ ts, TermFine t := fun t ht => by
        obtain ⟨i, hi, e⟩ := List.getElem_of_mem ht
        have hi2 : i < us.length := by omega
        obtain ⟨o, ho, ao⟩ := paired_get hos (List.getElem?_eq_getElem hi2)
        rw [List.getElem?_map, List.getElem?_eq_getElem hi, e] at ho
        cases ho
        obtain ⟨_, _, _, tf⟩ := ao
        exact tf
      -- self._names = unlike_names(self._terms)
      refine ⟨.ref x, rfl, x, C, dx, _, _, rfl, hx4, S.cl, S.nT, by rw [lookup_putF, if_pos rfl], tT, vs2, ts, rfl, .of eT, h4, by omega, fun t ht => by have := (hf t ht).2.2.1; omega, fun r H5 nr s5 hr5 => ?_⟩
      have hx5 := s5 _ _ hx4
      refine ⟨.ref x, rfl, x, C, dx, _, rfl, hx5, S.cl, S.nN, by show 1 < 1000; decide, ?_⟩
      generalize hH6 : upd H5 x _ = H6
      have k6 : But x H5 H6 := by
        rw [← hH6]
        exact .set
      have hx6 : H6 x = some (.ins C dx (sflds tT r)) := by
        rw [← hH6]
        exact upd_same
      have hN6 := k6.sqtN hx5 trivial hr5
      have K6 : But x H H6 := (((((But.same sm).trans (.same s2)).trans (.same s3)).trans k4).trans (.same s5)).trans k6
      have nobad : (ts.map some).findIdx? (·.isNone) = none := by
        rw [List.findIdx?_eq_none_iff]
        intro o ho
        exact good o ho
      have ids : (ts.map some).filterMap id = ts := by
        rw [List.filterMap_map]
        exact List.filterMap_some
      -- if len(self._names) > MOST_UNLIKE
      refine ⟨.ref x, rfl, x, C, dx, _, _, rfl, hx6, S.cl, S.nN, sflds_names _ _, .ref r, _, rfl, .inr ⟨_, hN6, rfl⟩, _, 3, rfl, rfl, _, rfl, iteD (fun e9 => ?_) (fun e9 => ?_)⟩
      · rw [List.length_map] at e9
        have out : sumOut (ts.map some) = .error ("many", .int 3) := by
          unfold sumOut
          rw [if_neg h0, if_neg (by rw [List.length_map]; omega), nobad]
          show (if 3 < (unlike ((ts.map some).filterMap id)).length then _ else _) = _
          rw [ids, if_pos (by omega)]
        exact err_of fun d H7 nd sm7 ed => wrong out _ _ _ (K6.trans (.same sm7)) ⟨d, rfl, .inr ⟨rfl, rfl, ed⟩⟩
      · rw [List.length_map] at e9
        have out : sumOut (ts.map some) = .ok ts := by
          unfold sumOut
          rw [if_neg h0, if_neg (by rw [List.length_map]; omega), nobad]
          show (if 3 < (unlike ((ts.map some).filterMap id)).length then _ else _) = _
          rw [ids, if_neg (by omega)]
        have q2 : ∀ H', But x H H' → SumAt K C H' x ts → Q .non H' := by
          rw [out] at q
          exact q
        exact q2 H6 K6 ⟨dx, tT, r, vs2, hx6, k6.sqtN hx5 trivial (sqt_same s5 (.of eT)), (h4.same s5).butN k6 hx5 trivial, hN6⟩
end
end LC
namespace LC
open PySem PySem.Spec PyProof.Rows L2
section
variable {P : Program} {w : World} {K : PySem.W.Frag} {mg : Str → Option Value} {base : Heap}
abbrev s_sum : Stmt := topS 43
theorem sc_sum : FnScope ["terms"] ["terms"] (defScope s_sum) := ⟨rfl, rfl, rfl, by decide +kernel, rfl, by decide +kernel, by decide +kernel⟩
theorem ok_sumG {f C CS CM fI : Addr} {fd : FuncData} (T : Txt mg) (S : SumTxt K mg C) (M : Mk K C fI) (F : FnP K "_law_sum" s_sum f fd)
    (FI : FnR P w K mg base (L2.CX P w) 4 fI (fun vs H Q E => ∃ ws rest, vs = ws ++ rest ∧ ws.length = 1 ∧ rest.length ≤ sizeLine ∧ ∀ p, H p = none → spInitG K C CS CM (ws ++ [V.ref p]) (upd H p (.tup rest)) Q E)) : FnOk P w K mg base (L2.CX P w) 6 f fd ["terms"] (spSumG K C CS CM) := by
  have sc := sc_sum
  refine F.ok sc (fun vs H Q E h => ?_) (fun cdv A outer s H vs Q E hr h => ?_)
  · obtain ⟨l, us, os, rfl, _⟩ := h
    rfl
  · obtain ⟨l, us, os, rfl, hl, ho, h5, q⟩ := h
    refine ⟨_, (pss_cons (ps_if (pt_cmpR op_eq (pe_callB call_len (by rfl) T.n_len (by decide +kernel) (pa_cons (pv 0) pa_nil)) pe_int (nomark _))
  (pss_one (ps_ret (pe_makeR0 M FI hr (by rfl) S.g_Sum (passes_call (takes_of rfl rfl rfl rfl) fun _ _ _ _ h => h))))
  pss_nil)
(pss_cons (ps_if (pt_cmpR op_eq (pe_callB call_len (by rfl) T.n_len (by decide +kernel) (pa_cons (pv 0) pa_nil)) pe_int (nomark _))
  (pss_one (ps_ret (StX.pe_makeR M FI hr (by rfl) S.g_Sum (passes_call (takes_of rfl rfl rfl rfl) fun _ _ _ _ h => h) (pa_cons (pe_ix ix_list (pv 0) pe_int (fun _ _ => rfl)) pa_nil))))
  pss_nil)
(pss_cons (ps_if (pt_cmpR op_eq (pe_callB call_len (by rfl) T.n_len (by decide +kernel) (pa_cons (pv 0) pa_nil)) pe_int (nomark _))
  (pss_one (ps_ret (StX.pe_makeR M FI hr (by rfl) S.g_Sum (passes_call (takes_of rfl rfl rfl rfl) fun _ _ _ _ h => h) (pa_cons (pe_ix ix_list (pv 0) pe_int (fun _ _ => rfl)) (pa_cons (pe_ix ix_list (pv 0) pe_int (fun _ _ => rfl)) pa_nil)))))
  pss_nil)
(pss_cons (ps_if (pt_cmpR op_eq (pe_callB call_len (by rfl) T.n_len (by decide +kernel) (pa_cons (pv 0) pa_nil)) pe_int (nomark _))
  (pss_one (ps_ret (StX.pe_makeR M FI hr (by rfl) S.g_Sum (passes_call (takes_of rfl rfl rfl rfl) fun _ _ _ _ h => h) (pa_cons (pe_ix ix_list (pv 0) pe_int (fun _ _ => rfl)) (pa_cons (pe_ix ix_list (pv 0) pe_int (fun _ _ => rfl)) (pa_cons (pe_ix ix_list (pv 0) pe_int (fun _ _ => rfl)) pa_nil))))))
  pss_nil)
(pss_cons (ps_if (pt_cmpR op_eq (pe_callB call_len (by rfl) T.n_len (by decide +kernel) (pa_cons (pv 0) pa_nil)) pe_int (nomark _))
  (pss_one (ps_ret (StX.pe_makeR M FI hr (by rfl) S.g_Sum (passes_call (takes_of rfl rfl rfl rfl) fun _ _ _ _ h => h) (pa_cons (pe_ix ix_list (pv 0) pe_int (fun _ _ => rfl)) (pa_cons (pe_ix ix_list (pv 0) pe_int (fun _ _ => rfl)) (pa_cons (pe_ix ix_list (pv 0) pe_int (fun _ _ => rfl)) (pa_cons (pe_ix ix_list (pv 0) pe_int (fun _ _ => rfl)) pa_nil)))))))
  pss_nil)
(pss_one (ps_ret (StX.pe_makeR M FI hr (by rfl) S.g_Sum (passes_call (takes_of rfl rfl rfl rfl) fun _ _ _ _ h => h) (pa_cons (pe_ix ix_list (pv 0) pe_int (fun _ _ => rfl)) (pa_cons (pe_ix ix_list (pv 0) pe_int (fun _ _ => rfl)) (pa_cons (pe_ix ix_list (pv 0) pe_int (fun _ _ => rfl)) (pa_cons (pe_ix ix_list (pv 0) pe_int (fun _ _ => rfl)) (pa_cons (pe_ix ix_list (pv 0) pe_int (fun _ _ => rfl)) pa_nil))))))))))))), ?_⟩
    have mk := mk_sumG (C := C) (CS := CS) (CM := CM) ho h5 q
    match us, hl, mk, h5 with
    | [], hl, mk, _ =>
      refine ⟨.ref l, rfl, .ref l, _, rfl, .inl ⟨_, hl, rfl⟩, rfl, _, rfl, iteD (fun _ => ?_) (fun e => absurd rfl e)⟩
      exact mk
    | [a], hl, mk, _ =>
      refine ⟨.ref l, rfl, .ref l, _, rfl, .inl ⟨_, hl, rfl⟩, rfl, _, rfl, iteD (fun e => absurd (V.int.inj e) (by simp)) (fun _ => ?_)⟩
      refine ⟨.ref l, rfl, .ref l, _, rfl, .inl ⟨_, hl, rfl⟩, rfl, _, rfl, iteD (fun _ => ?_) (fun e => absurd rfl e)⟩
      exact ⟨.ref l, rfl, l, _, 0, a, rfl, rfl, hl, rfl, mk⟩
    | [a, b], hl, mk, _ =>
      refine ⟨.ref l, rfl, .ref l, _, rfl, .inl ⟨_, hl, rfl⟩, rfl, _, rfl, iteD (fun e => absurd (V.int.inj e) (by simp)) (fun _ => ?_)⟩
      refine ⟨.ref l, rfl, .ref l, _, rfl, .inl ⟨_, hl, rfl⟩, rfl, _, rfl, iteD (fun e => absurd (V.int.inj e) (by simp)) (fun _ => ?_)⟩
      refine ⟨.ref l, rfl, .ref l, _, rfl, .inl ⟨_, hl, rfl⟩, rfl, _, rfl, iteD (fun _ => ?_) (fun e => absurd rfl e)⟩
      exact ⟨.ref l, rfl, l, _, 0, a, rfl, rfl, hl, rfl, .ref l, rfl, l, _, 1, b, rfl, rfl, hl, rfl, mk⟩
    | [a, b, c], hl, mk, _ =>
      refine ⟨.ref l, rfl, .ref l, _, rfl, .inl ⟨_, hl, rfl⟩, rfl, _, rfl, iteD (fun e => absurd (V.int.inj e) (by simp)) (fun _ => ?_)⟩
      refine ⟨.ref l, rfl, .ref l, _, rfl, .inl ⟨_, hl, rfl⟩, rfl, _, rfl, iteD (fun e => absurd (V.int.inj e) (by simp)) (fun _ => ?_)⟩
      refine ⟨.ref l, rfl, .ref l, _, rfl, .inl ⟨_, hl, rfl⟩, rfl, _, rfl, iteD (fun e => absurd (V.int.inj e) (by simp)) (fun _ => ?_)⟩
      refine ⟨.ref l, rfl, .ref l, _, rfl, .inl ⟨_, hl, rfl⟩, rfl, _, rfl, iteD (fun _ => ?_) (fun e => absurd rfl e)⟩
      exact ⟨.ref l, rfl, l, _, 0, a, rfl, rfl, hl, rfl, .ref l, rfl, l, _, 1, b, rfl, rfl, hl, rfl, .ref l, rfl, l, _, 2, c, rfl, rfl, hl, rfl, mk⟩
    | [a, b, c, d], hl, mk, _ =>
      refine ⟨.ref l, rfl, .ref l, _, rfl, .inl ⟨_, hl, rfl⟩, rfl, _, rfl, iteD (fun e => absurd (V.int.inj e) (by simp)) (fun _ => ?_)⟩
      refine ⟨.ref l, rfl, .ref l, _, rfl, .inl ⟨_, hl, rfl⟩, rfl, _, rfl, iteD (fun e => absurd (V.int.inj e) (by simp)) (fun _ => ?_)⟩
      refine ⟨.ref l, rfl, .ref l, _, rfl, .inl ⟨_, hl, rfl⟩, rfl, _, rfl, iteD (fun e => absurd (V.int.inj e) (by simp)) (fun _ => ?_)⟩
      refine ⟨.ref l, rfl, .ref l, _, rfl, .inl ⟨_, hl, rfl⟩, rfl, _, rfl, iteD (fun e => absurd (V.int.inj e) (by simp)) (fun _ => ?_)⟩
      refine ⟨.ref l, rfl, .ref l, _, rfl, .inl ⟨_, hl, rfl⟩, rfl, _, rfl, iteD (fun _ => ?_) (fun e => absurd rfl e)⟩
      exact ⟨.ref l, rfl, l, _, 0, a, rfl, rfl, hl, rfl, .ref l, rfl, l, _, 1, b, rfl, rfl, hl, rfl, .ref l, rfl, l, _, 2, c, rfl, rfl, hl, rfl, .ref l, rfl, l, _, 3, d, rfl, rfl, hl, rfl, mk⟩
    | [a, b, c, d, e], hl, mk, _ =>
      refine ⟨.ref l, rfl, .ref l, _, rfl, .inl ⟨_, hl, rfl⟩, rfl, _, rfl, iteD (fun e => absurd (V.int.inj e) (by simp)) (fun _ => ?_)⟩
      refine ⟨.ref l, rfl, .ref l, _, rfl, .inl ⟨_, hl, rfl⟩, rfl, _, rfl, iteD (fun e => absurd (V.int.inj e) (by simp)) (fun _ => ?_)⟩
      refine ⟨.ref l, rfl, .ref l, _, rfl, .inl ⟨_, hl, rfl⟩, rfl, _, rfl, iteD (fun e => absurd (V.int.inj e) (by simp)) (fun _ => ?_)⟩
      refine ⟨.ref l, rfl, .ref l, _, rfl, .inl ⟨_, hl, rfl⟩, rfl, _, rfl, iteD (fun e => absurd (V.int.inj e) (by simp)) (fun _ => ?_)⟩
      refine ⟨.ref l, rfl, .ref l, _, rfl, .inl ⟨_, hl, rfl⟩, rfl, _, rfl, iteD (fun e => absurd (V.int.inj e) (by simp)) (fun _ => ?_)⟩
      exact ⟨.ref l, rfl, l, _, 0, a, rfl, rfl, hl, rfl, .ref l, rfl, l, _, 1, b, rfl, rfl, hl, rfl, .ref l, rfl, l, _, 2, c, rfl, rfl, hl, rfl, .ref l, rfl, l, _, 3, d, rfl, rfl, hl, rfl, .ref l, rfl, l, _, 4, e, rfl, rfl, hl, rfl, mk⟩
    | _ :: _ :: _ :: _ :: _ :: _ :: _, _, _, h => simp at h
end
end LC
/-! LcText: how a sum is written. -/
namespace LC
open PySem PySem.Spec PyProof.Rows L2
abbrev strI (i : Int) : Str := toString i
/-- a term's text -/
def termT (f : Int) (ns : List Str) : Str := if f = 1 ∧ ns ≠ [] then Txt.join " * " ns else Txt.join " * " (strI f :: ns)
/-- the words that follow the first term's -/
def moreW : List Term → List Str
  | [] => []
  | t :: r => (if t.1 < 0 then "-" else "+") :: termT (if t.1 < 0 then -t.1 else t.1) t.2 :: moreW r
def sumW : List Term → List Str
  | [] => []
  | t :: r => termT t.1 t.2 :: moreW r
def sumText (ts : List Term) : Str := Txt.join " " (sumW ts)
theorem moreW_append : ∀ (a b : List Term), moreW (a ++ b) = moreW a ++ moreW b
  | [], b => rfl
  | t :: r, b => by
    show _ :: _ :: moreW (r ++ b) = _
    rw [moreW_append r b]
    rfl
theorem sumW_append {a b : List Term} (h : a ≠ []) : sumW (a ++ b) = sumW a ++ moreW b := by
  cases a with
  | nil => exact absurd rfl h
  | cons t r =>
    show _ :: moreW (r ++ b) = _
    rw [moreW_append]
    rfl
def spTermText (K : PySem.W.Frag) : Sp := fun vs H Q _ => ∃ (f : Int) (b : Addr) (ns : List Str), vs = [.int f, .ref b] ∧ SqT K H b (ns.map V.str) ∧ f.natAbs ≤ 999999 ∧ ns.length ≤ 3 ∧ (∀ x ∈ ns, nameB x = true) ∧ ∀ H', Same H H' → Q (.str (termT f ns)) H'
theorem names_sum : ∀ {ns : List Str}, (∀ x ∈ ns, nameB x = true) → (ns.map (·.length)).sum ≤ 6 * ns.length
  | [], _ => by simp
  | x :: r, h => by
    have a := (name_len (h x (List.mem_cons_self ..))).2
    have b := names_sum (ns := r) fun y hy => h y (List.mem_cons_of_mem _ hy)
    simp only [List.map_cons, List.sum_cons, List.length_cons]
    omega
theorem int_short {f : Int} (h : f.natAbs ≤ 999999) : (strI f).length ≤ 8 := by
  have e := int_text_length_le10 (a := f) (k := 6) (by decide) (by omega)
  show (Str.ofString (toString f)).length ≤ 8
  rw [PySem.ofString_length]
  omega
end LC
namespace LC
open PySem PySem.Spec PyProof.Rows L2
section
variable {P : Program} {w : World} {K : PySem.W.Frag} {mg : Str → Option Value} {base : Heap}
abbrev s_term_text : Stmt := topS 24
theorem sc_term_text : FnScope ["factor", "names"] ["factor", "names"] (defScope s_term_text) := ⟨rfl, rfl, rfl, by decide +kernel, rfl, by decide +kernel, by decide +kernel⟩
theorem ok_term_text {f : Addr} {fd : FuncData} (T : Txt mg) (F : FnP K "term_text" s_term_text f fd) : FnOk P w K mg base CX0 1 f fd ["factor", "names"] (spTermText K) := by
  have sc := sc_term_text
  refine F.ok sc (fun vs H Q E h => ?_) (fun cdv A outer s H vs Q E hr h => ?_)
  · obtain ⟨i, b, ns, rfl, _⟩ := h
    rfl
  · obtain ⟨i, b, ns, rfl, hb, hi, hl, hn, q⟩ := h
    refine ⟨_, PSs.nox (pss_cons (ps_if (PW.pt (pw_and (pt_cmpR op_eq (pv 0) pe_int (nomark _)) (pw_and1 (pt_truth (pv 1) (by intro _; rfl)))))
  (pss_one (ps_ret (pe_bm PySem.F.plainAttrs_str PySem.F.slot_str_join PySem.F.type_str_join mt_join pe_str (pa_cons (pv 1) pa_nil))))
  pss_nil)
(pss_one (ps_ret (pe_bm PySem.F.plainAttrs_str PySem.F.slot_str_join PySem.F.type_str_join mt_join pe_str (pa_cons (pe_lst (pa_cons (pe_callTy call_str_int (by rfl) T.n_str (by decide +kernel) (pa_cons (pv 0) pa_nil)) (StX.pa_star (pv 1) pa_nil))) pa_nil))))), ?_⟩
    have js := names_sum hn
    have li := int_short hi
    have lg : i.natAbs.log2 < 1920 := by
      by_cases e : i.natAbs = 0
      · rw [e]
        decide
      · exact (Nat.log2_lt e).mpr (Nat.lt_of_le_of_lt hi (Nat.lt_of_lt_of_le (by decide : 999999 < 2 ^ 20) (Nat.pow_le_pow_right (by decide) (by decide))))
    have sep : ∀ {H' : Hp} {p : Addr} {ys : List Str} {G : VK}, (SqL K H' p (ys.map V.str) ∨ SqT K H' p (ys.map V.str)) → (ys.map (·.length)).sum + ys.length * 3 ≤ 16777216 → G (.str (Txt.join " * " ys)) H' → ∃ (a : Str) (q : Addr) (zs : List Str), V.str " * " = .str a ∧ [V.ref p] = [.ref q] ∧ (SqL K H' q (zs.map V.str) ∨ SqT K H' q (zs.map V.str)) ∧ (zs.map (·.length)).sum + zs.length * a.length ≤ 16777216 ∧ G (.str (Txt.join a zs)) H' := fun h l g => ⟨_, _, _, rfl, rfl, h, l, g⟩
    by_cases h1 : i = 1
    · refine ⟨.int i, rfl, rfl, _, rfl, ?_⟩
      rw [decide_eq_true (congrArg V.int h1)]
      refine iteT ?_
      refine ⟨.ref b, rfl, _, .inr (.inl ⟨_, hb, rfl⟩), ?_⟩
      cases ns with
      | nil =>
        refine iteF ?_
        refine ⟨rfl, .int i, rfl, i, rfl, lg, .ref b, rfl, b, _, rfl, .inl hb, sz_le (by simp <;> omega), fun l nl => ?_⟩
        generalize hH1 : upd H l _ = H1
        obtain ⟨s1, e1⟩ := alloc_eq nl hH1
        have e2 : H1 l = some (.lst ((strI i :: []).map V.str)) := by
          rw [e1, List.append_nil]
          rfl
        refine sep (.inl (.of e2)) (by simp only [List.map_cons, List.sum_cons, List.length_cons]; omega) ?_
        have e : termT i [] = Txt.join " * " [strI i] := if_neg fun z => z.2 rfl
        rw [← e]
        exact q H1 s1
      | cons n0 nr =>
        refine iteT ?_
        refine ⟨rfl, .ref b, rfl, sep (.inr hb) (by omega) ?_⟩
        have e : termT i (n0 :: nr) = Txt.join " * " (n0 :: nr) := if_pos ⟨h1, List.cons_ne_nil _ _⟩
        rw [← e]
        exact q H (Same.refl H)
    · refine ⟨.int i, rfl, rfl, _, rfl, ?_⟩
      rw [decide_eq_false (fun z => h1 (V.int.inj z))]
      refine iteF ?_
      refine ⟨rfl, .int i, rfl, i, rfl, lg, .ref b, rfl, b, _, rfl, .inl hb, sz_le (by simp <;> omega), fun l nl => ?_⟩
      generalize hH1 : upd H l _ = H1
      obtain ⟨s1, e1⟩ := alloc_eq nl hH1
      have e2 : H1 l = some (.lst ((strI i :: ns).map V.str)) := by
        rw [e1, List.append_nil]
        rfl
      refine sep (.inl (.of e2)) (by simp only [List.map_cons, List.sum_cons, List.length_cons]; omega) ?_
      have e : termT i ns = Txt.join " * " (strI i :: ns) := if_neg fun z => h1 z.1
      rw [← e]
      exact q H1 s1
theorem moreW_len : ∀ ts : List Term, (moreW ts).length = 2 * ts.length
  | [] => rfl
  | t :: r => by
    show (moreW r).length + 1 + 1 = _
    rw [moreW_len r, List.length_cons]
    omega
theorem sumW_len (ts : List Term) : (sumW ts).length ≤ 2 * ts.length := by
  cases ts with
  | nil => exact Nat.le_refl _
  | cons t r =>
    show (moreW r).length + 1 ≤ _
    rw [moreW_len, List.length_cons]
    omega
abbrev s_sum_words : Stmt := topS 25
theorem sc_sum_words : FnScope ["terms", "words", "at", "factor", "names"] ["terms"] (defScope s_sum_words) := ⟨rfl, rfl, rfl, by decide +kernel, rfl, by decide +kernel, by decide +kernel⟩
def spSumWords (K : PySem.W.Frag) : Sp := fun vs H Q _ => ∃ (a : Addr) (us : List V) (ts : List Term), vs = [.ref a] ∧ SqT K H a us ∧ TermsV K H us ts ∧ ts.length ≤ 4 ∧ (∀ t ∈ ts, TermFine t) ∧ ∀ (l : Addr) (H' : Hp), H l = none → Same H H' → H' l = some (.lst ((sumW ts).map V.str)) → Q (.ref l) H'
theorem ok_sum_words {f : Addr} {fd : FuncData} (T : Txt mg) (F : FnP K "sum_words" s_sum_words f fd) (c_term_text : Cal P w K mg base CX0 1 "term_text" ["factor", "names"] (spTermText K)) : FnOk P w K mg base CX0 2 f fd ["terms"] (spSumWords K) := by
  have sc := sc_sum_words
  refine F.ok sc (fun vs H Q E h => ?_) (fun cdv A outer s H vs Q E hr h => ?_)
  · obtain ⟨a, us, ts, rfl, _⟩ := h
    rfl
  · obtain ⟨a, us, ts, rfl, ha, hts, l4, hf, q⟩ := h
    refine ⟨_, PSs.nox (pss_cons (ps_set (i := 1) sc.nd rfl (.inl rfl) (pe_lst pa_nil))
(pss_cons (ps_for PassesOwn.never rfl (pi_enumT (by rfl) T.n_enumerate (pa_cons (pv 0) pa_nil)) (pg_tup rfl (pgs_cons (pg_name (i := 2) sc.nd rfl (.inl rfl)) (pgs_cons (pg_tup rfl (pgs_cons (pg_name (i := 3) sc.nd rfl (.inl rfl)) (pgs_cons (pg_name (i := 4) sc.nd rfl (.inl rfl)) pgs_nil))) pgs_nil)))
  (pss_one (ps_if (pt_cmpR op_eq (pv 2) pe_int (nomark _))
    (pss_one (ps_expr (pe_bm PySem.F.plainAttrs_list PySem.F.slot_list_append PySem.F.type_list_append mt_append (pv 1) (pa_cons (pe_cal c_term_text hr (by rfl) pass0 (pa_cons (pv 3) (pa_cons (pv 4) pa_nil))) pa_nil))))
    (pss_cons (ps_expr (pe_bm PySem.F.plainAttrs_list PySem.F.slot_list_append PySem.F.type_list_append mt_append (pv 1) (pa_cons (pe_ifExp (pt_cmpR op_lt (pv 3) pe_int (nomark _)) pe_str pe_str) pa_nil)))
    (pss_one (ps_expr (pe_bm PySem.F.plainAttrs_list PySem.F.slot_list_append PySem.F.type_list_append mt_append (pv 1) (pa_cons (pe_cal c_term_text hr (by rfl) pass0 (pa_cons (pe_callB call_abs (by rfl) T.n_abs (by decide +kernel) (pa_cons (pv 3) pa_nil)) (pa_cons (pv 4) pa_nil))) pa_nil))))))))
(pss_one (ps_ret (pv 1))))), ?_⟩
    refine ⟨szn 0, fun wl nwl => ?_⟩
    generalize hH0 : upd H wl _ = H0
    obtain ⟨s0, e0⟩ := alloc_eq nwl hH0
    refine ⟨.ref a, rfl, a, us, rfl, sqt_same s0 ha, for_it walk_enumT (fun i σ H' => Same H H' ∧ H' wl = some (.lst ((sumW (ts.take i)).map V.str)) ∧ ∃ b c d : Option V, σ = [some (.ref a), some (.ref wl), b, c, d]) ⟨s0, e0, none, none, none, rfl⟩ (fun i σ H' _ h => sqt_same h.1 ha) ?_ ?_⟩
    · rintro i v σ H' H2 hi ⟨sm, hwl, b, c, d, rfl⟩ ⟨tt, v1, v2, rfl, ntt, rfl, hv1, hv2⟩
      cases Option.some.inj hv1
      obtain ⟨t, ht, ta, tb, rfl, g1, g2⟩ := paired_get hts hv2
      have hm : t ∈ ts := List.mem_of_getElem? ht
      have s2' : Same H' (upd H' tt (.tup [.int (i : Nat), .ref ta])) := same_new ntt
      have s2 := sm.trans s2'
      refine ⟨tt, _, rfl, .of upd_same, rfl, .int (i : Nat), [.ref ta], rfl, .ref ta, [], rfl, ?_⟩
      generalize hH3 : upd H' tt _ = H3 at s2 s2' ⊢
      have hwl3 := s2' _ _ hwl
      obtain ⟨f0, f1, fl, fn⟩ := hf t hm
      have hil : i < ts.length := (List.getElem?_eq_some_iff.mp ht).1
      have lw : ∀ k, (sumW (ts.take k)).length ≤ 20 := fun k => by
        refine Nat.le_trans (sumW_len _) ?_
        rw [List.length_take]
        omega
      have put : ∀ {H5 H6 : Hp} {xs : List V}, Same H H5 → upd H5 wl (.lst xs) = H6 → Same H H6 ∧ H6 wl = some (.lst xs) := fun sm e => by
        rw [← e]
        refine ⟨fun b o q => ?_, upd_same⟩
        rw [upd_ne (ne_of_none q nwl)]
        exact sm b o q
      refine ⟨ta, _, rfl, sqt_same s2 g1, rfl, .int t.1, [.ref tb], rfl, .ref tb, [], rfl, rfl, rfl, ?_⟩
      refine ⟨.int (i : Nat), rfl, rfl, _, rfl, iteD (fun e => ?_) (fun e => ?_)⟩
      · have e1 : i = 0 := by
          have := V.int.inj e
          omega
        subst e1
        refine ⟨.ref wl, rfl, .inl ⟨rfl, _, .inl (.inl hwl3)⟩, .int t.1, rfl, .ref tb, rfl, t.1, tb, t.2, rfl, sqt_same s2 g2, by omega, fl, fn, fun H4 s4 => ?_⟩
        refine ⟨wl, _, _, rfl, rfl, s4 _ _ hwl3, by rw [List.length_map]; exact sz_lt (Nat.lt_of_le_of_lt (lw _) (by decide)), ?_⟩
        generalize hH5 : upd H4 wl _ = H5
        obtain ⟨s5, e5⟩ := put (s2.trans s4) hH5
        refine ⟨s5, ?_, _, _, _, rfl⟩
        rw [e5, take_next ht]
        rfl
      · have ne : ts.take i ≠ [] := fun z => by
          have this : min i ts.length = 0 := by
            rw [← List.length_take, z]
            rfl
          have e2 : i ≠ 0 := fun z => e (by rw [z]; rfl)
          omega
        refine ⟨.ref wl, rfl, .inl ⟨rfl, _, .inl (.inl hwl3)⟩, .int t.1, rfl, t.1, 0, rfl, rfl, _, rfl, ?_⟩
        refine iteD (fun hs => ?_) (fun hs => ?_)
        · refine ⟨wl, _, _, rfl, rfl, hwl3, by rw [List.length_map]; exact sz_lt (Nat.lt_of_le_of_lt (lw _) (by decide)), ?_⟩
          generalize hH5 : upd H3 wl _ = H5
          obtain ⟨s5, e5⟩ := put s2 hH5
          refine ⟨.ref wl, rfl, .inl ⟨rfl, _, .inl (.inl e5)⟩, .int t.1, rfl, t.1, rfl, ?_⟩
          rw [if_pos hs]
          refine ⟨.ref tb, rfl, _, tb, t.2, rfl, sqt_same s5 g2, by omega, fl, fn, fun H6 s6 => ?_⟩
          refine ⟨wl, _, _, rfl, rfl, s6 _ _ e5, by rw [List.length_append, List.length_map]; exact sz_lt (Nat.lt_of_le_of_lt (Nat.add_le_add_right (lw i) 1) (by decide)), ?_⟩
          generalize hH7 : upd H6 wl _ = H7
          obtain ⟨s7, e7⟩ := put (s5.trans s6) hH7
          refine ⟨s7, ?_, _, _, _, rfl⟩
          have w : moreW [t] = [("-" : Str), termT (-t.1) t.2] := by
            show [(if t.1 < 0 then "-" else "+" : Str), termT (if t.1 < 0 then -t.1 else t.1) t.2] = _
            rw [if_pos hs, if_pos hs]
          rw [e7, take_next ht, sumW_append ne, w, List.map_append, List.append_assoc]
          rfl
        · refine ⟨wl, _, _, rfl, rfl, hwl3, by rw [List.length_map]; exact sz_lt (Nat.lt_of_le_of_lt (lw _) (by decide)), ?_⟩
          generalize hH5 : upd H3 wl _ = H5
          obtain ⟨s5, e5⟩ := put s2 hH5
          refine ⟨.ref wl, rfl, .inl ⟨rfl, _, .inl (.inl e5)⟩, .int t.1, rfl, t.1, rfl, ?_⟩
          rw [if_neg hs]
          refine ⟨.ref tb, rfl, _, tb, t.2, rfl, sqt_same s5 g2, by omega, fl, fn, fun H6 s6 => ?_⟩
          refine ⟨wl, _, _, rfl, rfl, s6 _ _ e5, by rw [List.length_append, List.length_map]; exact sz_lt (Nat.lt_of_le_of_lt (Nat.add_le_add_right (lw i) 1) (by decide)), ?_⟩
          generalize hH7 : upd H6 wl _ = H7
          obtain ⟨s7, e7⟩ := put (s5.trans s6) hH7
          refine ⟨s7, ?_, _, _, _, rfl⟩
          have w : moreW [t] = [("+" : Str), termT (t.1) t.2] := by
            show [(if t.1 < 0 then "-" else "+" : Str), termT (if t.1 < 0 then -t.1 else t.1) t.2] = _
            rw [if_neg hs, if_neg hs]
          rw [e7, take_next ht, sumW_append ne, w, List.map_append, List.append_assoc]
          rfl
    · rintro σ H' ⟨sm, hwl, b, c, d, rfl⟩
      have hl : us.length = ts.length := hts.length
      rw [hl, List.take_length] at hwl
      exact ⟨_, rfl, q wl H' nwl sm hwl⟩
end
end LC
namespace LC
open PySem PySem.Spec PyProof.Rows L2
section
variable {P : Program} {w : World} {K : PySem.W.Frag} {mg : Str → Option Value} {base : Heap}
def shownI (i : Nat) (f : Int) : Int := if i = 0 then f else if f < 0 then -f else f
def preW (ts : List Term) (i : Nat) (t : Term) : List Str := if i = 0 then [] else sumW (ts.take i) ++ [(if t.1 < 0 then "-" else "+" : Str)]
def partW (s : Int) (ns : List Str) : List Str := if s = 1 ∧ ns ≠ [] then ns else strI s :: ns
theorem partW_join (s : Int) (ns : List Str) : termT s ns = Txt.join " * " (partW s ns) := by
  unfold termT partW
  split <;> rfl
theorem partW_sum {s : Int} {ns : List Str} (h : s.natAbs ≤ 999999) (hl : ns.length ≤ 3) (hn : ∀ x ∈ ns, nameB x = true) : ((partW s ns).map (·.length)).sum + (partW s ns).length * (" * " : Str).length ≤ 16777216 := by
  have a := names_sum hn
  have b := int_short h
  have c : (" * " : Str).length = 3 := rfl
  rw [c]
  unfold partW
  split
  · omega
  · simp only [List.map_cons, List.sum_cons, List.length_cons]
    omega
theorem termT_len {f : Int} {ns : List Str} (h : f.natAbs ≤ 999999) (hl : ns.length ≤ 3) (hn : ∀ x ∈ ns, nameB x = true) : (termT f ns).length ≤ 1000 := by
  rw [partW_join]
  have a := names_sum hn
  have b := int_short h
  have c : (" * " : Str).length = 3 := rfl
  have d := StrLaws.join_length_le " * " (partW f ns)
  rw [← StrLaws.glued_eq_join] at d
  refine Nat.le_trans d ?_
  rw [c]
  unfold partW
  split
  · omega
  · simp only [List.map_cons, List.sum_cons, List.length_cons]
    omega
theorem moreW_sum : ∀ {ts : List Term}, (∀ t ∈ ts, TermFine t) → ((moreW ts).map (·.length)).sum ≤ 1001 * ts.length
  | [], _ => Nat.zero_le _
  | t :: r, h => by
    obtain ⟨f0, f1, fl, fn⟩ := h t (List.mem_cons_self ..)
    have a := moreW_sum (ts := r) fun u hu => h u (List.mem_cons_of_mem _ hu)
    have b : (termT (if t.1 < 0 then -t.1 else t.1) t.2).length ≤ 1000 := termT_len (by split <;> omega) fl fn
    have c : (if t.1 < 0 then "-" else "+" : Str).length = 1 := by split <;> rfl
    show ((_ :: _ :: moreW r).map (·.length)).sum ≤ _
    simp only [List.map_cons, List.sum_cons, List.length_cons]
    omega
theorem sumW_sum {ts : List Term} (l4 : ts.length ≤ 4) (h : ∀ t ∈ ts, TermFine t) : ((sumW ts).map (·.length)).sum + (sumW ts).length * (" " : Str).length ≤ 16777216 := by
  have a := sumW_len ts
  have c : (" " : Str).length = 1 := rfl
  rw [c]
  have b : ((sumW ts).map (·.length)).sum ≤ 1001 * ts.length := by
    cases ts with
    | nil => exact Nat.zero_le _
    | cons t r =>
      obtain ⟨f0, f1, fl, fn⟩ := h t (List.mem_cons_self ..)
      have a := moreW_sum (ts := r) fun u hu => h u (List.mem_cons_of_mem _ hu)
      have b : (termT t.1 t.2).length ≤ 1000 := termT_len (by omega) fl fn
      show ((_ :: moreW r).map (·.length)).sum ≤ _
      simp only [List.map_cons, List.sum_cons, List.length_cons]
      omega
  omega
theorem preW_len {ts : List Term} {i : Nat} {t : Term} (h : i ≤ 10) : (preW ts i t).length ≤ 30 := by
  unfold preW
  split
  · exact Nat.zero_le _
  · rw [List.length_append]
    have a := sumW_len (ts.take i)
    rw [List.length_take] at a
    show _ + 1 ≤ 30
    omega
theorem preW_next {ts : List Term} {i : Nat} {t : Term} (ht : ts[i]? = some t) : preW ts i t ++ [termT (shownI i t.1) t.2] = sumW (ts.take i ++ [t]) := by
  unfold preW shownI
  by_cases e : i = 0
  · subst e
    rfl
  · rw [if_neg e, if_neg e]
    have ne : ts.take i ≠ [] := fun z => by
      have this : min i ts.length = 0 := by
        rw [← List.length_take, z]
        rfl
      have := (List.getElem?_eq_some_iff.mp ht).1
      omega
    rw [sumW_append ne, List.append_assoc]
    rfl
abbrev s_text : Stmt := topS 44
theorem sc_text : FnScope ["terms", "words", "at", "term", "factor", "parts", "shown"] ["terms"] (defScope s_text) := ⟨rfl, rfl, rfl, by decide +kernel, rfl, by decide +kernel, by decide +kernel⟩
def spLawText (K : PySem.W.Frag) : Sp := fun vs H Q _ => ∃ (a : Addr) (us : List V) (ts : List Term), vs = [.ref a] ∧ SqL K H a us ∧ TermsV K H us ts ∧ ts.length ≤ 4 ∧ (∀ t ∈ ts, TermFine t) ∧ ∀ H', Same H H' → Q (.str (sumText ts)) H'
theorem ok_law_text {f : Addr} {fd : FuncData} (T : Txt mg) (F : FnP K "_law_text" s_text f fd) : FnOk P w K mg base CX0 1 f fd ["terms"] (spLawText K) := by
  have sc := sc_text
  refine F.ok sc (fun vs H Q E h => ?_) (fun cdv A outer s H vs Q E hr h => ?_)
  · obtain ⟨a, us, ts, rfl, _⟩ := h
    rfl
  · obtain ⟨a, us, ts, rfl, ha, hts, l4, hf, q⟩ := h
    refine ⟨_, PSs.nox (pss_cons (ps_set (i := 1) sc.nd rfl (.inl rfl) (pe_lst pa_nil))
(pss_cons (ps_for PassesOwn.never rfl (pi_enum (by rfl) T.n_enumerate (pa_cons (pv 0) pa_nil)) (pg_tup rfl (pgs_cons (pg_name (i := 2) sc.nd rfl (.inl rfl)) (pgs_cons (pg_name (i := 3) sc.nd rfl (.inl rfl)) pgs_nil)))
  (pss_cons (ps_par (i := 4) (j := 5) (by rfl) sc.nd rfl rfl (by decide) rfl rfl (pa_cons (pe_ix ix_tup (pv 3) pe_int (fun _ _ => rfl)) (pa_cons (pe_callTy call_list_of (by rfl) T.n_list (by decide +kernel) (pa_cons (pe_ix ix_tup (pv 3) pe_int (fun _ _ => rfl)) pa_nil)) pa_nil)) (by rfl))
  (Evl.pss_cut (ps_set (i := 6) sc.nd rfl (.inl rfl) (pe_ifExp (pt_cmpR op_eq (pv 2) pe_int (nomark _)) (pv 4) (pe_callB call_abs (by rfl) T.n_abs (by decide +kernel) (pa_cons (pv 4) pa_nil))))
  (Evl.pss_cut (ps_if (pt_cmpR op_gt (pv 2) pe_int (nomark _))
    (pss_one (ps_expr (pe_bm PySem.F.plainAttrs_list PySem.F.slot_list_append PySem.F.type_list_append mt_append (pv 1) (pa_cons (pe_ifExp (pt_cmpR op_lt (pv 4) pe_int (nomark _)) pe_str pe_str) pa_nil))))
    pss_nil)
  (Evl.pss_cut (ps_if (PW.pt (pw_or (pt_cmpR op_ne (pv 6) pe_int (nomark _)) (pw_or1 (pt_cmpR (op_eqD hr.units) (pv 5) (pe_lst pa_nil) (nomark _)))))
    (pss_one (ps_set (i := 5) sc.nd rfl (.inl rfl) (pe_op op_cat (pe_lst (pa_cons (pe_callTy call_str_int (by rfl) T.n_str (by decide +kernel) (pa_cons (pv 6) pa_nil)) pa_nil)) (pv 5))))
    pss_nil)
  (pss_one (ps_expr (pe_bm PySem.F.plainAttrs_list PySem.F.slot_list_append PySem.F.type_list_append mt_append (pv 1) (pa_cons (pe_bm PySem.F.plainAttrs_str PySem.F.slot_str_join PySem.F.type_str_join mt_join pe_str (pa_cons (pv 5) pa_nil)) pa_nil)))))))))
(pss_one (ps_ret (pe_bm PySem.F.plainAttrs_str PySem.F.slot_str_join PySem.F.type_str_join mt_join pe_str (pa_cons (pv 1) pa_nil)))))), ?_⟩
    refine ⟨szn 0, fun wl nwl => ?_⟩
    generalize hH0 : upd H wl _ = H0
    obtain ⟨s0, e0⟩ := alloc_eq nwl hH0
    refine ⟨.ref a, rfl, a, us, rfl, sql_same s0 ha, for_it walk_enum (fun i σ H' => Same H H' ∧ H' wl = some (.lst ((sumW (ts.take i)).map V.str)) ∧ ∃ b c d e g : Option V, σ = [some (.ref a), some (.ref wl), b, c, d, e, g]) ⟨s0, e0, none, none, none, none, none, rfl⟩ (fun i σ H' _ h => sql_same h.1 ha) ?_ ?_⟩
    · rintro i v σ H' H2 hi ⟨sm, hwl, b, c, d, e, g, rfl⟩ ⟨tt, v1, v2, rfl, ntt, rfl, hv1, hv2⟩
      cases Option.some.inj hv1
      obtain ⟨t, ht, ta, tb, rfl, g1, g2⟩ := paired_get hts hv2
      have hm : t ∈ ts := List.mem_of_getElem? ht
      have s2' : Same H' (upd H' tt (.tup [.int (i : Nat), .ref ta])) := same_new ntt
      have s2 := sm.trans s2'
      refine ⟨tt, _, rfl, .of upd_same, rfl, .int (i : Nat), [.ref ta], rfl, .ref ta, [], rfl, rfl, ?_⟩
      generalize hH3 : upd H' tt _ = H3 at s2 s2' ⊢
      have hwl3 := s2' _ _ hwl
      obtain ⟨f0, f1, fl, fn⟩ := hf t hm
      have hil : i < ts.length := (List.getElem?_eq_some_iff.mp ht).1
      have put : ∀ {H5 H6 : Hp} {xs : List V}, Same H H5 → upd H5 wl (.lst xs) = H6 → Same H H6 ∧ H6 wl = some (.lst xs) := fun sm e => by
        rw [← e]
        refine ⟨fun b o q => ?_, upd_same⟩
        rw [upd_ne (ne_of_none q nwl)]
        exact sm b o q
      -- factor, parts
      refine ⟨.ref ta, rfl, ta, _, 0, .int t.1, rfl, rfl, sqt_same s2 g1, rfl, .ref ta, rfl, ta, _, 1, .ref tb, rfl, rfl, sqt_same s2 g1, rfl, tb, _, rfl, .inr (sqt_same s2 g2), fun pl npl => ?_⟩
      generalize hH4 : upd H3 pl _ = H4
      obtain ⟨s4, e4⟩ := alloc_eq npl hH4
      refine ⟨_, _, rfl, ?_⟩
      have s24 := s2.trans s4
      have hwl4 := s4 _ _ hwl3
      -- shown
      refine ⟨fun σ' H5 => H5 = H4 ∧ σ' = [some (.ref a), some (.ref wl), some (.int (i : Nat)), some (.ref ta), some (.int t.1), some (.ref pl), some (.int (shownI i t.1))], ?_, ?_⟩
      · refine ⟨.int (i : Nat), rfl, rfl, _, rfl, iteD (fun e => ?_) (fun e => ?_)⟩
        · have e1 : i = 0 := by
            have := V.int.inj e
            omega
          refine ⟨.int t.1, rfl, rfl, ?_⟩
          have e2 : shownI i t.1 = t.1 := if_pos e1
          rw [e2]
          rfl
        · have e1 : i ≠ 0 := fun z => e (by rw [z]; rfl)
          refine ⟨.int t.1, rfl, t.1, rfl, rfl, ?_⟩
          have e2 : shownI i t.1 = (if t.1 < 0 then -t.1 else t.1) := if_neg e1
          rw [e2]
          rfl
      rintro σ' H5 ⟨rfl, rfl⟩
      have hpl : pl ≠ wl := new_ne (s4 _ _ hwl3 |> fun _ => hwl3) npl
      have lw : (sumW (ts.take i)).length ≤ 8 := by
        refine Nat.le_trans (sumW_len _) ?_
        rw [List.length_take]
        omega
      -- the sign
      refine ⟨fun σ' H6 => Same H H6 ∧ H6 pl = some (.lst (t.2.map V.str)) ∧ H6 wl = some (.lst ((preW ts i t).map V.str)) ∧ σ' = [some (.ref a), some (.ref wl), some (.int (i : Nat)), some (.ref ta), some (.int t.1), some (.ref pl), some (.int (shownI i t.1))], ?_, ?_⟩
      · refine ⟨.int (i : Nat), rfl, (i : Nat), 0, rfl, rfl, _, rfl, iteD (fun e => ?_) (fun e => ?_)⟩
        · have e1 : i ≠ 0 := by omega
          have fin : ∀ (sg : Str), (if t.1 < 0 then "-" else "+" : Str) = sg → ∀ H6, upd H5 wl (.lst ((sumW (ts.take i)).map V.str ++ [.str sg])) = H6 → Same H H6 ∧ H6 pl = some (.lst (t.2.map V.str)) ∧ H6 wl = some (.lst ((preW ts i t).map V.str)) := fun sg es H6 e6 => by
            obtain ⟨p1, p2⟩ := put s24 e6
            refine ⟨p1, ?_, ?_⟩
            · rw [← e6, upd_ne hpl]
              exact e4
            · unfold preW
              rw [p2, if_neg e1, es, List.map_append]
              rfl
          refine ⟨.ref wl, rfl, .inl ⟨rfl, _, .inl (.inl hwl4)⟩, .int t.1, rfl, t.1, 0, rfl, rfl, _, rfl, iteD (fun hs => ?_) (fun hs => ?_)⟩
          · refine ⟨wl, _, _, rfl, rfl, hwl4, by rw [List.length_map]; exact sz_lt (Nat.lt_of_le_of_lt lw (by decide)), ?_⟩
            obtain ⟨p1, p2, p3⟩ := fin "-" (if_pos hs) _ rfl
            exact ⟨p1, p2, p3, rfl⟩
          · refine ⟨wl, _, _, rfl, rfl, hwl4, by rw [List.length_map]; exact sz_lt (Nat.lt_of_le_of_lt lw (by decide)), ?_⟩
            obtain ⟨p1, p2, p3⟩ := fin "+" (if_neg hs) _ rfl
            exact ⟨p1, p2, p3, rfl⟩
        · have e1 : i = 0 := by omega
          have e2 : preW ts i t = sumW (ts.take i) := by
            unfold preW
            rw [if_pos e1, e1]
            rfl
          rw [e2]
          exact ⟨s24, e4, hwl4, rfl⟩
      rintro σ' H6 ⟨s6, epl, hwl6, rfl⟩
      -- the factor ahead of the names
      have sb : (shownI i t.1).natAbs ≤ 999999 := by
        unfold shownI
        split
        · omega
        · split <;> omega
      refine ⟨fun σ' H7 => Same H H7 ∧ H7 wl = some (.lst ((preW ts i t).map V.str)) ∧ ∃ p2 : Addr, H7 p2 = some (.lst ((partW (shownI i t.1) t.2).map V.str)) ∧ σ' = [some (.ref a), some (.ref wl), some (.int (i : Nat)), some (.ref ta), some (.int t.1), some (.ref p2), some (.int (shownI i t.1))], ?_, ?_⟩
      · have lg : (shownI i t.1).natAbs.log2 < 1920 := by
          by_cases e : (shownI i t.1).natAbs = 0
          · rw [e]
            decide
          · exact (Nat.log2_lt e).mpr (Nat.lt_of_le_of_lt sb (Nat.lt_of_lt_of_le (by decide : 999999 < 2 ^ 20) (Nat.pow_le_pow_right (by decide) (by decide))))
        refine ⟨.int (shownI i t.1), rfl, rfl, _, rfl, iteND (fun h1 => ?_) (fun h1 => ?_)⟩
        · refine iteT ?_
          refine ⟨.int (shownI i t.1), rfl, shownI i t.1, rfl, lg, szn 1, fun l1 n1 => ?_⟩
          generalize hHa : upd H6 l1 _ = Ha
          obtain ⟨sa, ea⟩ := alloc_eq n1 hHa
          refine ⟨.ref pl, rfl, l1, pl, _, _, rfl, rfl, ea, sa _ _ epl, sz_le (by simp <;> omega), fun p np => ?_⟩
          generalize hHb : upd Ha p _ = Hb
          obtain ⟨sb2, eb⟩ := alloc_eq np hHb
          have ep : partW (shownI i t.1) t.2 = strI (shownI i t.1) :: t.2 := if_neg fun z => h1 (by rw [z.1])
          refine ⟨(s6.trans sa).trans sb2, sb2 _ _ (sa _ _ hwl6), p, ?_, rfl⟩
          rw [eb, ep]
          rfl
        · have e1 : shownI i t.1 = 1 := V.int.inj h1
          refine ⟨.ref pl, rfl, szn 0, fun le nle => ?_⟩
          generalize hHe : upd H6 le _ = He
          obtain ⟨se, ee⟩ := alloc_eq nle hHe
          refine ⟨.list (t.2.map PyData.str), .list [], .lst (.of (se _ _ epl)) (dpAll_strs t.2), .lst (.of ee) .nil, shaped_names t.2 fn, rfl, _, rfl, ?_⟩
          by_cases hns : t.2 = []
          · have ev : (PyData.list (t.2.map PyData.str)).eqv (.list []) = true := by
              rw [hns]
              rfl
            rw [ev]
            refine iteT ?_
            refine ⟨.int (shownI i t.1), rfl, shownI i t.1, rfl, lg, szn 1, fun l1 n1 => ?_⟩
            generalize hHa : upd He l1 _ = Ha
            obtain ⟨sa, ea⟩ := alloc_eq n1 hHa
            refine ⟨.ref pl, rfl, l1, pl, _, _, rfl, rfl, ea, sa _ _ (se _ _ epl), sz_le (by simp <;> omega), fun p np => ?_⟩
            generalize hHb : upd Ha p _ = Hb
            obtain ⟨sb2, eb⟩ := alloc_eq np hHb
            have ep : partW (shownI i t.1) t.2 = strI (shownI i t.1) :: t.2 := if_neg fun z => z.2 hns
            refine ⟨((s6.trans se).trans sa).trans sb2, sb2 _ _ (sa _ _ (se _ _ hwl6)), p, ?_, rfl⟩
            rw [eb, ep]
            rfl
          · have ev : (PyData.list (t.2.map PyData.str)).eqv (.list []) = false := by
              cases h : t.2 with
              | nil => exact absurd h hns
              | cons a r => rfl
            rw [ev]
            refine iteF ?_
            have ep : partW (shownI i t.1) t.2 = t.2 := if_pos ⟨e1, hns⟩
            refine ⟨s6.trans se, se _ _ hwl6, pl, ?_, rfl⟩
            rw [ep]
            exact se _ _ epl
      rintro σ' H7 ⟨s7, hwl7, p2, e7, rfl⟩
      have jl := names_sum fn
      have il := int_short sb
      refine ⟨.ref wl, rfl, .inl ⟨rfl, _, .inl (.inl hwl7)⟩, rfl, .ref p2, rfl, _, _, _, rfl, rfl, .inl (.of e7), partW_sum sb fl fn, ?_⟩
      refine ⟨wl, _, _, rfl, rfl, hwl7, by rw [List.length_map]; exact sz_lt (Nat.lt_of_le_of_lt (preW_len (by omega)) (by decide)), ?_⟩
      generalize hH8 : upd H7 wl _ = H8
      obtain ⟨s8, e8⟩ := put s7 hH8
      refine ⟨s8, ?_, _, _, _, _, _, rfl⟩
      rw [e8, take_next ht, ← preW_next ht, List.map_append, ← partW_join]
      rfl
    · rintro σ H' ⟨sm, hwl, b, c, d, e, g, rfl⟩
      have hl : us.length = ts.length := hts.length
      rw [hl, List.take_length] at hwl
      exact ⟨rfl, .ref wl, rfl, _, _, _, rfl, rfl, .inl (.of hwl), sumW_sum l4 hf, q H' sm⟩
end
end LC
/-! LcEq: terms as data; sums that are equal. -/
namespace LC
open PySem PySem.Spec PyProof.Rows L2
def termD (t : Term) : PyData := .tuple [.int t.1, .tuple (t.2.map PyData.str)]
def termsD (ts : List Term) : PyData := .tuple (ts.map termD)
theorem dp_term {K : PySem.W.Frag} {H : Hp} {v : V} {t : Term} (h : TermV K H v t) : Dp K H v (termD t) := by
  obtain ⟨a, b, rfl, h1, h2⟩ := h
  exact .tup h1 (.cons (.int _) (.cons (.tup h2 (dpAll_strs t.2)) .nil))
theorem dp_terms {K : PySem.W.Frag} {H : Hp} : ∀ {vs : List V} {ts : List Term}, TermsV K H vs ts → DpAll K H vs (ts.map termD)
  | _, _, .nil => .nil
  | _, _, .cons a r => .cons (dp_term a) (dp_terms r)
theorem names_lay : ∀ {ns : List Str}, (∀ z ∈ ns, nameB z = true) → PyData.canLayAll0 (ns.map PyData.str) = true
  | [], _ => rfl
  | z :: r, h => by
    simp [PyData.canLayAll0, PyData.canLay0, names_lay fun q hq => h q (List.mem_cons_of_mem _ hq), name_ok (h z (List.mem_cons_self ..))]
theorem names_depth : ∀ ns : List Str, PyData.depthAll (ns.map PyData.str) = 0
  | [] => rfl
  | z :: r => by simp [PyData.depthAll, PyData.depth, names_depth r]
theorem terms_lay : ∀ {ts : List Term}, (∀ t ∈ ts, TermFine t) → PyData.canLayAll0 (ts.map termD) = true
  | [], _ => rfl
  | t :: r, h => by
    have a := names_lay (h t (List.mem_cons_self ..)).2.2.2
    simp [PyData.canLayAll0, PyData.canLay0, termD, terms_lay fun q hq => h q (List.mem_cons_of_mem _ hq), a]
theorem terms_depth : ∀ ts : List Term, PyData.depthAll (ts.map termD) ≤ 2
  | [] => Nat.zero_le _
  | t :: r => by
    have a := terms_depth r
    have e : PyData.depth (termD t) = 2 := by
      show PyData.depthAll [.int t.1, .tuple (t.2.map PyData.str)] + 1 = 2
      simp [PyData.depthAll, PyData.depth, names_depth]
    show max (PyData.depth (termD t)) (PyData.depthAll (r.map termD)) ≤ 2
    rw [e]
    omega
theorem shaped_terms {ts : List Term} (h : ∀ t ∈ ts, TermFine t) : SeqAt.shaped (termsD ts) = true := by
  have a : PyData.canLay0 (termsD ts) = true := terms_lay h
  have b : PyData.depth (termsD ts) ≤ 64 := by
    show PyData.depthAll (ts.map termD) + 1 ≤ 64
    have := terms_depth ts
    omega
  unfold SeqAt.shaped
  rw [a, decide_eq_true b]
  rfl
theorem strs_eqv : ∀ ns ms : List Str, PyData.eqvAll (ns.map PyData.str) (ms.map PyData.str) = decide (ns = ms)
  | [], [] => rfl
  | [], _ :: _ => rfl
  | _ :: _, [] => rfl
  | n :: ns, m :: ms => by
    show ((n == m) && PyData.eqvAll (ns.map PyData.str) (ms.map PyData.str)) = _
    rw [strs_eqv ns ms]
    by_cases e : n = m
    · subst e
      by_cases e2 : ns = ms
      · subst e2
        simp
      · simp [e2]
    · have : (n == m) = false := beq_eq_false_iff_ne.mpr e
      rw [this]
      simp [e]
theorem terms_eqv : ∀ ts us : List Term, PyData.eqvAll (ts.map termD) (us.map termD) = decide (ts = us)
  | [], [] => rfl
  | [], _ :: _ => rfl
  | _ :: _, [] => rfl
  | t :: ts, u :: us => by
    have e1 : PyData.eqv (termD t) (termD u) = decide (t = u) := by
      show ((t.1 == u.1) && (PyData.eqvAll (t.2.map PyData.str) (u.2.map PyData.str) && true)) = _
      rw [strs_eqv, Bool.and_true]
      obtain ⟨i, ns⟩ := t
      obtain ⟨j, ms⟩ := u
      by_cases a : i = j
      · by_cases b : ns = ms
        · subst a b
          simp
        · simp [b]
      · simp [a]
    show (PyData.eqv (termD t) (termD u) && PyData.eqvAll (ts.map termD) (us.map termD)) = _
    rw [e1, terms_eqv ts us]
    by_cases a : t = u
    · by_cases b : ts = us
      · subst a b
        simp
      · simp [b]
    · simp [a]
theorem termsD_eqv (ts us : List Term) : PyData.eqv (termsD ts) (termsD us) = decide (ts = us) := terms_eqv ts us
end LC
namespace LC
open PySem PySem.Spec PyProof.Rows L2
/-- what isinstance asks of Sum -/
structure SumIs (K : PySem.W.Frag) (C : Addr) : Prop where
  ha : PySem.W.findIn K (.ref C) "__class__" = some (some (.builtin "object.__class__"))
  hn : PySem.W.specialIn K (.builtin "object.__class__") "__get__" = some (some (.builtin "getset_descriptor.__get__"))
  ht : PySem.W.takesIn K (.builtin "object.__class__") = some true
  hm : PySem.W.mroIn K C (.type "object") = some true
  self : PySem.W.kitOne K (.ref C) (.ref C) = some true
  other : ∀ n ∈ kinds, PySem.W.kitOne K (.type n) (.ref C) = some false
theorem sum_ty {K : PySem.W.Frag} {mg : Str → Option Value} {C x : Addr} {H : Hp} {ts : List Term} (S : SumTxt K mg C) (I : SumIs K C) (h : SumAt K C H x ts) : TyX K H (.ref x) (.ref C) := by
  obtain ⟨dx, T0, N, us, h1, _⟩ := h
  exact .base (.ins h1 S.cl I.ha I.hn I.ht I.hm)
section
variable {P : Program} {w : World} {K : PySem.W.Frag} {mg : Str → Option Value} {base : Heap}
abbrev s_Sum_str : Stmt := inClass (topS 34) 7
theorem sc_Sum_str : FnScope ["self"] ["self"] (defScope s_Sum_str) := ⟨rfl, rfl, rfl, by decide +kernel, rfl, by decide +kernel, by decide +kernel⟩
def spStr (K : PySem.W.Frag) (C : Addr) : Sp := fun vs H Q _ => ∃ (x : Addr) (ts : List Term), vs = [.ref x] ∧ SumAt K C H x ts ∧ Fine ts ∧ ∀ H', Same H H' → Q (.str (sumText ts)) H'
theorem ok_str {f C : Addr} {fd : FuncData} (T : Txt mg) (S : SumTxt K mg C) (F : FunD K "__str__" "Sum.__str__" (defArgs s_Sum_str) (defBody s_Sum_str) (defScope s_Sum_str) [] [] f fd) (c_sum_words : Cal P w K mg base CX0 2 "sum_words" ["terms"] (spSumWords K)) : FnOk P w K mg base CX0 3 f fd ["self"] (spStr K C) := by
  have sc := sc_Sum_str
  refine F.ok sc (fun vs H Q E h => ?_) (fun cdv A outer s H vs Q E hr h => ?_)
  · obtain ⟨x, ts, rfl, _⟩ := h
    rfl
  · obtain ⟨x, ts, rfl, ⟨dx, T0, N, us, h1, h2, h3, h4⟩, ⟨l1, l4, hf, _⟩, q⟩ := h
    refine ⟨_, PSs.nox (pss_one (ps_ret (pe_bm PySem.F.plainAttrs_str PySem.F.slot_str_join PySem.F.type_str_join mt_join pe_str (pa_cons (pe_cal c_sum_words hr (by rfl) pass0 (pa_cons (pe_fld (pv 0) rfl) pa_nil)) pa_nil)))), ?_⟩
    refine ⟨rfl, .ref x, rfl, x, C, dx, _, _, rfl, h1, S.cl, S.nT, sflds_terms _ _, T0, us, ts, rfl, h2, h3, l4, hf, fun l H' nl sm e => ?_⟩
    exact ⟨_, _, _, rfl, rfl, .inl (.of e), sumW_sum l4 hf, q H' sm⟩
abbrev s_Sum_eq : Stmt := inClass (topS 34) 6
theorem sc_Sum_eq : FnScope ["self", "other"] ["self", "other"] (defScope s_Sum_eq) := ⟨rfl, rfl, rfl, by decide +kernel, rfl, by decide +kernel, by decide +kernel⟩
def spEq (K : PySem.W.Frag) (C : Addr) : Sp := fun vs H Q _ => ∃ (x : Addr) (v : V) (ts : List Term), vs = [.ref x, v] ∧ SumAt K C H x ts ∧ (∀ t ∈ ts, TermFine t) ∧
  ((∃ n, ValOk K H v n ∧ Q (.bl false) H) ∨ ∃ (y : Addr) (us : List Term), v = .ref y ∧ SumAt K C H y us ∧ (∀ t ∈ us, TermFine t) ∧ Q (.bl (decide (ts = us))) H)
theorem ok_eq {f C : Addr} {fd : FuncData} (T : Txt mg) (S : SumTxt K mg C) (I : SumIs K C) (F : FunD K "__eq__" "Sum.__eq__" (defArgs s_Sum_eq) (defBody s_Sum_eq) (defScope s_Sum_eq) [] [] f fd) : FnOk P w K mg base CX0 1 f fd ["self", "other"] (spEq K C) := by
  have sc := sc_Sum_eq
  refine F.ok sc (fun vs H Q E h => ?_) (fun cdv A outer s H vs Q E hr h => ?_)
  · obtain ⟨x, v, ts, rfl, _⟩ := h
    rfl
  · obtain ⟨x, v, ts, rfl, hx, hf, h⟩ := h
    refine ⟨_, PSs.nox (pss_one (ps_ret (pe_and (pe_callB call_isi (by rfl) T.n_isinstance (by decide +kernel) (pa_cons (pv 1) (pa_cons (pe_glob rfl S.g_Sum (show RelV (.ref C) (.ref C) from rfl) (by decide)) pa_nil))) (pe_one (pe_cmpR (op_eqD hr.units) (pe_fld (pv 0) rfl) (pe_fld (pv 1) rfl) (nomark _)))))), ?_⟩
    obtain ⟨n, ok, q⟩ | ⟨y, us, rfl, hy, hfu, q⟩ := h
    · exact ⟨v, rfl, v, .ref C, _, _, false, rfl, .own _, ok.t, I.other n ok.k, _, rfl, q⟩
    · refine ⟨.ref y, rfl, .ref y, .ref C, _, _, true, rfl, .own _, sum_ty S I hy, I.self, _, rfl, ?_⟩
      obtain ⟨dx, T0, N, vs, h1, h2, h3, h4⟩ := hx
      obtain ⟨dy, T1, M, ws, k1, k2, k3, k4⟩ := hy
      refine ⟨.ref x, rfl, x, C, dx, _, _, rfl, h1, S.cl, S.nT, sflds_terms _ _, .ref y, rfl, y, C, dy, _, _, rfl, k1, S.cl, S.nT, sflds_terms _ _, termsD ts, termsD us, .tup h2 (dp_terms h3), .tup k2 (dp_terms k3), shaped_terms hf, shaped_terms hfu, ?_⟩
      rw [termsD_eqv]
      exact q
end
end LC
namespace LC
open PySem PySem.Spec PyProof.Rows L2
/-! reading: words that are numbers -/
def digB (c : Nat) : Bool := decide (48 ≤ c) && decide (c ≤ 57)
theorem digits_dec (c : Nat) : decide (c ∈ ("0123456789" : Str).cps.toList) = digB c := by
  have e : ("0123456789" : Str).cps.toList = List.range' 48 10 := by decide +kernel
  unfold digB
  rw [← Bool.decide_and, e]
  refine decide_eq_decide.mpr ?_
  rw [List.mem_range'_1]
  omega
/-- the word of a number, of so many figures at most -/
def decB (z : Str) (most : Nat) : Bool := decide (1 ≤ z.length) && decide (z.length ≤ most) && z.cps.toList.all digB && (decide (z = "0") || !decide (z.cps.toList.head? = some 48))
def spIsDecimal : Sp := fun vs H Q _ => ∃ (z : Str) (most : Nat), vs = [.str z, .int (most : Int)] ∧ most ≤ 100 ∧ z.length ≤ 100000 ∧ ∀ H', Same H H' → Q (.bl (decB z most)) H'
section
variable {P : Program} {w : World} {K : PySem.W.Frag} {mg : Str → Option Value} {base : Heap}
abbrev s_is_decimal : Stmt := topS 17
theorem sc_is_decimal : FnScope ["word", "most", "digit"] ["word", "most"] (defScope s_is_decimal) := ⟨rfl, rfl, rfl, by decide +kernel, rfl, by decide +kernel, by decide +kernel⟩
theorem ok_is_decimal {f : Addr} {fd : FuncData} (T : Txt mg) (gD : ∃ t, mg "DIGITS" = some (.str "0123456789" t)) (F : FnP K "is_decimal" s_is_decimal f fd) : FnOk P w K mg base CX0 1 f fd ["word", "most"] spIsDecimal := by
  have sc := sc_is_decimal
  refine F.ok sc (fun vs H Q E h => ?_) (fun cdv A outer s H vs Q E hr h => ?_)
  · obtain ⟨z, m, rfl, _⟩ := h
    rfl
  · obtain ⟨z, m, rfl, hm, hz, q⟩ := h
    refine ⟨_, PSs.nox (pss_cons (ps_if (PW.pt (pw_or (pt_not (pt_chain op_le op_le pe_int (pe_callB call_len (by rfl) T.n_len (by decide +kernel) (pa_cons (pv 0) pa_nil)) (pv 1))) (pw_or1 (pt_not (pt_val (pe_callB (cr_all rfl) (by rfl) T.n_all (by decide +kernel) (pa_cons (pe_lc (own := [("digit", 2)]) (g := (gName 2)) (te := (tOp (fun x y H Q => ∃ (c : Nat) (z : Str), x = .str ⟨#[c]⟩ ∧ y = .str z ∧ Q (.bl (decide (c ∈ z.cps.toList))) H) (tVar 2) (tC (.str "0123456789")))) (tt := tYes) rfl sc.nd (pi_str (pv 0)) (blkOk_by (N := ["word", "most", "digit"]) (sc := defScope s_is_decimal) (by decide +kernel)) (fun _ _ _ _ _ => by exact (pg_name (i := 2) sc.nd rfl (.inl rfl))) (fun _ _ _ _ _ => by exact pts_nil) (fun _ _ _ _ _ => by exact (pe_cmpR op_in_sign (pv 2) (pe_gstr gD) (by rfl)))) pa_nil)))))))
  (pss_one (ps_ret pe_bl))
  pss_nil)
(pss_one (ps_ret (pe_or (pe_cmpR op_eq (pv 0) pe_str (nomark _)) (pe_one (pe_cmpR op_ne (pe_ix ix_str (pv 0) pe_int (fun _ _ => rfl)) pe_str (nomark _))))))), ?_⟩
    have no : ∀ {b : Bool}, decB z m = b → Q (.bl b) H := fun e => by
      rw [← e]
      exact q H (Same.refl H)
    refine ⟨.str z, rfl, .str z, _, rfl, ⟨sz_le hz, rfl⟩, 1, _, rfl, rfl, _, rfl, iteD (fun e1 => ?_) (fun e1 => ?_)⟩
    · refine ⟨.int m, rfl, z.length, m, rfl, rfl, _, rfl, iteND (fun e2 => ?_) (fun e2 => ?_)⟩
      · refine no ?_
        unfold decB
        rw [decide_eq_false (show ¬ z.length ≤ m by omega), Bool.and_false, Bool.false_and, Bool.false_and]
      · refine ⟨.str z, rfl, z, rfl, fun D nD => ?_⟩
        refine lc_it walk_str (fun i H' => Same H H' ∧ H' D = some (.lst (((z.cps.toList.take i).map digB).map V.bl))) ⟨same_new nD, upd_same⟩ (fun _ _ _ _ => True.intro) ?_ ?_
        · rintro i x H' H2 hi ⟨sm, hD⟩ ⟨rfl, c, hc, rfl⟩
          refine ⟨rfl, tyes_of ?_⟩
          refine ⟨_, rfl, c, _, rfl, rfl, _, hD, ?_, fun b o e => ?_, ?_⟩
          · rw [List.length_map, List.length_map, List.length_take]
            have : z.cps.toList.length = z.length := rfl
            exact sz_lt (by omega)
          · rw [upd_ne (ne_of_none e nD)]
            exact sm b o e
          · have hc2 : z.cps.toList[i]? = some c := by simpa using hc
            rw [upd_same, take_next hc2, List.map_append, List.map_append, digits_dec]
            rfl
        · rintro H' ⟨sm, hD⟩
          have e4 : z.cps.toList.take z.cps.size = z.cps.toList := List.take_of_length_le (Nat.le_refl _)
          rw [e4] at hD
          have e5 : (List.map digB z.cps.toList).all id = z.cps.toList.all digB := by
            rw [List.all_map]
            rfl
          refine ⟨D, _, rfl, .of hD, _, rfl, ?_⟩
          rw [e5]
          cases ha : z.cps.toList.all digB with
          | false =>
            refine iteT ?_
            have z1 : decB z m = false := by
              unfold decB
              rw [ha, Bool.and_false, Bool.false_and]
            rw [← z1]
            exact q H' sm
          | true =>
            refine iteF ?_
            have z1 : decB z m = (decide (z = "0") || !decide (z.cps.toList.head? = some 48)) := by
              unfold decB
              rw [ha, decide_eq_true (show 1 ≤ z.length by omega), decide_eq_true (show z.length ≤ m by omega)]
              rfl
            rw [z1] at q
            refine ⟨.str z, rfl, rfl, _, rfl, ?_⟩
            refine iteD (fun hz0 => ?_) (fun hz0 => ?_)
            · rw [decide_eq_true (V.str.inj hz0), Bool.true_or] at q
              exact q H' sm
            · rw [decide_eq_false (fun w => hz0 (congrArg V.str w)), Bool.false_or] at q
              obtain ⟨c, r, hl⟩ : ∃ c r, z.cps.toList = c :: r := by
                have hlen : z.cps.toList.length = z.length := rfl
                cases h : z.cps.toList with
                | nil =>
                  rw [h] at hlen
                  have : z.length = 0 := hlen.symm
                  omega
                | cons c r => exact ⟨c, r, rfl⟩
              refine ⟨.str z, rfl, z, 0, c, rfl, rfl, sz_le hz, by rw [hl]; exact atI_nat (j := 0) rfl, rfl, ?_⟩
              have e6 : decide (V.str ⟨#[c]⟩ = V.str "0") = decide (z.cps.toList.head? = some 48) := by
                rw [hl, List.head?_cons]
                refine decide_eq_decide.mpr ⟨fun h => ?_, fun h => ?_⟩
                · have w : (⟨#[c]⟩ : Str) = "0" := V.str.inj h
                  have w2 := congrArg (fun s : Str => s.cps.toList) w
                  have w3 : [c] = [48] := w2
                  rw [List.cons.inj w3 |>.1]
                · rw [Option.some.inj h]
                  rfl
              rw [e6]
              exact q H' sm
    · refine ⟨_, rfl, no ?_⟩
      unfold decB
      rw [decide_eq_false (show ¬ 1 ≤ z.length by omega), Bool.false_and, Bool.false_and, Bool.false_and]
end
end LC
namespace LC
open PySem PySem.Spec PyProof.Rows L2
def optV : Option Int → V
  | none => .non
  | some i => .int i
def numW (z : Str) : Int := ((NumText.digitsVal z.cps.toList : Nat) : Int)
/-- a factor's word, behind this sign -/
def facOf (z sg : Str) : Option Int :=
  if sg = "=" ∧ Txt.startswith z "-" = true then (if decB (cutS z (some 1) none) 6 = true ∧ cutS z (some 1) none ≠ "0" then some (-(numW (cutS z (some 1) none))) else none)
  else if decB z 6 = true then (if sg = "-" then (if z = "0" then none else some (-(numW z))) else some (numW z)) else none
theorem dec_num {z : Str} {m : Nat} (h : decB z m = true) (hm : m ≤ 100) : intText? z = some (numW z) ∧ z.length ≤ 640 := by
  unfold decB at h
  simp only [Bool.and_eq_true, decide_eq_true_eq] at h
  obtain ⟨⟨⟨h1, h2⟩, h3⟩, _⟩ := h
  have hl : z.cps.toList.length = z.length := rfl
  refine ⟨intText_digits (fun c hc => ?_) (fun e => ?_) (by omega), by omega⟩
  · have q := List.all_eq_true.mp h3 c hc
    unfold digB at q
    simp only [Bool.and_eq_true, decide_eq_true_eq] at q
    exact q
  · rw [e] at hl
    have : z.length = 0 := hl.symm
    omega
theorem cutS_len (z : Str) : (cutS z (some 1) none).length ≤ z.length := by
  show ((z.cps.toList.drop _).take _).toArray.size ≤ z.cps.size
  rw [List.size_toArray, List.length_take, List.length_drop]
  have : z.cps.toList.length = z.cps.size := rfl
  omega
def spFactorOf : Sp := fun vs H Q _ => ∃ (z sg : Str), vs = [.str z, .str sg] ∧ z.length ≤ 100000 ∧ ∀ H', Same H H' → Q (optV (facOf z sg)) H'
section
variable {P : Program} {w : World} {K : PySem.W.Frag} {mg : Str → Option Value} {base : Heap}
abbrev s_factor_of : Stmt := topS 30
theorem sc_factor_of : FnScope ["word", "sign", "digits"] ["word", "sign"] (defScope s_factor_of) := ⟨rfl, rfl, rfl, by decide +kernel, rfl, by decide +kernel, by decide +kernel⟩
theorem ok_factor_of {f : Addr} {fd : FuncData} (T : Txt mg) (gF : ∃ t, mg "FACTOR_DIGITS" = some (.int 6 t)) (F : FnP K "factor_of" s_factor_of f fd) (c_is_decimal : Cal P w K mg base CX0 1 "is_decimal" ["word", "most"] spIsDecimal) : FnOk P w K mg base CX0 2 f fd ["word", "sign"] spFactorOf := by
  have sc := sc_factor_of
  refine F.ok sc (fun vs H Q E h => ?_) (fun cdv A outer s H vs Q E hr h => ?_)
  · obtain ⟨z, sg, rfl, _⟩ := h
    rfl
  · obtain ⟨z, sg, rfl, hz, q⟩ := h
    refine ⟨_, PSs.nox (pss_cons (ps_if (PW.pt (pw_and (pt_cmpR op_eq (pv 1) pe_str (nomark _)) (pw_and1 (pt_val (pe_bm PySem.F.plainAttrs_str PySem.F.slot_str_startswith PySem.F.type_str_startswith mt_startswith (pv 0) (pa_cons pe_str pa_nil))))))
  (pss_cons (ps_set (i := 2) sc.nd rfl (.inl rfl) (pe_slice sl_str (pv 0) (po_some pe_int) po_none))
  (pss_one (ps_ret (pe_ifExp (PW.pt (pw_and (pt_val (pe_cal c_is_decimal hr (by rfl) pass0 (pa_cons (pv 2) (pa_cons (pe_gint gF) pa_nil)))) (pw_and1 (pt_cmpR op_ne (pv 2) pe_str (nomark _))))) (pe_un un_neg (pe_callTy call_int_str (by rfl) T.n_int (by decide +kernel) (pa_cons (pv 2) pa_nil))) pe_non))))
  pss_nil)
(pss_cons (ps_if (pt_not (pt_val (pe_cal c_is_decimal hr (by rfl) pass0 (pa_cons (pv 0) (pa_cons (pe_gint gF) pa_nil)))))
  (pss_one (ps_ret pe_non))
  pss_nil)
(pss_cons (ps_if (pt_cmpR op_eq (pv 1) pe_str (nomark _))
  (pss_one (ps_ret (pe_ifExp (pt_cmpR op_ne (pv 0) pe_str (nomark _)) (pe_un un_neg (pe_callTy call_int_str (by rfl) T.n_int (by decide +kernel) (pa_cons (pv 0) pa_nil))) pe_non)))
  pss_nil)
(pss_one (ps_ret (pe_callTy call_int_str (by rfl) T.n_int (by decide +kernel) (pa_cons (pv 0) pa_nil))))))), ?_⟩
    refine ⟨.str sg, rfl, rfl, _, rfl, ?_⟩
    by_cases hs : sg = "="
    · rw [decide_eq_true (congrArg V.str hs)]
      refine iteT ?_
      refine ⟨.str z, rfl, rfl, z, "-", rfl, rfl, _, rfl, ?_⟩
      cases hst : Txt.startswith z "-" with
      | true =>
        refine iteT ?_
        refine ⟨.str z, rfl, 1, rfl, z, rfl, sz_le hz, ?_⟩
        have hdl : (cutS z (some 1) none).length ≤ 100000 := Nat.le_trans (cutS_len z) hz
        refine ⟨.str (cutS z (some 1) none), rfl, cutS z (some 1) none, 6, rfl, by decide, hdl, fun H1 s1 => ⟨_, rfl, ?_⟩⟩
        cases hd : decB (cutS z (some 1) none) 6 with
        | false =>
          refine iteF ?_
          have e : facOf z sg = none := by
            unfold facOf
            rw [if_pos ⟨hs, hst⟩, if_neg (fun w => by rw [hd] at w; exact Bool.false_ne_true w.1)]
          rw [e] at q
          exact q H1 s1
        | true =>
          refine iteT ?_
          obtain ⟨n1, n2⟩ := dec_num hd (by decide)
          refine ⟨.str (cutS z (some 1) none), rfl, rfl, _, rfl, iteND (fun h0 => ?_) (fun h0 => ?_)⟩
          · have e : facOf z sg = some (-(numW (cutS z (some 1) none))) := by
              unfold facOf
              rw [if_pos ⟨hs, hst⟩, if_pos ⟨hd, fun w => h0 (congrArg V.str w)⟩]
            rw [e] at q
            exact ⟨.str (cutS z (some 1) none), rfl, _, _, rfl, n1, n2, _, rfl, q H1 s1⟩
          · have e : facOf z sg = none := by
              unfold facOf
              rw [if_pos ⟨hs, hst⟩, if_neg (fun w => w.2 (V.str.inj h0))]
            rw [e] at q
            exact q H1 s1
      | false =>
        have hno : ¬ (sg = "=" ∧ Txt.startswith z "-" = true) := fun w => by
          rw [hst] at w
          exact Bool.false_ne_true w.2
        refine iteF ?_
        refine ⟨.str z, rfl, z, 6, rfl, by decide, hz, fun H1 s1 => ⟨_, rfl, ?_⟩⟩
        cases hd : decB z 6 with
        | false =>
          refine iteT ?_
          have e : facOf z sg = none := by
            unfold facOf
            rw [if_neg hno, if_neg (by rw [hd]; exact Bool.false_ne_true)]
          rw [e] at q
          exact q H1 s1
        | true =>
          refine iteF ?_
          obtain ⟨n1, n2⟩ := dec_num hd (by decide)
          refine ⟨.str sg, rfl, rfl, _, rfl, iteD (fun hm => ?_) (fun hm => ?_)⟩
          · refine ⟨.str z, rfl, rfl, _, rfl, iteND (fun h0 => ?_) (fun h0 => ?_)⟩
            · have e : facOf z sg = some (-(numW z)) := by
                unfold facOf
                rw [if_neg hno, if_pos hd, if_pos (V.str.inj hm), if_neg (fun w => h0 (congrArg V.str w))]
              rw [e] at q
              exact ⟨.str z, rfl, z, _, rfl, n1, n2, _, rfl, q H1 s1⟩
            · have e : facOf z sg = none := by
                unfold facOf
                rw [if_neg hno, if_pos hd, if_pos (V.str.inj hm), if_pos (V.str.inj h0)]
              rw [e] at q
              exact q H1 s1
          · have e : facOf z sg = some (numW z) := by
              unfold facOf
              rw [if_neg hno, if_pos hd, if_neg (fun w => hm (congrArg V.str w))]
            rw [e] at q
            exact ⟨.str z, rfl, z, _, rfl, n1, n2, q H1 s1⟩
    · have hno : ¬ (sg = "=" ∧ Txt.startswith z "-" = true) := fun w => hs w.1
      rw [decide_eq_false (fun w => hs (V.str.inj w))]
      refine iteF ?_
      refine iteF ?_
      refine ⟨.str z, rfl, z, 6, rfl, by decide, hz, fun H1 s1 => ⟨_, rfl, ?_⟩⟩
      cases hd : decB z 6 with
      | false =>
        refine iteT ?_
        have e : facOf z sg = none := by
          unfold facOf
          rw [if_neg hno, if_neg (by rw [hd]; exact Bool.false_ne_true)]
        rw [e] at q
        exact q H1 s1
      | true =>
        refine iteF ?_
        obtain ⟨n1, n2⟩ := dec_num hd (by decide)
        refine ⟨.str sg, rfl, rfl, _, rfl, iteD (fun hm => ?_) (fun hm => ?_)⟩
        · refine ⟨.str z, rfl, rfl, _, rfl, iteND (fun h0 => ?_) (fun h0 => ?_)⟩
          · have e : facOf z sg = some (-(numW z)) := by
              unfold facOf
              rw [if_neg hno, if_pos hd, if_pos (V.str.inj hm), if_neg (fun w => h0 (congrArg V.str w))]
            rw [e] at q
            exact ⟨.str z, rfl, z, _, rfl, n1, n2, _, rfl, q H1 s1⟩
          · have e : facOf z sg = none := by
              unfold facOf
              rw [if_neg hno, if_pos hd, if_pos (V.str.inj hm), if_pos (V.str.inj h0)]
            rw [e] at q
            exact q H1 s1
        · have e : facOf z sg = some (numW z) := by
            unfold facOf
            rw [if_neg hno, if_pos hd, if_neg (fun w => hm (congrArg V.str w))]
          rw [e] at q
          exact ⟨.str z, rfl, z, _, rfl, n1, n2, q H1 s1⟩
end
end LC
/-! LcSet: a set comprehension whose items are texts or ints, as a set of keys. -/
namespace LC
open PySem PySem.Spec PyProof.Rows L2 PpSet
/-- one more key -/
def addK (S : Key → Bool) (k : Key) : Key → Bool := fun j => S j || decide (j = k)
theorem add_key {X : Cx} {pins : List (Addr × Obj)} {σ : L2.St} {H : Hp} {s : Shared} {E : Value → Shared → Prop} {D : Addr} {S : Key → Bool} {n : Nat} {k : Key} {u : Value} {Q : Value → Shared → Prop} (In : Inv X pins σ H s) (at_ : H D = some (SetK X.prog X.w D S n)) (r : RelV (kV k) u) (room : n + 1 < scanBound)
    (go : ∀ s1, Inv X pins σ (upd H D (SetK X.prog X.w D (addK S k) (if S k = true then n else n + 1))) s1 → Q .none s1) : wpAny (model X.prog X.w) X.A (call (.builtin "set.add") [.ref D, u]) Q E s := by
  refine call_set_add (kV_is r) (key_scan r) (setK_get In at_) room fun g others made => ?_
  have stands : ∃ o, g.get? D = some o := let ⟨o, _, _, _, q, _⟩ := made; ⟨o, q⟩
  exact go _ (In.write (e := D) (t' := s.toks + 1) (by rw [at_]; trivial) (.inl rfl) (fun b o hb q => (others.2 b hb).trans q) stands (setK_new made))
/-- {item for target in iter if ..}: D the new set -/
def tSk (P : Program) (w : World) (wi : TI) (g : TG) (tt : TT) (te : TE) (vs : List Nat) : TE := fun σ H Q => wi σ H fun J H1 => ∀ D, H1 D = none → ∃ W : Nat → Nat → Hp → Prop, (∃ m, W 0 m (upd H1 D (SetK P w D (fun _ => false) 0))) ∧ ∀ i m H, W i m H →
  (J.stop i H ∧ Q (.ref D) H) ∨ (J.go i H ∧ ∃ Nx : Hp → Prop, (∀ H', Nx H' → ∃ m', m' < m ∧ W (i + 1) m' H') ∧ ∀ x H', J.yld i H x H' → g x (wipe σ vs) H' fun σ2 H2 => wipe σ2 vs = wipe σ vs ∧ tt σ2 H2 fun b H3 =>
    if b = true then te σ2 H3 fun y H4 => ∃ (k : Key) (S : Key → Bool) (n : Nat), y = kV k ∧ H4 D = some (SetK P w D S n) ∧ n + 1 < scanBound ∧ Nx (upd H4 D (SetK P w D (addK S k) (if S k = true then n else n + 1))) else Nx H3)
theorem pe_sk {X : Cx} {elt tg iter : Expr} {ifs : List Expr} {scope : Scope} {own : List (Str × Nat)} {pos : Pos} {wi : TI} {g : TG} {tt : TT} {te : TE} (calm : X.calm = true) (nd : X.N.Nodup) (hi : PI X tg iter wi) (ok : BlkOk X.N X.env.scope scope own)
    (hg : ∀ (s : Shared) (H : Hp) (C : Addr) (cl : List (Str × Addr)) (fp : List Addr), PG (X.blk s H scope (compEnvC scope cl C X.env) fp) tg g) (ht : ∀ (s : Shared) (H : Hp) (C : Addr) (cl : List (Str × Addr)) (fp : List Addr), PTs (X.blk s H scope (compEnvC scope cl C X.env) fp) ifs tt)
    (he : ∀ (s : Shared) (H : Hp) (C : Addr) (cl : List (Str × Addr)) (fp : List Addr), PE (X.blk s H scope (compEnvC scope cl C X.env) fp) elt te) (plain : ∀ x, foldedSetIterable iter X.env x = pure x := by intro _; rfl) :
    PE X (.SetComp elt [⟨tg, iter, ifs, 0⟩] scope pos) (tSk X.prog X.w wi g tt te (own.map (·.2))) := by
  constructor
  intro pins s σ H Q In want
  rw [eval_SetComp]
  have caught : ∀ y ∈ scope.names, y.2 = .free → ∃ c, X.env.cells.lookup y.1 = some c := fun y hy q => (ok.free y hy q).elim (fun z => In.ok.has _ (.inl z)) fun z => In.ok.has _ (.inr z)
  refine wpAny_comprehension_free (use := none) rfl plain (closure_ok caught) ok.kind (fun y hy q => by rw [ok.uniq y hy, q]) (thn (hi.run pins s σ H _ In want) fun xv s1 hx => thn hx fun itv s2 came => ?_)
  obtain ⟨it, fp, tn, J, H2, rfl, In2, Tn, st2, foot, want2⟩ := came
  refine newSet_ok (newEnv_comp ?_)
  generalize hD : s2.heap.objs.size = D
  have freeD : H2 D = none := In2.hok.fresh (Nat.le_of_eq hD)
  obtain ⟨W, ⟨m0, w0⟩, step⟩ := want2 D freeD
  generalize hs3 : ({ s2 with heap := s2.heap.push { cls := .type "set", dict := none, data := .set #[] 0 (.fresh 0 0 (!X.w.params.followText "set-order")) } } : Shared) = s3
  have grown : s3.heap = s2.heap.push { cls := .type "set", dict := none, data := .set #[] 0 (.fresh 0 0 (!X.w.params.followText "set-order")) } := by rw [← hs3]
  have empty : s3.heap.SetOf (mixKind X.prog X.w) D (fun _ => false) 0 := by
    rw [grown, ← hD]
    exact ⟨_, #[], 0, _, Heap.get?_push_size _ rfl, ⟨rfl, rfl, rfl⟩, rfl, (fun e he => by simp at he), (fun k => by simp), (by decide), (by rfl), rfl⟩
  have In3 : Inv X pins σ (upd H2 D (SetK X.prog X.w D (fun _ => false) 0)) s3 := by
    have q := In2.laid (a := D) (o := SetK X.prog X.w D (fun _ => false) 0) (h' := s3.heap) (t' := s2.toks) (fun b o e => by rw [grown]; exact Heap.get?_push_of_some _ e) (Nat.le_of_eq hD) (setK_new empty)
    rw [← hs3] at q ⊢
    exact q
  have foot3 : ∀ b ∈ fp, FpOk X pins (upd H2 D (SetK X.prog X.w D (fun _ => false) 0)) b ∧ b < s3.heap.objs.size := fun b hb => by
    obtain ⟨o, q, _⟩ := Tn.obj _ _ st2 b hb
    have lt := Heap.lt_size q
    refine ⟨⟨?_, (foot b hb).2⟩, by rw [grown, Heap.size_push]; exact Nat.lt_succ_of_lt lt⟩
    rw [upd_ne (by rw [← hD]; exact Nat.ne_of_lt lt)]
    exact (foot b hb).1
  have st3 : tn 0 s3.heap := Tn.keep _ _ _ st2 fun b _ o q => by
    rw [grown]
    exact Heap.get?_push_of_some _ q
  generalize hH3 : upd H2 D (SetK X.prog X.w D (fun _ => false) 0) = H3 at In3 foot3 w0
  have In4 := block_start In3 ok nd foot3
  have pg := hg s3 H3 s3.heap.objs.size (cellsFrom (s3.heap.objs.size + 1) scope.names (cloFrom X.env.cells scope.names [])) fp
  have pt := ht s3 H3 s3.heap.objs.size (cellsFrom (s3.heap.objs.size + 1) scope.names (cloFrom X.env.cells scope.names [])) fp
  have pe := he s3 H3 s3.heap.objs.size (cellsFrom (s3.heap.objs.size + 1) scope.names (cloFrom X.env.cells scope.names [])) fp
  have foldn : ∀ b ∈ fp, H3 b = none := fun b hb => (foot3 b hb).1.1
  generalize hce : compEnvC scope (cellsFrom (s3.heap.objs.size + 1) scope.names (cloFrom X.env.cells scope.names [])) s3.heap.objs.size X.env = ce at In4 pg pt pe
  have locals : ce.locals = s3.heap.objs.size := by
    subst hce
    rfl
  generalize hs4 : ({ s3 with heap := pushCells (s3.heap.push { cls := .type "dict", data := .dict #[] }) scope.names } : Shared) = s4 at In4
  have st4 : tn 0 s4.heap := Tn.keep _ _ _ st3 fun b _ o q => by
    rw [← hs4]
    exact pushCells_keeps _ _ _ _ (Heap.get?_push_of_some _ q)
  have inert : ∀ {σ' : L2.St} {H' : Hp} {s' : Shared}, Inv (X.blk s3 H3 scope ce fp) [] σ' H' s' → (∀ b ∈ fp, H' b = none) → ∀ b ∈ fp, FpOk (X.blk s3 H3 scope ce fp) [] H' b := fun I' no b hb =>
    ⟨no b hb, (I'.ok.exf b hb).1, I'.ok.exfs b hb, .inl hb, fun x c q => (I'.ok.exf b hb).2 x c q, fun p hp => absurd (show p ∈ ([] : List (Addr × Obj)) ++ [] from hp) (by simp)⟩
  have body : codeAny (model X.prog X.w) X.A (.compLoop (.SetComp elt [⟨tg, iter, ifs, 0⟩] scope pos) 0 (.ref it) (.ref D) ce) (compPost (model X.prog X.w) X.A X.xe none (EP X pins σ Q) (.ref D) s3.heap.objs.size) s4 := by
    refine compLoopS_any (fun n t => ∃ i G, Inv (X.blk s3 H3 scope ce fp) [] (wipe σ (own.map (·.2))) G t ∧ tn i t.heap ∧ (∀ b ∈ fp, G b = none) ∧ W i n G) ?_ m0 ⟨0, H3, In4, st4, foldn, w0⟩
    rintro n t ⟨i, G, InG, stG, noG, wG⟩
    rcases step i n G wG with ⟨halt, out⟩ | ⟨more, Nx, lower, turn⟩
    · refine thnF (Tn.done (X.blk s3 H3 scope ce fp) rfl rfl rfl calm i [] t _ G (fun _ _ => False) InG (inert InG noG) stG halt) fun r t1 ⟨er, In1⟩ => ?_
      subst er
      have Back : Inv X pins σ G t1 := In3.call' (ch := fp) In1.os In1.base In1.hok In1.bare fun b hb => ⟨(foot3 b hb).1.2.2.2.1, (foot3 b hb).1.2.1, (foot3 b hb).1.2.2.2.2.1, (foot3 b hb).1.2.2.2.2.2⟩
      have gone : G s3.heap.objs.size = none := by
        have z : G ce.locals = none := In1.free
        rwa [locals] at z
      obtain ⟨m, own1, _⟩ := In1.loc
      have own1 : t1.heap.Ns ce.locals m := own1
      rw [locals] at own1
      obtain ⟨f0, f1, f2, f3, f4, f5⟩ := In3.fpOk (Nat.le_refl _) gone
      exact ⟨m, own1, fun h'' sb => ⟨.ref D, G, Back.turned (t' := t1.toks) (fun b o hb q => (sb.2 b hb).trans q) f0 f1 f3 f4 f5, rfl, out⟩⟩
    · refine thnF (Tn.item (X.blk s3 H3 scope ce fp) rfl rfl rfl calm i [] t _ G (fun _ _ => False) InG (inert InG noG) stG more) fun r t1 ⟨u, er, got⟩ => ?_
      subst er
      refine thnF got fun _ t2 ⟨x, G2, In2, rx, yx, st5, no2⟩ => ?_
      have Pin := In2.pinned (inert In2 no2) (Tn.obj _ _ st5)
      refine thnF (pg.run _ t2 _ G2 x u _ Pin rx (turn x G2 yx)) fun _ t3 ⟨σ3, G3, In3', wipes, rest⟩ => ?_
      refine thnF (pt.run _ t3 σ3 G3 _ In3' rest) fun b t4 ⟨G4, In4', rest⟩ => ?_
      have close : ∀ {t' : Shared} {G' : Hp}, Inv (X.blk s3 H3 scope ce fp) ([] ++ pinsAt fp t2.heap) σ3 G' t' → Nx G' → ∃ m, m < n ∧ ∃ i G, Inv (X.blk s3 H3 scope ce fp) [] (wipe σ (own.map (·.2))) G t' ∧ tn i t'.heap ∧ (∀ b ∈ fp, G b = none) ∧ W i m G := fun {t' G'} I' nx => by
        obtain ⟨m', lt, w'⟩ := lower G' nx
        have still : ∀ b ∈ fp, ∀ o, t2.heap.get? b = some o → t'.heap.get? b = some o ∧ G' b = none := fun b hb o q => by
          have z := I'.pin (b, o) (List.mem_append_right _ (List.mem_append_right _ (mem_pinsAt hb q)))
          exact ⟨z.1, z.2.1⟩
        refine ⟨m', lt, i + 1, G', (I'.unpinned (pins := [])).weak (by rw [← wipes, wipe_length]) (fun j v q => ?_), Tn.keep _ _ _ st5 fun b hb o q => (still b hb o q).1, fun b hb => ?_, w'⟩
        · rw [← wipes] at q
          exact (wipe_some q).1
        · obtain ⟨o, q, _⟩ := Tn.obj _ _ st5 b hb
          exact (still b hb o q).2
      cases b with
      | false =>
        rw [if_neg Bool.false_ne_true] at rest
        rw [if_neg Bool.false_ne_true]
        exact close In4' rest
      | true =>
        rw [if_pos rfl] at rest
        rw [if_pos rfl]
        refine thnF (pe.run _ t4 σ3 G4 _ In4' rest) fun z t5 ⟨yv, G5, In5, ry, k, S0, n0, ey, at5, room, nx⟩ => ?_
        subst ey
        exact add_key (X := X.blk s3 H3 scope ce fp) In5 at5 ry room fun t6 In6 => close In6 nx
  subst hce
  subst hs4
  exact codeAny_compStart_set body (Tn.self X.A 0 _ _ _ st4 body)
/-- len of a set of keys -/
theorem call_lenK {X : Cx} : CallR X (.builtin "len") (fun xs H Q => ∃ (a : Addr) (S : Key → Bool) (n : Nat), xs = [.ref a] ∧ H a = some (SetK X.prog X.w a S n) ∧ Q (.int n) H) := by
  intro pins s σ H xs us Q In r h
  obtain ⟨a, S, n, rfl, at_, q⟩ := h
  obtain ⟨u, rfl, ru⟩ := vals1 r
  obtain rfl : u = Value.ref a := ru
  obtain ⟨o, es, ep, t, ho, ex, d, _, _, lt, fits, size⟩ := setK_get In at_
  refine call_len_set ho ex d fits (by have : scanBound ≤ 2 ^ 32 := by decide
                                       omega) ⟨.int n, H, In.tok _, ⟨_, by rw [size]⟩, q⟩
/-- the set's growth, by a list of unlike keys -/
theorem lc_sk {P : Program} {w : World} {J : It} {n : Nat} {G : Hp → Prop} {Y : Nat → Hp → V → Hp → Prop} (wk : Walk J n G Y) {g : TG} {tt : TT} {te : TE} {vs : List Nat} {σ : L2.St} {H1 : Hp} {D : Addr} {Qd : Hp → Prop} (Pv : Nat → Hp → Prop) (h0 : Pv 0 (upd H1 D (SetK P w D (fun _ => false) 0))) (hG : ∀ i H, i ≤ n → Pv i H → G H)
    (hs : ∀ i x H H', i < n → Pv i H → Y i H x H' → g x (wipe σ vs) H' fun σ2 H2 => wipe σ2 vs = wipe σ vs ∧ tt σ2 H2 fun b H3 =>
      if b = true then te σ2 H3 fun y H4 => ∃ (k : Key) (S : Key → Bool) (m : Nat), y = kV k ∧ H4 D = some (SetK P w D S m) ∧ m + 1 < scanBound ∧ Pv (i + 1) (upd H4 D (SetK P w D (addK S k) (if S k = true then m else m + 1))) else Pv (i + 1) H3) (hd : ∀ H, Pv n H → Qd H) :
    ∃ W : Nat → Nat → Hp → Prop, (∃ m, W 0 m (upd H1 D (SetK P w D (fun _ => false) 0))) ∧ ∀ i m H, W i m H →
      (J.stop i H ∧ Qd H) ∨ (J.go i H ∧ ∃ Nx : Hp → Prop, (∀ H', Nx H' → ∃ m', m' < m ∧ W (i + 1) m' H') ∧ ∀ x H', J.yld i H x H' → g x (wipe σ vs) H' fun σ2 H2 => wipe σ2 vs = wipe σ vs ∧ tt σ2 H2 fun b H3 =>
        if b = true then te σ2 H3 fun y H4 => ∃ (k : Key) (S : Key → Bool) (m : Nat), y = kV k ∧ H4 D = some (SetK P w D S m) ∧ m + 1 < scanBound ∧ Nx (upd H4 D (SetK P w D (addK S k) (if S k = true then m else m + 1))) else Nx H3) := by
  refine ⟨fun i m H => m = n - i ∧ i ≤ n ∧ Pv i H, ⟨n, rfl, Nat.zero_le _, h0⟩, ?_⟩
  rintro i m H ⟨rfl, le, p⟩
  have held := hG i H le p
  by_cases lt : i < n
  · refine .inr ⟨wk.goes i H lt held, fun H' => Pv (i + 1) H', fun H' p' => ⟨n - (i + 1), by omega, rfl, by omega, p'⟩, fun x H' y => hs i x H H' lt p (wk.yields i H x H' lt held y)⟩
  · have e : i = n := by omega
    subst e
    exact .inl ⟨wk.stops H held, hd H p⟩
end LC
namespace LC
open PySem PySem.Spec PyProof.Rows L2
/-- the unlike names among words -/
def namesIn (ws : List Str) : List Str := (ws.filter nameB).foldl addN []
def fitsB (ws : List Str) (start at_ : Nat) : Bool := match ws[at_]? with
  | none => false
  | some z => nameB z && decide ((namesIn ((ws.drop start).take (at_ + 1 - start))).length ≤ 3)
def spNameFits : Sp := fun vs H Q _ => ∃ (l : Addr) (ws : List Str) (start at_ : Nat), vs = [.ref l, .int (start : Int), .int (at_ : Int)] ∧ H l = some (.lst (ws.map V.str)) ∧ start ≤ at_ ∧ at_ ≤ ws.length ∧ ws.length ≤ 1000 ∧ (∀ z ∈ ws, z.length ≤ 100000) ∧ ∀ H', Same H H' → Q (.bl (fitsB ws start at_)) H'
theorem addN_mem2 {acc : List Str} {x z : Str} : z ∈ addN acc x ↔ z ∈ acc ∨ z = x := by
  unfold addN
  by_cases h : x ∈ acc
  · rw [if_pos h]
    exact ⟨.inl, fun a => a.elim id fun e => by rw [e]; exact h⟩
  · rw [if_neg h]
    simp
section
variable {P : Program} {w : World} {K : PySem.W.Frag} {mg : Str → Option Value} {base : Heap}
abbrev s_name_fits : Stmt := topS 29
theorem sc_name_fits : FnScope ["words", "start", "at", "word"] ["words", "start", "at"] (defScope s_name_fits) := ⟨rfl, rfl, rfl, by decide +kernel, rfl, by decide +kernel, by decide +kernel⟩
theorem ok_name_fits {f : Addr} {fd : FuncData} (T : Txt mg) (F : FnP K "name_fits" s_name_fits f fd) (c_is_name : Cal P w K mg base CX0 2 "is_name" ["value"] (spIsName K)) : FnOk P w K mg base CX0 3 f fd ["words", "start", "at"] spNameFits := by
  have sc := sc_name_fits
  refine F.ok sc (fun vs H Q E h => ?_) (fun cdv A outer s H vs Q E hr h => ?_)
  · obtain ⟨l, ws, a, b, rfl, _⟩ := h
    rfl
  · obtain ⟨l, ws, st, at_, rfl, hl, h1, h2, h3, hz, q⟩ := h
    refine ⟨_, PSs.nox (pss_cons (ps_if (PW.pt (pw_or (pt_cmpR op_eq (pv 2) (pe_callB call_len (by rfl) T.n_len (by decide +kernel) (pa_cons (pv 0) pa_nil)) (nomark _)) (pw_or1 (pt_not (pt_val (pe_cal c_is_name hr (by rfl) pass0 (pa_cons (pe_ix ix_list (pv 0) (pv 2) (fun _ _ => rfl)) pa_nil)))))))
  (pss_one (ps_ret pe_bl))
  pss_nil)
(pss_one (ps_ret (pe_cmpR op_le (pe_callB call_lenK (by rfl) T.n_len (by decide +kernel) (pa_cons (pe_sk (own := [("word", 3)]) (g := (gName 3)) (te := (tVar 3)) (tt := (tB (tCal (spIsName K) E0 (tCons (tVar 3) tNil)))) rfl sc.nd (pi_list (pe_slice sl_list (pv 0) (po_some (pv 1)) (po_some (pe_op op_add (pv 2) pe_int)))) (blkOk_by (N := ["words", "start", "at", "word"]) (sc := defScope s_name_fits) (by decide +kernel)) (fun _ _ _ _ _ => by exact (pg_name (i := 3) sc.nd rfl (.inl rfl))) (fun _ _ _ _ _ => by exact (pts_one (pt_val (pe_cal c_is_name hr (by rfl) pass0 (pa_cons (pv 3) pa_nil))))) (fun _ _ _ _ _ => by exact (pv 3))) pa_nil)) (pe_gint T.g_MOST_UNLIKE) (nomark _))))), ?_⟩
    refine ⟨.int at_, rfl, .ref l, rfl, .ref l, _, rfl, .inl ⟨_, .of hl, rfl⟩, rfl, _, rfl, iteD (fun e => ?_) (fun e => ?_)⟩
    · have e1 : (at_ : Int) = ((ws.map V.str).length : Int) := V.int.inj e
      rw [List.length_map] at e1
      have e2 : fitsB ws st at_ = false := by
        unfold fitsB
        rw [List.getElem?_eq_none (by omega)]
      rw [e2] at q
      exact q H (Same.refl H)
    · have lt : at_ < ws.length := by
        have : ¬ at_ = ws.length := fun w => e (by rw [List.length_map, w])
        omega
      obtain ⟨z, hza⟩ : ∃ z, ws[at_]? = some z := ⟨_, List.getElem?_eq_getElem lt⟩
      have hzm : z ∈ ws := List.mem_of_getElem? hza
      have sl : ∀ {v : Str} {y : Str}, v ∈ ws → V.str v = .str y → y.length ≤ 100000 := fun hv e => by
        cases e
        exact hz _ hv
      refine ⟨.ref l, rfl, .int at_, rfl, l, _, at_, .str z, rfl, rfl, .of hl, atI_nat (by rw [List.getElem?_map, hza]; rfl), .str z, "str", rfl, by decide, .base (.str _), fun y e => sl hzm e, fun H1 s1 => ⟨_, rfl, ?_⟩⟩
      cases hn : isNameB (.str z) with
      | false =>
        refine iteT ?_
        have e2 : fitsB ws st at_ = false := by
          unfold fitsB
          rw [hza]
          show (nameB z && _) = false
          rw [show nameB z = false from hn, Bool.false_and]
        rw [e2] at q
        exact q H1 s1
      | true =>
        refine iteF ?_
        have e2 : fitsB ws st at_ = decide ((namesIn ((ws.drop st).take (at_ + 1 - st))).length ≤ 3) := by
          unfold fitsB
          rw [hza]
          show (nameB z && _) = _
          rw [show nameB z = true from hn, Bool.true_and]
        rw [e2] at q
        refine ⟨.ref l, rfl, .int st, rfl, st, rfl, .int at_, rfl, at_, 1, rfl, rfl, (at_ : Int) + 1, rfl, l, _, rfl, .of (s1 _ _ hl), fun sa nsa => ?_⟩
        have cut : cutV (ws.map V.str) (some (st : Int)) (some ((at_ : Int) + 1)) = ((ws.drop st).take (at_ + 1 - st)).map V.str := by
          have l0 : (ws.map V.str).length = ws.length := List.length_map ..
          unfold cutV
          rw [HT.sIx_nat, show ((at_ : Int) + 1) = ((at_ + 1 : Nat) : Int) from rfl, HT.sIx_nat, l0, Nat.min_eq_left (by omega : st ≤ ws.length), Nat.min_eq_left (by omega : at_ + 1 ≤ ws.length), List.map_take, List.map_drop]
        rw [cut]
        generalize hxs : (ws.drop st).take (at_ + 1 - st) = xs at q
        have sub : ∀ v ∈ xs, v ∈ ws := fun v hv => by
          rw [← hxs] at hv
          exact List.mem_of_mem_drop (List.mem_of_mem_take hv)
        have lxs : xs.length ≤ 1000 := by
          rw [← hxs, List.length_take, List.length_drop]
          omega
        generalize hH2 : upd H1 sa _ = H2
        obtain ⟨s2, e3⟩ := alloc_eq nsa hH2
        refine ⟨sa, rfl, ⟨_, .of e3⟩, fun D nD => ?_⟩
        refine lc_sk (walk_list (K := K) (a := sa) (xs := xs.map V.str)) (fun i H' => Same H2 H' ∧ ∃ S : Key → Bool, H' D = some (SetK P w D S (namesIn (xs.take i)).length) ∧ ∀ y : Str, S (.inr y) = decide (y ∈ namesIn (xs.take i))) ⟨same_new nD, fun _ => false, upd_same, fun y => rfl⟩ (fun i H' _ h => .of (h.1 _ _ e3)) ?_ ?_
        · rintro i x H' H3 hi ⟨sm, S, hD, hS⟩ ⟨rfl, hx⟩
          rw [List.getElem?_map] at hx
          obtain ⟨y, hy, rfl⟩ := Option.map_eq_some_iff.mp hx
          have hym : y ∈ ws := sub y (List.mem_of_getElem? hy)
          refine ⟨rfl, .str y, rfl, .str y, "str", rfl, by decide, .base (.str _), fun u e => sl hym e, fun H4 s4 => ⟨_, rfl, ?_⟩⟩
          have hD4 := s4 _ _ hD
          cases hb : isNameB (.str y) with
          | false =>
            refine iteF ?_
            have nx : namesIn (xs.take (i + 1)) = namesIn (xs.take i) := by
              unfold namesIn
              rw [take_next hy, List.filter_append, List.filter_cons, if_neg (by rw [show nameB y = false from hb]; exact Bool.false_ne_true), List.filter_nil, List.append_nil]
            rw [nx]
            exact ⟨sm.trans s4, S, hD4, hS⟩
          | true =>
            refine iteT ?_
            have nx : namesIn (xs.take (i + 1)) = addN (namesIn (xs.take i)) y := by
              unfold namesIn
              rw [take_next hy, List.filter_append, List.filter_cons, if_pos (show nameB y = true from hb), List.filter_nil, List.foldl_append]
              rfl
            have ll : (namesIn (xs.take i)).length ≤ 1000 := by
              refine Nat.le_trans (foldN_len _ _) ?_
              have a := List.length_filter_le nameB (xs.take i)
              rw [List.length_take] at a
              simp only [List.length_nil]
              omega
            refine ⟨.str y, rfl, .inr y, S, _, rfl, hD4, Nat.lt_of_le_of_lt (Nat.add_le_add_right ll 1) (by decide), fun b o e => ?_, addK S (.inr y), ?_, fun u => ?_⟩
            · rw [upd_ne (ne_of_none e nD)]
              exact s4 _ _ (sm b o e)
            · rw [upd_same, nx]
              have sz : (if S (.inr y) = true then (namesIn (xs.take i)).length else (namesIn (xs.take i)).length + 1) = (addN (namesIn (xs.take i)) y).length := by
                rw [hS]
                by_cases m : y ∈ namesIn (xs.take i)
                · rw [decide_eq_true m, if_pos rfl, addN_old m]
                · rw [decide_eq_false m, if_neg Bool.false_ne_true, addN_new m, List.length_append]
                  rfl
              rw [sz]
              rfl
            · show (S (.inr u) || decide ((Sum.inr u : Key) = Sum.inr y)) = _
              rw [hS, nx, ← Bool.decide_or]
              refine decide_eq_decide.mpr ⟨fun h => addN_mem2.mpr (h.imp id fun e => Sum.inr.inj e), fun h => (addN_mem2.mp h).imp id fun e => congrArg Sum.inr e⟩
        · rintro H' ⟨sm, S, hD, hS⟩
          rw [List.length_map, List.take_length] at hD
          refine ⟨D, S, _, rfl, hD, _, 3, rfl, rfl, ?_⟩
          have e5 : decide ((((namesIn xs).length : Nat) : Int) ≤ 3) = decide ((namesIn xs).length ≤ 3) := decide_eq_decide.mpr (by omega)
          show Q (.bl (decide ((((namesIn xs).length : Nat) : Int) ≤ 3))) H'
          rw [e5]
          exact q H' ((s1.trans s2).trans sm)
end
end LC
namespace LC
open PySem PySem.Spec PyProof.Rows L2
section
variable {P : Program} {w : World} {K : PySem.W.Frag} {mg : Str → Option Value} {base : Heap}
abbrev s_BadText_init : Stmt := inClass (topS 9) 0
theorem sc_BadText_init : FnScope ["self", "line", "word"] ["self", "line", "word"] (defScope s_BadText_init) := ⟨rfl, rfl, rfl, by decide +kernel, rfl, by decide +kernel, by decide +kernel⟩
theorem ok_BadText {f C : Addr} {fd : FuncData} (o : OexC K C) (n1 : PySem.W.findIn K (.ref C) "line" = some none) (n2 : PySem.W.findIn K (.ref C) "word" = some none) (F : FunD K "__init__" "BadText.__init__" (defArgs s_BadText_init) (defBody s_BadText_init) (defScope s_BadText_init) [] [] f fd) : FnOk P w K mg base CX0 1 f fd ["self", "line", "word"] (spErr2 C "line" "word") := by
  have sc := sc_BadText_init
  refine F.ok sc (fun vs H Q E h => ?_) (fun cdv A outer s H vs Q E hr h => ?_)
  · obtain ⟨a, v, u, rfl, _⟩ := h
    rfl
  · obtain ⟨a, v, u, rfl, ha, q⟩ := h
    refine ⟨_, PSs.nox (pss_cons (ps_ost (pv 0) (pv 1))
(pss_one (ps_ost (pv 0) (pv 2)))), ?_⟩
    refine ⟨v, rfl, .ref a, rfl, a, C, rfl, o, n1, .inl ⟨ha, fun dx n ne => ?_⟩⟩
    refine ⟨u, rfl, .ref a, rfl, a, C, rfl, o, n2, .inr ⟨dx, [("line", v)], upd_same, ?_, by show 1 ≤ 900; decide, ?_⟩⟩
    · rw [upd_ne ne]
      exact upd_same
    · refine q dx _ n ne (fun b ob e => ?_) ?_ upd_same
      · have b1 : b ≠ a := fun z => by
          rw [z] at e
          rw [del_same] at e
          cases e
        rw [del_ne b1] at e ⊢
        rw [upd_ne (ne_of_none e n), upd_ne b1, upd_ne (ne_of_none e n)]
        exact e
      · rw [upd_ne (Ne.symm ne)]
        exact upd_same
end
end LC
/-! LcErrN: raise X(e), the exception's context known to be None; raise X(e) from None in an except suite. -/
namespace LC
open PySem PySem.Spec PyProof.Rows L2
section
variable {X : Cx} {CX : CXT} {e : Expr} {es : List Expr} {pos p : Pos} {ta : TA}
/-- an own exception made, its context None -/
theorem pmkN {x : Str} {C fI : Addr} {k : Nat} {fd : FuncData} {ps : List Str} {sp : Sp} (T : OexC X.K C) (look : PySem.W.findIn X.K (.ref C) "__init__" = some (some (.ref fI))) (isF : PySem.W.typeIn X.K (.ref fI) = some (.type "function"))
    (F : FnOk X.prog X.w X.K X.mg X.base CX k fI fd ps sp) (room : Room (k + 1) X.A) (bd : Binds X.K fd ps []) (air : Passes CX X (fun _ _ _ => False)) (gl : Gl X x) (mgx : X.mg x = some (.ref C)) (args : PA X (e :: es) ta)
    (dbg : (x == ("__debug__" : Str)) = false := by decide) (star : starEach (e :: es) X.env = (false, eval e X.env) :: starEach es X.env := by rfl) (plain : (backTo pos (starEach es X.env)).any (·.1) = false := by rfl) :
    L2N.PMk X (.Call (.Name x p) (e :: es) [] pos) (tMkO C sp [] ta) := by
  intro pins s0 σ0 H0 Q0 I0 w0
  obtain ⟨nm, qn, N, bs, bm, sn, sub, ab, col, dd, k0, k1, k2, k3, k5, hC, refs⟩ := T.cls
  refine wpAny_Call_Name_kw (ld_glob I0 gl mgx ?_ dbg)
  refine PySem.W.callWith_K (h₀ := X.base) I0.ok.mod.kin T.kC (thn (args.run pos pins s0 σ0 H0 _ I0 w0) fun us s1 ⟨vs, H1, I1, rel, sz, ask⟩ => ⟨I1.kIn, ?_⟩) star plain
  show wpAny (model X.prog X.w) X.A (call (.ref C) us) _ _ _
  obtain ⟨hp, gg, dr, tk, os⟩ := s1
  generalize ha : hp.objs.size + 1 = a
  have le : hp.objs.size ≤ a := by omega
  have free : H1 a = none := I1.hok.fresh le
  have ask2 := ask a free
  rw [List.append_nil] at ask2
  subst ha
  generalize hg2 : (hp.push (PySem.W.kdv_tup us)).push (PySem.HandSPX.excO C hp.objs.size) = g2
  have kept : ∀ b o, hp.get? b = some o → g2.get? b = some o := fun b o z => by
    rw [← hg2]
    exact Heap.get?_push_of_some _ (Heap.get?_push_of_some _ z)
  have there : g2.get? (hp.objs.size + 1) = some (PySem.HandSPX.excO C hp.objs.size) := by
    rw [← hg2]
    heap_get
  have I2 : Inv X pins σ0 (upd H1 (hp.objs.size + 1) (exo (hp.objs.size + 1) C none)) ⟨g2, gg, dr, tk, os⟩ := I1.laid (t' := tk) (h' := g2) (a := hp.objs.size + 1) (o := exo (hp.objs.size + 1) C none) kept le (exo_ok there)
  have rel2 : Vals (V.ref (hp.objs.size + 1) :: vs) (Value.ref (hp.objs.size + 1) :: us) := .cons rfl rel
  have many : (Value.ref (hp.objs.size + 1) :: us ++ []).length = ps.length := by
    rw [List.append_nil, ← rel2.length]
    exact F.len _ _ _ _ ask2
  have few : us.length ≤ sizeLine := by
    have := Paired.length rel
    rw [sizeLine_eq]
    omega
  have bd2 := bd _ (Value.ref (hp.objs.size + 1) :: us) I2.kIn many
  rw [List.append_nil] at bd2
  have ran := F.run _ X.stack _ _ ⟨Value.ref (hp.objs.size + 1) :: us, []⟩ (Value.ref (hp.objs.size + 1) :: us) _ _ (fun _ _ _ => False) (room.make C us []) (I2.env0.make C us []) bd2 rel2 ask2
  subst hg2
  refine wpAny_call (PySem.HandSPX.call_own PySem.F.excBase_ValueError (fun Y => PySem.HandSPX.refsVE_contains Y bm refs) (I1.kIn _ _ hC) (PySem.W.looks_findIn I1.kIn look) (fun me => PySem.W.bind_fn I1.kIn me isF) few (codeAny_mono ran fun r s3 out => ?_))
  cases r with
  | error er => exact air pins σ0 _ _ er s3 I2 out
  | ok fl =>
    cases fl with
    | ret u =>
      obtain ⟨v, H2, os2, bare2, un2, hok2, rv, ev, d, fs, ea, ed, hd1, q2⟩ := out
      subst ev
      obtain ⟨h2, g3, d2, t2, os3⟩ := s3
      obtain ⟨t0, G, J, kG, ge, hoe, na⟩ := mk_end0 (d2 := d2) (t2 := t2) I1 le kept un2 hok2 os2 bare2 ea ed hd1
      refine ⟨rv, hp.objs.size + 1, _, _, ⟨G, g3, d2, t2, os3⟩, _, .ref C, some d, rfl, J, kG, ge, hoe, ⟨rfl, rfl, fun ws hw => ?_⟩, rfl, rfl, na, rfl, bare2, raises_own T.exC T.tyC, q2⟩
      cases hw
      rfl
    | next => exact False.elim out
    | brk => exact False.elim out
    | cont => exact False.elim out
end
theorem ps_errN {X : Cx} {x f : Str} {C fI : Addr} {fd : FuncData} {k : Nat} {e : Expr} {ta : TA} {W : WX} {p pos pos2 : Pos} (T : ErrC X.prog X.w X.K X.mg X.base x f C fI fd) (hc : X.calm = true) (hr : Room k X.A) (hk : 2 ≤ k) (tk : L2N.Takes X W) (ha : PA X [e] ta) (hg : Gl X x := by rfl) (hdb : (x == ("__debug__" : Str)) = false := by decide)
    (he : starEach (e :: []) X.env = (false, eval e X.env) :: starEach [] X.env := by rfl) (hpl : (backTo pos (starEach [] X.env)).any (·.1) = false := by rfl) :
    PS X (.Raise (some (.Call (.Name x p) [e] [] pos)) none pos2) (fun _ σ H => tMkO C (spErr C f) [] ta σ H fun cls d H' => W cls d σ H') :=
  L2N.ps_raise hc tk (pmkN T.o T.i T.t T.F (hr.mono hk) T.b pass0 hg T.g ha hdb he hpl)
theorem ps_err2N {X : Cx} {x f g : Str} {C fI : Addr} {fd : FuncData} {k : Nat} {e e2 : Expr} {ta : TA} {W : WX} {p pos pos2 : Pos} (T : ErrC2 X.prog X.w X.K X.mg X.base x f g C fI fd) (hc : X.calm = true) (hr : Room k X.A) (hk : 2 ≤ k) (tk : L2N.Takes X W) (ha : PA X [e, e2] ta) (hg : Gl X x := by rfl) (hdb : (x == ("__debug__" : Str)) = false := by decide)
    (he : starEach (e :: [e2]) X.env = (false, eval e X.env) :: starEach [e2] X.env := by rfl) (hpl : (backTo pos (starEach [e2] X.env)).any (·.1) = false := by rfl) :
    PS X (.Raise (some (.Call (.Name x p) [e, e2] [] pos)) none pos2) (fun _ σ H => tMkO C (spErr2 C f g) [] ta σ H fun cls d H' => W cls d σ H') :=
  L2N.ps_raise hc tk (pmkN T.o T.i T.t T.F (hr.mono hk) T.b pass0 hg T.g ha hdb he hpl)
/-- such a class whose __init__ also runs while something is handled -/
structure ErrH (P : Program) (w : World) (K : PySem.W.Frag) (mg : Str → Option Value) (base : Heap) (x f : Str) (C fI : Addr) (fd : FuncData) : Prop extends ErrC P w K mg base x f C fI fd where
  FH : L2H.FnH P w K mg base CX0 1 fI fd ["self", f] (spErr C f)
theorem ps_errFrom {X : Cx} {x f : Str} {C fI : Addr} {fd : FuncData} {k : Nat} {e : Expr} {ta : TA} {W : WX} {j : Nat} {cpos p pos pos2 : Pos} (T : ErrH X.prog X.w X.K X.mg X.base x f C fI fd) (hot : L2H.HotC X) (room : L2H.RoomH k X.A) (hk : 2 ≤ k) (tk : L2.Takes X W) (ha : PA X [e] ta) (hg : Gl X x := by rfl) (hdb : (x == ("__debug__" : Str)) = false := by decide)
    (he : starEach (e :: []) X.env = (false, eval e X.env) :: starEach [] X.env := by rfl) (hpl : (backTo pos (starEach [] X.env)).any (·.1) = false := by rfl) :
    PS X (.Raise (some (.Call (.Name x p) [e] [] pos)) (some (.Constant .none j cpos)) pos2) (fun _ σ H => tMkO C (spErr C f) [] ta σ H fun cls d H' => W cls d σ H') :=
  L2H.ps_raiseHN hot tk (L2H.pmk5_oexH T.o T.i T.t T.FH (room.mono hk) hot T.b pass0 hg T.g ha hdb he hpl)
/-- an exception whose context is None is an exception -/
theorem CXN.plain {P : Program} {w : World} {outer : List Env} {H : Hp} {s : Shared} {E : XK} {u : Value} {s' : Shared} (h : L2N.CX P w outer H s E u s') : L2.CX P w outer H s E u s' := by
  obtain ⟨a, B, H', cls, d, e, fl, more⟩ := h
  exact ⟨a, B, H', cls, d, e, L2H.flyingZ_imp (fun _ z => z.zc) fl, more⟩
theorem liftN {P : Program} {w : World} {K : PySem.W.Frag} {mg : Str → Option Value} {base : Heap} {k : Nat} {f : Addr} {fd : FuncData} {ps : List Str} {sp : Sp} (F : FnOk P w K mg base (L2N.CX P w) k f fd ps sp) : FnOk P w K mg base (L2.CX P w) k f fd ps sp := by
  refine ⟨F.len, fun A out s H ar us vs Q E hr e0 hb r h => codeAny_mono (F.run A out s H ar us vs Q E hr e0 hb r h) fun r s' q => ?_⟩
  cases r with
  | error e => exact CXN.plain q
  | ok fl =>
    cases fl with
    | ret u => exact q
    | next => exact q
    | brk => exact q
    | cont => exact q
theorem Cal.liftN {P : Program} {w : World} {K : PySem.W.Frag} {mg : Str → Option Value} {base : Heap} {k : Nat} {x : Str} {ps : List Str} {sp : Sp} (c : Cal P w K mg base (L2N.CX P w) k x ps sp) : Cal P w K mg base (L2.CX P w) k x ps sp := by
  obtain ⟨f, fd, m, F, kp, b⟩ := c
  exact ⟨f, fd, m, LC.liftN F, kp, b⟩
end LC
namespace LC
open PySem PySem.Spec PyProof.Rows L2
/-- the names of a term: them and the place behind, or the place of the wrong word -/
def namesAtF (ws : List Str) (start : Nat) : Nat → Nat → List Str → Except Nat (List Str × Nat)
  | 0, i, _ => .error i
  | f + 1, i, acc => if fitsB ws start i = false then .error i else
    if ws[i + 1]? = some ("*" : Str) then (if (acc ++ [ws.getD i ""]).length = 3 then .error (i + 1) else namesAtF ws start f (i + 2) (acc ++ [ws.getD i ""])) else .ok (acc ++ [ws.getD i ""], i + 1)
/-- BadText(line, word) -/
def BadT (CT : Addr) (line : Int) (i : Nat) (cls : Value) (d : Option Addr) (H : Hp) : Prop := ∃ dd : Addr, d = some dd ∧ cls = .ref CT ∧ H dd = some (.xd [("word", .int (i : Int)), ("line", .int line)])
def WordsAt (H : Hp) (l : Addr) (ws : List Str) : Prop := H l = some (.lst (ws.map V.str)) ∧ ws.length ≤ 1000 ∧ ∀ z ∈ ws, z.length ≤ 100000
def spNamesAt (K : PySem.W.Frag) (CT : Addr) : Sp := fun vs H Q E => ∃ (l : Addr) (ws : List Str) (start at_ : Nat) (line : Int), vs = [.ref l, .int (start : Int), .int (at_ : Int), .int line] ∧ WordsAt H l ws ∧ start ≤ at_ ∧ at_ ≤ ws.length ∧
  match namesAtF ws start 3 at_ [] with
  | .ok r => ∀ (p t : Addr) (H' : Hp), Same H H' → SqT K H' p [.ref t, .int (r.2 : Int)] → SqT K H' t (r.1.map V.str) → Q (.ref p) H'
  | .error i => ∀ cls d H', Same H H' → BadT CT line i cls d H' → E cls d H'
section
variable {P : Program} {w : World} {K : PySem.W.Frag} {mg : Str → Option Value} {base : Heap}
abbrev s_names_at : Stmt := topS 28
theorem sc_names_at : FnScope ["words", "start", "at", "line", "names"] ["words", "start", "at", "line"] (defScope s_names_at) := ⟨rfl, rfl, rfl, by decide +kernel, rfl, by decide +kernel, by decide +kernel⟩
theorem ok_names_at {f CT fT : Addr} {fd fdT : FuncData} (T : Txt mg) (ET : ErrC2 P w K mg base "BadText" "line" "word" CT fT fdT) (F : FnP K "names_at" s_names_at f fd) (c_name_fits : Cal P w K mg base CX0 3 "name_fits" ["words", "start", "at"] spNameFits) : FnOk P w K mg base (L2N.CX P w) 4 f fd ["words", "start", "at", "line"] (spNamesAt K CT) := by
  have sc := sc_names_at
  refine F.ok sc (fun vs H Q E h => ?_) (fun cdv A outer s H vs Q E hr h => ?_)
  · obtain ⟨l, ws, st, i, line, rfl, _⟩ := h
    rfl
  · obtain ⟨l, ws, st, i0, line, rfl, ⟨hl, h3, hz⟩, h1, h2, q⟩ := h
    refine ⟨_, (pss_cons (ps_set (i := 4) sc.nd rfl (.inl rfl) (pe_lst pa_nil))
(pss_one (ps_while (passes_of rfl) (pt_val pe_bl)
  (pss_cons (ps_if (pt_not (pt_val (pe_cal c_name_fits hr (by rfl) pass0 (pa_cons (pv 0) (pa_cons (pv 1) (pa_cons (pv 2) pa_nil))))))
    (pss_one (ps_err2N ET rfl hr (by decide) (L2N.takes_of rfl rfl rfl rfl) (pa_cons (pv 3) (pa_cons (pv 2) pa_nil))))
    pss_nil)
  (pss_cons (ps_expr (pe_bm PySem.F.plainAttrs_list PySem.F.slot_list_append PySem.F.type_list_append mt_append (pv 4) (pa_cons (pe_ix ix_list (pv 0) (pv 2) (fun _ _ => rfl)) pa_nil)))
  (pss_cons (ps_set (i := 2) sc.nd rfl (.inl rfl) (pe_op op_add (pv 2) pe_int))
  (pss_cons (ps_if (PW.pt (pw_or (pt_cmpR op_eq (pv 2) (pe_callB call_len (by rfl) T.n_len (by decide +kernel) (pa_cons (pv 0) pa_nil)) (nomark _)) (pw_or1 (pt_cmpR op_ne (pe_ix ix_list (pv 0) (pv 2) (fun _ _ => rfl)) pe_str (nomark _)))))
    (pss_one (ps_ret (pe_tup (pa_cons (pe_callTy call_tuple_of (by rfl) T.n_tuple (by decide +kernel) (pa_cons (pv 4) pa_nil)) (pa_cons (pv 2) pa_nil)))))
    pss_nil)
  (pss_cons (ps_if (pt_cmpR op_eq (pe_callB call_len (by rfl) T.n_len (by decide +kernel) (pa_cons (pv 4) pa_nil)) (pe_gint T.g_MOST_TERM_NAMES) (nomark _))
    (pss_one (ps_err2N ET rfl hr (by decide) (L2N.takes_of rfl rfl rfl rfl) (pa_cons (pv 3) (pa_cons (pv 2) pa_nil))))
    pss_nil)
  (pss_one (ps_set (i := 2) sc.nd rfl (.inl rfl) (pe_op op_add (pv 2) pe_int))))))))))), ?_⟩
    refine ⟨szn 0, fun nl nnl => ?_⟩
    generalize hH0 : upd H nl _ = H0
    obtain ⟨s0, e0⟩ := alloc_eq nnl hH0
    refine ⟨fun m σ H' => ∃ (i : Nat) (acc : List Str), namesAtF ws st 3 i0 [] = namesAtF ws st m i acc ∧ acc.length + m = 3 ∧ 1 ≤ m ∧ i ≤ ws.length ∧ st ≤ i ∧ Same H H' ∧ H' nl = some (.lst (acc.map V.str)) ∧ σ = [some (.ref l), some (.int (st : Int)), some (.int (i : Int)), some (.int line), some (.ref nl)], ⟨3, i0, [], rfl, rfl, by decide, h2, h1, s0, e0, rfl⟩, ?_⟩
    rintro m σ H' ⟨i, acc, same, len, m1, il, si, sm, enl, rfl⟩
    refine ⟨true, rfl, iteT ?_⟩
    obtain ⟨m, rfl⟩ : ∃ k, m = k + 1 := ⟨m - 1, by omega⟩
    refine ⟨fun σ2 H2 => ∃ (i : Nat) (acc : List Str), namesAtF ws st 3 i0 [] = namesAtF ws st m i acc ∧ acc.length + m = 3 ∧ 1 ≤ m ∧ i ≤ ws.length ∧ st ≤ i ∧ Same H H2 ∧ H2 nl = some (.lst (acc.map V.str)) ∧ σ2 = [some (.ref l), some (.int (st : Int)), some (.int (i : Int)), some (.int line), some (.ref nl)], fun σ2 H2 h => ⟨m, Nat.lt_succ_self m, h⟩, ?_⟩
    have wrong : ∀ {k : Nat}, namesAtF ws st (m + 1) i acc = .error k → ∀ cls d H', Same H H' → BadT CT line k cls d H' → E cls d H' := fun e => by
      rw [same, e] at q
      exact q
    -- if not name_fits(words, start, at)
    refine ⟨.ref l, rfl, .int st, rfl, .int i, rfl, l, ws, st, i, rfl, sm _ _ hl, si, il, h3, hz, fun H1 s1 => ⟨_, rfl, ?_⟩⟩
    cases hf : fitsB ws st i with
    | false =>
      refine iteT ?_
      refine ⟨.int line, rfl, .int i, rfl, ?_⟩
      have e : namesAtF ws st (m + 1) i acc = .error i := if_pos hf
      exact err_of2 fun d H2 nd s2 ed => wrong e _ _ _ ((sm.trans s1).trans s2) ⟨d, rfl, rfl, ed⟩
    | true =>
      refine iteF ?_
      have lt : i < ws.length := by
        refine Nat.lt_of_not_le fun ge => ?_
        unfold fitsB at hf
        rw [List.getElem?_eq_none ge] at hf
        cases hf
      have hza : ws[i]? = some ws[i] := List.getElem?_eq_getElem lt
      generalize hzz : ws[i] = z at hza
      have hg : ws.getD i "" = z := by
        rw [List.getD_eq_getElem?_getD, hza]
        rfl
      have step : namesAtF ws st (m + 1) i acc = if ws[i + 1]? = some ("*" : Str) then (if (acc ++ [z]).length = 3 then .error (i + 1) else namesAtF ws st m (i + 2) (acc ++ [z])) else .ok (acc ++ [z], i + 1) := by
        show (if fitsB ws st i = false then _ else _) = _
        rw [if_neg (by rw [hf]; exact fun w => nomatch w), hg]
      have sm1 := sm.trans s1
      have enl1 := s1 _ _ enl
      have hl1 := sm1 _ _ hl
      have nlne : l ≠ nl := ne_of_none hl nnl
      -- names.append(words[at])
      refine ⟨.ref nl, rfl, .inl ⟨rfl, _, .inl (.inl enl1)⟩, .ref l, rfl, .int i, rfl, l, _, i, .str z, rfl, rfl, .of hl1, atI_nat (by rw [List.getElem?_map, hza]; rfl), nl, _, _, rfl, rfl, enl1, by rw [List.length_map]; exact sz_lt (by omega), ?_⟩
      generalize hH2 : upd H1 nl _ = H2
      have s2 : Same H H2 := fun b o e => by
        rw [← hH2, upd_ne (ne_of_none e nnl)]
        exact sm1 b o e
      have enl2 : H2 nl = some (.lst ((acc ++ [z]).map V.str)) := by
        rw [← hH2, upd_same, List.map_append]
        rfl
      have hl2 := s2 _ _ hl
      have right : ∀ {r : List Str × Nat}, namesAtF ws st (m + 1) i acc = .ok r → ∀ (p t : Addr) (H' : Hp), Same H H' → SqT K H' p [.ref t, .int (r.2 : Int)] → SqT K H' t (r.1.map V.str) → Q (.ref p) H' := fun e => by
        rw [same, e] at q
        exact q
      refine ⟨.int i, rfl, i, 1, rfl, rfl, ?_⟩
      -- if at == len(words) or words[at] != '*'
      refine ⟨.int ((i : Int) + 1), rfl, .ref l, rfl, .ref l, _, rfl, .inl ⟨_, .of hl2, rfl⟩, rfl, _, rfl, iteD (fun e => ?_) (fun e => ?_)⟩
      · have e1 : (i : Int) + 1 = ((ws.map V.str).length : Int) := V.int.inj e
        rw [List.length_map] at e1
        have oke : namesAtF ws st (m + 1) i acc = .ok (acc ++ [z], i + 1) := by
          rw [step, if_neg (by rw [List.getElem?_eq_none (by omega)]; exact fun w => nomatch w)]
        refine ⟨.ref nl, rfl, nl, _, rfl, .inl ⟨.of enl2, fun t nt => ?_⟩⟩
        generalize hH3 : upd H2 t _ = H3
        obtain ⟨s3, e3⟩ := alloc_eq nt hH3
        refine ⟨.int ((i : Int) + 1), rfl, szn 2, fun p np => ?_⟩
        generalize hH4 : upd H3 p _ = H4
        obtain ⟨s4, e4⟩ := alloc_eq np hH4
        exact right oke p t H4 ((s2.trans s3).trans s4) (.of e4) (.of (s4 _ _ e3))
      have lt1 : i + 1 < ws.length := by
        have : ¬ i + 1 = ws.length := fun w => e (by rw [List.length_map, ← w]; rfl)
        omega
      have hya : ws[i + 1]? = some ws[i + 1] := List.getElem?_eq_getElem lt1
      generalize hyy : ws[i + 1] = y at hya
      refine ⟨.ref l, rfl, .int ((i : Int) + 1), rfl, l, _, (i : Int) + 1, .str y, rfl, rfl, .of hl2, atI_nat (j := i + 1) (by rw [List.getElem?_map, hya]; rfl), rfl, _, rfl, iteND (fun ny => ?_) (fun ny => ?_)⟩
      · have oke : namesAtF ws st (m + 1) i acc = .ok (acc ++ [z], i + 1) := by
          rw [step, if_neg (by rw [hya]; exact fun w => ny (congrArg V.str (Option.some.inj w)))]
        refine ⟨.ref nl, rfl, nl, _, rfl, .inl ⟨.of enl2, fun t nt => ?_⟩⟩
        generalize hH3 : upd H2 t _ = H3
        obtain ⟨s3, e3⟩ := alloc_eq nt hH3
        refine ⟨.int ((i : Int) + 1), rfl, szn 2, fun p np => ?_⟩
        generalize hH4 : upd H3 p _ = H4
        obtain ⟨s4, e4⟩ := alloc_eq np hH4
        exact right oke p t H4 ((s2.trans s3).trans s4) (.of e4) (.of (s4 _ _ e3))
      have star : ws[i + 1]? = some ("*" : Str) := by rw [hya, V.str.inj ny]
      rw [if_pos star] at step
      -- if len(names) == MOST_TERM_NAMES
      refine ⟨.ref nl, rfl, .ref nl, _, rfl, .inl ⟨_, .of enl2, rfl⟩, rfl, _, rfl, iteD (fun e3 => ?_) (fun e3 => ?_)⟩
      · have e4 : (((acc ++ [z]).map V.str).length : Int) = 3 := V.int.inj e3
        rw [List.length_map] at e4
        have bad : namesAtF ws st (m + 1) i acc = .error (i + 1) := by rw [step, if_pos (by omega)]
        refine ⟨.int line, rfl, .int ((i : Int) + 1), rfl, ?_⟩
        exact err_of2 fun d H3 nd s3 ed => wrong bad _ _ _ (s2.trans s3) ⟨d, rfl, rfl, ed⟩
      · have ne3 : ¬ (acc ++ [z]).length = 3 := fun w => e3 (by rw [List.length_map, w]; rfl)
        rw [if_neg ne3] at step
        rw [List.length_append] at ne3
        have l1 : ([z] : List Str).length = 1 := rfl
        refine ⟨.int ((i : Int) + 1), rfl, _, 1, rfl, rfl, i + 2, acc ++ [z], same.trans step, ?_, ?_, by omega, by omega, s2, enl2, ?_⟩
        · rw [List.length_append]
          omega
        · omega
        · have e5 : (i : Int) + 1 + 1 = ((i + 2 : Nat) : Int) := by omega
          rw [← e5]
          rfl
end
end LC
namespace LC
open PySem PySem.Spec PyProof.Rows L2
def withF (f : Int) : Except Nat (List Str × Nat) → Except Nat (Term × Nat)
  | .ok r => .ok ((f, r.1), r.2)
  | .error i => .error i
/-- a term's words: the term and the place behind, or the place of the wrong word -/
def termAtF (ws : List Str) (start i : Nat) (sg : Str) : Except Nat (Term × Nat) := match ws[i]? with
  | none => .error i
  | some z => if nameB z = true then withF (if sg = "-" then -1 else 1) (namesAtF ws start 3 i []) else
    match facOf z sg with
    | none => .error i
    | some f => if ws[i + 1]? = some ("*" : Str) then (if z = "1" then .error (i + 1) else withF f (namesAtF ws start 3 (i + 2) [])) else .ok ((f, []), i + 1)
def spTermAt (K : PySem.W.Frag) (CT : Addr) : Sp := fun vs H Q E => ∃ (l : Addr) (ws : List Str) (start at_ : Nat) (sg : Str) (line : Int), vs = [.ref l, .int (start : Int), .int (at_ : Int), .str sg, .int line] ∧ WordsAt H l ws ∧ start ≤ at_ ∧ at_ ≤ ws.length ∧
  match termAtF ws start at_ sg with
  | .ok r => ∀ (p : Addr) (v : V) (H' : Hp), Same H H' → SqT K H' p [v, .int (r.2 : Int)] → TermV K H' v r.1 → Q (.ref p) H'
  | .error i => ∀ cls d H', Same H H' → BadT CT line i cls d H' → E cls d H'
section
variable {P : Program} {w : World} {K : PySem.W.Frag} {mg : Str → Option Value} {base : Heap}
abbrev s_term_at : Stmt := topS 27
theorem sc_term_at : FnScope ["words", "start", "at", "sign", "line", "factor", "names", "behind"] ["words", "start", "at", "sign", "line"] (defScope s_term_at) := ⟨rfl, rfl, rfl, by decide +kernel, rfl, by decide +kernel, by decide +kernel⟩
theorem ok_term_at {f CT fT : Addr} {fd fdT : FuncData} (T : Txt mg) (ET : ErrC2 P w K mg base "BadText" "line" "word" CT fT fdT) (F : FnP K "term_at" s_term_at f fd) (c_is_name : Cal P w K mg base CX0 4 "is_name" ["value"] (spIsName K)) (c_factor_of : Cal P w K mg base CX0 4 "factor_of" ["word", "sign"] spFactorOf)
    (c_names_at : Cal P w K mg base (L2N.CX P w) 4 "names_at" ["words", "start", "at", "line"] (spNamesAt K CT)) : FnOk P w K mg base (L2N.CX P w) 5 f fd ["words", "start", "at", "sign", "line"] (spTermAt K CT) := by
  have sc := sc_term_at
  refine F.ok sc (fun vs H Q E h => ?_) (fun cdv A outer s H vs Q E hr h => ?_)
  · obtain ⟨l, ws, st, i, sg, line, rfl, _⟩ := h
    rfl
  · obtain ⟨l, ws, st, i, sg, line, rfl, ⟨hl, h3, hz⟩, h1, h2, q⟩ := h
    refine ⟨_, (Evl.pss_cut (ps_if (PW.pt (pw_and (pt_cmpR op_lt (pv 2) (pe_callB call_len (by rfl) T.n_len (by decide +kernel) (pa_cons (pv 0) pa_nil)) (nomark _)) (pw_and1 (pt_val (pe_cal c_is_name hr (by rfl) pass0 (pa_cons (pe_ix ix_list (pv 0) (pv 2) (fun _ _ => rfl)) pa_nil))))))
  (Evl.pss_cut (ps_set (i := 5) sc.nd rfl (.inl rfl) (pe_ifExp (pt_cmpR op_eq (pv 3) pe_str (nomark _)) (pe_un un_neg pe_int) pe_int))
  (pss_cons (ps_asg (pe_cal c_names_at hr (by rfl) (L2N.passes_call (L2N.takes_of rfl rfl rfl rfl) fun _ _ _ _ h => h) (pa_cons (pv 0) (pa_cons (pv 1) (pa_cons (pv 2) (pa_cons (pv 4) pa_nil))))) (pg_tup rfl (pgs_cons (pg_name (i := 6) sc.nd rfl (.inl rfl)) (pgs_cons (pg_name (i := 7) sc.nd rfl (.inl rfl)) pgs_nil))))
  (pss_one (ps_ret (pe_tup (pa_cons (pe_tup (pa_cons (pv 5) (pa_cons (pv 6) pa_nil))) (pa_cons (pv 7) pa_nil)))))))
  pss_nil)
(Evl.pss_cut (ps_set (i := 5) sc.nd rfl (.inl rfl) (pe_ifExp (pt_cmpR op_eq (pv 2) (pe_callB call_len (by rfl) T.n_len (by decide +kernel) (pa_cons (pv 0) pa_nil)) (nomark _)) pe_non (pe_cal c_factor_of hr (by rfl) pass0 (pa_cons (pe_ix ix_list (pv 0) (pv 2) (fun _ _ => rfl)) (pa_cons (pv 3) pa_nil)))))
(pss_cons (ps_if (pt_cmpR op_isN (pv 5) pe_non (nomark _))
  (pss_one (ps_err2N ET rfl hr (by decide) (L2N.takes_of rfl rfl rfl rfl) (pa_cons (pv 4) (pa_cons (pv 2) pa_nil))))
  pss_nil)
(pss_cons (ps_set (i := 7) sc.nd rfl (.inl rfl) (pe_op op_add (pv 2) pe_int))
(pss_cons (ps_if (PW.pt (pw_or (pt_cmpR op_eq (pv 7) (pe_callB call_len (by rfl) T.n_len (by decide +kernel) (pa_cons (pv 0) pa_nil)) (nomark _)) (pw_or1 (pt_cmpR op_ne (pe_ix ix_list (pv 0) (pv 7) (fun _ _ => rfl)) pe_str (nomark _)))))
  (pss_one (ps_ret (pe_tup (pa_cons (pe_tup (pa_cons (pv 5) (pa_cons (pe_tup pa_nil) pa_nil))) (pa_cons (pv 7) pa_nil)))))
  pss_nil)
(pss_cons (ps_if (pt_cmpR op_eq (pe_ix ix_list (pv 0) (pv 2) (fun _ _ => rfl)) pe_str (nomark _))
  (pss_one (ps_err2N ET rfl hr (by decide) (L2N.takes_of rfl rfl rfl rfl) (pa_cons (pv 4) (pa_cons (pv 7) pa_nil))))
  pss_nil)
(pss_cons (ps_asg (pe_cal c_names_at hr (by rfl) (L2N.passes_call (L2N.takes_of rfl rfl rfl rfl) fun _ _ _ _ h => h) (pa_cons (pv 0) (pa_cons (pv 1) (pa_cons (pe_op op_add (pv 7) pe_int) (pa_cons (pv 4) pa_nil))))) (pg_tup rfl (pgs_cons (pg_name (i := 6) sc.nd rfl (.inl rfl)) (pgs_cons (pg_name (i := 7) sc.nd rfl (.inl rfl)) pgs_nil))))
(pss_one (ps_ret (pe_tup (pa_cons (pe_tup (pa_cons (pv 5) (pa_cons (pv 6) pa_nil))) (pa_cons (pv 7) pa_nil)))))))))))), ?_⟩
    have wrong : ∀ {k : Nat}, termAtF ws st i sg = .error k → ∀ cls d H', Same H H' → BadT CT line k cls d H' → E cls d H' := fun e => by
      rw [e] at q
      exact q
    have right : ∀ {r : Term × Nat}, termAtF ws st i sg = .ok r → ∀ (p : Addr) (v : V) (H' : Hp), Same H H' → SqT K H' p [v, .int (r.2 : Int)] → TermV K H' v r.1 → Q (.ref p) H' := fun e => by
      rw [e] at q
      exact q
    have sl : ∀ {v : Str} {y : Str}, v ∈ ws → V.str v = .str y → y.length ≤ 100000 := fun hv e => by
      cases e
      exact hz _ hv
    refine ⟨fun σ' H' => Same H H' ∧ (∀ z, ws[i]? = some z → nameB z = false) ∧ σ' = [some (.ref l), some (.int (st : Int)), some (.int (i : Int)), some (.str sg), some (.int line), none, none, none], ?_, ?_⟩
    · refine ⟨.int i, rfl, .ref l, rfl, .ref l, _, rfl, .inl ⟨_, .of hl, rfl⟩, i, _, rfl, rfl, _, rfl, iteD (fun e => ?_) (fun e => ?_)⟩
      · rw [List.length_map] at e
        have lt : i < ws.length := by omega
        obtain ⟨z, hza⟩ : ∃ z, ws[i]? = some z := ⟨_, List.getElem?_eq_getElem lt⟩
        refine ⟨.ref l, rfl, .int i, rfl, l, _, i, .str z, rfl, rfl, .of hl, atI_nat (by rw [List.getElem?_map, hza]; rfl), .str z, "str", rfl, by decide, .base (.str _), fun y e => sl (List.mem_of_getElem? hza) e, fun H1 s1 => ⟨_, rfl, ?_⟩⟩
        cases hn : isNameB (.str z) with
        | false =>
          refine iteF ?_
          exact ⟨s1, fun y hy => (by rw [hza] at hy; cases hy; exact hn), rfl⟩
        | true =>
          refine iteT ?_
          have hnb : nameB z = true := hn
          refine ⟨fun σ' H' => H' = H1 ∧ σ' = [some (.ref l), some (.int (st : Int)), some (.int (i : Int)), some (.str sg), some (.int line), some (.int (if sg = "-" then -1 else 1)), none, none], ?_, ?_⟩
          · refine ⟨.str sg, rfl, rfl, _, rfl, iteD (fun hm => ?_) (fun hm => ?_)⟩
            · refine ⟨1, rfl, rfl, ?_⟩
              rw [if_pos (V.str.inj hm)]
              rfl
            · refine ⟨rfl, ?_⟩
              rw [if_neg fun w => hm (congrArg V.str w)]
              rfl
          rintro σ' H' ⟨rfl, rfl⟩
          have tk : termAtF ws st i sg = withF (if sg = "-" then -1 else 1) (namesAtF ws st 3 i []) := by
            unfold termAtF
            rw [hza]
            exact if_pos hnb
          refine ⟨.ref l, rfl, .int st, rfl, .int i, rfl, .int line, rfl, l, ws, st, i, line, rfl, ⟨s1 _ _ hl, h3, hz⟩, h1, h2, ?_⟩
          cases hN : namesAtF ws st 3 (i) [] with
          | error k =>
            intro cls d H9 s9 bad
            exact wrong (by rw [tk, hN]; rfl) cls d H9 (s1.trans s9) bad
          | ok r =>
            intro p t H9 s9 hp ht
            refine ⟨p, _, rfl, hp, rfl, .ref t, [.int (r.2 : Int)], rfl, .int (r.2 : Int), [], rfl, rfl, ?_⟩
            refine ⟨.int (if sg = "-" then -1 else 1), rfl, .ref t, rfl, szn 2, fun a na => ?_⟩
            generalize hHa : upd H9 a _ = Ha
            obtain ⟨sa, ea⟩ := alloc_eq na hHa
            refine ⟨.int (r.2 : Int), rfl, szn 2, fun b nb => ?_⟩
            generalize hHb : upd Ha b _ = Hb
            obtain ⟨sb, eb⟩ := alloc_eq nb hHb
            exact right (r := ((if sg = "-" then -1 else 1, r.1), r.2)) (by rw [tk, hN]; rfl) b (.ref a) Hb (((s1.trans s9).trans sa).trans sb) (.of eb) ⟨a, t, rfl, .of (sb _ _ ea), sqt_same (sa.trans sb) ht⟩
      · rw [List.length_map] at e
        exact ⟨Same.refl H, fun z hy => (by rw [List.getElem?_eq_none (by omega)] at hy; cases hy), rfl⟩
    rintro σ' H1 ⟨s1, nn, rfl⟩
    have hl1 := s1 _ _ hl
    -- factor
    refine ⟨fun σ' H2 => Same H H2 ∧ σ' = [some (.ref l), some (.int (st : Int)), some (.int (i : Int)), some (.str sg), some (.int line), some (optV (ws[i]?.bind fun z => facOf z sg)), none, none], ?_, ?_⟩
    · refine ⟨.int i, rfl, .ref l, rfl, .ref l, _, rfl, .inl ⟨_, .of hl1, rfl⟩, rfl, _, rfl, iteD (fun e => ?_) (fun e => ?_)⟩
      · have e1 : (i : Int) = ((ws.map V.str).length : Int) := V.int.inj e
        rw [List.length_map] at e1
        refine ⟨s1, ?_⟩
        rw [List.getElem?_eq_none (by omega)]
        rfl
      · have lt : i < ws.length := by
          have : ¬ i = ws.length := fun w => e (by rw [List.length_map, w])
          omega
        obtain ⟨z, hza⟩ : ∃ z, ws[i]? = some z := ⟨_, List.getElem?_eq_getElem lt⟩
        refine ⟨.ref l, rfl, .int i, rfl, l, _, i, .str z, rfl, rfl, .of hl1, atI_nat (by rw [List.getElem?_map, hza]; rfl), .str sg, rfl, z, sg, rfl, hz z (List.mem_of_getElem? hza), fun H2 s2 => ⟨s1.trans s2, ?_⟩⟩
        rw [hza]
        rfl
    rintro σ' H2 ⟨s2, rfl⟩
    have hl2 := s2 _ _ hl
    cases hfz : (ws[i]?.bind fun z => facOf z sg) with
    | none =>
      refine ⟨.non, rfl, rfl, _, rfl, iteT ?_⟩
      have tk : termAtF ws st i sg = .error i := by
        unfold termAtF
        cases hza : ws[i]? with
        | none => rfl
        | some z =>
          have fz : facOf z sg = none := by
            rw [hza] at hfz
            exact hfz
          show (if nameB z = true then _ else _) = _
          rw [if_neg (by rw [nn z hza]; exact Bool.false_ne_true), fz]
      refine ⟨.int line, rfl, .int i, rfl, ?_⟩
      exact err_of2 fun d H3 nd s3 ed => wrong tk _ _ _ (s2.trans s3) ⟨d, rfl, rfl, ed⟩
    | some f0 =>
      refine ⟨.int f0, rfl, rfl, _, rfl, iteF ?_⟩
      obtain ⟨z, hza, fz⟩ : ∃ z, ws[i]? = some z ∧ facOf z sg = some f0 := by
        cases h : ws[i]? with
        | none =>
          rw [h] at hfz
          cases hfz
        | some z =>
          rw [h] at hfz
          exact ⟨z, rfl, hfz⟩
      have lt : i < ws.length := (List.getElem?_eq_some_iff.mp hza).1
      have tk : termAtF ws st i sg = if ws[i + 1]? = some ("*" : Str) then (if z = "1" then .error (i + 1) else withF f0 (namesAtF ws st 3 (i + 2) [])) else .ok ((f0, []), i + 1) := by
        unfold termAtF
        rw [hza]
        show (if nameB z = true then _ else _) = _
        rw [if_neg (by rw [nn z hza]; exact Bool.false_ne_true), fz]
      refine ⟨.int i, rfl, i, 1, rfl, rfl, ?_⟩
      refine ⟨.int ((i : Int) + 1), rfl, .ref l, rfl, .ref l, _, rfl, .inl ⟨_, .of hl2, rfl⟩, rfl, _, rfl, iteD (fun e => ?_) (fun e => ?_)⟩
      · have e1 : (i : Int) + 1 = ((ws.map V.str).length : Int) := V.int.inj e
        rw [List.length_map] at e1
        have oke : termAtF ws st i sg = .ok ((f0, []), i + 1) := by
          rw [tk, if_neg (by rw [List.getElem?_eq_none (by omega)]; exact fun w => nomatch w)]
        refine ⟨.int f0, rfl, szn 0, fun en nen => ?_⟩
        generalize hHe : upd H2 en _ = He
        obtain ⟨se, ee⟩ := alloc_eq nen hHe
        refine ⟨szn 2, fun a na => ?_⟩
        generalize hHa : upd He a _ = Ha
        obtain ⟨sa, ea⟩ := alloc_eq na hHa
        refine ⟨.int ((i : Int) + 1), rfl, szn 2, fun b nb => ?_⟩
        generalize hHb : upd Ha b _ = Hb
        obtain ⟨sb, eb⟩ := alloc_eq nb hHb
        exact right oke b (.ref a) Hb (((s2.trans se).trans sa).trans sb) (.of eb) ⟨a, en, rfl, .of (sb _ _ ea), .of (sb _ _ (sa _ _ ee))⟩
      have lt1 : i + 1 < ws.length := by
        have : ¬ i + 1 = ws.length := fun w => e (by rw [List.length_map, ← w]; rfl)
        omega
      have hya : ws[i + 1]? = some ws[i + 1] := List.getElem?_eq_getElem lt1
      generalize hyy : ws[i + 1] = y at hya
      refine ⟨.ref l, rfl, .int ((i : Int) + 1), rfl, l, _, (i : Int) + 1, .str y, rfl, rfl, .of hl2, atI_nat (j := i + 1) (by rw [List.getElem?_map, hya]; rfl), rfl, _, rfl, iteND (fun ny => ?_) (fun ny => ?_)⟩
      · have oke : termAtF ws st i sg = .ok ((f0, []), i + 1) := by
          rw [tk, if_neg (by rw [hya]; exact fun w => ny (congrArg V.str (Option.some.inj w)))]
        refine ⟨.int f0, rfl, szn 0, fun en nen => ?_⟩
        generalize hHe : upd H2 en _ = He
        obtain ⟨se, ee⟩ := alloc_eq nen hHe
        refine ⟨szn 2, fun a na => ?_⟩
        generalize hHa : upd He a _ = Ha
        obtain ⟨sa, ea⟩ := alloc_eq na hHa
        refine ⟨.int ((i : Int) + 1), rfl, szn 2, fun b nb => ?_⟩
        generalize hHb : upd Ha b _ = Hb
        obtain ⟨sb, eb⟩ := alloc_eq nb hHb
        exact right oke b (.ref a) Hb (((s2.trans se).trans sa).trans sb) (.of eb) ⟨a, en, rfl, .of (sb _ _ ea), .of (sb _ _ (sa _ _ ee))⟩
      have star : ws[i + 1]? = some ("*" : Str) := by rw [hya, V.str.inj ny]
      rw [if_pos star] at tk
      -- if words[at] == '1'
      refine ⟨.ref l, rfl, .int i, rfl, l, _, i, .str z, rfl, rfl, .of hl2, atI_nat (by rw [List.getElem?_map, hza]; rfl), rfl, _, rfl, iteD (fun e3 => ?_) (fun e3 => ?_)⟩
      · have bad : termAtF ws st i sg = .error (i + 1) := by rw [tk, if_pos (V.str.inj e3)]
        refine ⟨.int line, rfl, .int ((i : Int) + 1), rfl, ?_⟩
        exact err_of2 fun d H3 nd s3 ed => wrong bad _ _ _ (s2.trans s3) ⟨d, rfl, rfl, ed⟩
      · rw [if_neg fun w => e3 (congrArg V.str w)] at tk
        have e5 : (i : Int) + 1 + 1 = ((i + 2 : Nat) : Int) := by omega
        refine ⟨.ref l, rfl, .int st, rfl, .int ((i : Int) + 1), rfl, (i : Int) + 1, 1, rfl, rfl, .int line, rfl, l, ws, st, i + 2, line, by rw [← e5], ⟨hl2, h3, hz⟩, by omega, by omega, ?_⟩
        cases hN : namesAtF ws st 3 (i + 2) [] with
        | error k =>
          intro cls d H9 s9 bad
          exact wrong (by rw [tk, hN]; rfl) cls d H9 (s2.trans s9) bad
        | ok r =>
          intro p t H9 s9 hp ht
          refine ⟨p, _, rfl, hp, rfl, .ref t, [.int (r.2 : Int)], rfl, .int (r.2 : Int), [], rfl, rfl, ?_⟩
          refine ⟨.int f0, rfl, .ref t, rfl, szn 2, fun a na => ?_⟩
          generalize hHa : upd H9 a _ = Ha
          obtain ⟨sa, ea⟩ := alloc_eq na hHa
          refine ⟨.int (r.2 : Int), rfl, szn 2, fun b nb => ?_⟩
          generalize hHb : upd Ha b _ = Hb
          obtain ⟨sb, eb⟩ := alloc_eq nb hHb
          exact right (r := ((f0, r.1), r.2)) (by rw [tk, hN]; rfl) b (.ref a) Hb (((s2.trans s9).trans sa).trans sb) (.of eb) ⟨a, t, rfl, .of (sb _ _ ea), sqt_same (sa.trans sb) ht⟩
end
end LC
namespace LC
open PySem PySem.Spec PyProof.Rows L2
theorem fits_lt {ws : List Str} {st i : Nat} (h : ¬ fitsB ws st i = false) : i < ws.length := by
  refine Nat.lt_of_not_le fun ge => h ?_
  unfold fitsB
  rw [List.getElem?_eq_none ge]
theorem namesAt_behind {ws : List Str} {st : Nat} : ∀ (f i : Nat) (acc : List Str) (r : List Str × Nat), namesAtF ws st f i acc = .ok r → i < r.2 ∧ r.2 ≤ ws.length
  | 0, _, _, _, h => nomatch h
  | f + 1, i, acc, r, h => by
    unfold namesAtF at h
    by_cases hf : fitsB ws st i = false
    · rw [if_pos hf] at h
      cases h
    · rw [if_neg hf] at h
      have lt := fits_lt hf
      by_cases hs : ws[i + 1]? = some ("*" : Str)
      · rw [if_pos hs] at h
        by_cases h3 : (acc ++ [ws.getD i ""]).length = 3
        · rw [if_pos h3] at h
          cases h
        · rw [if_neg h3] at h
          have := namesAt_behind f (i + 2) _ r h
          omega
      · rw [if_neg hs] at h
        cases h
        exact ⟨Nat.lt_succ_self i, lt⟩
theorem withF_ok {f : Int} {e : Except Nat (List Str × Nat)} {r : Term × Nat} (h : withF f e = .ok r) : ∃ q, e = .ok q ∧ r = ((f, q.1), q.2) := by
  cases e with
  | error k => cases h
  | ok q => exact ⟨q, rfl, by cases h; rfl⟩
theorem termAt_behind {ws : List Str} {st i : Nat} {sg : Str} {r : Term × Nat} (h : termAtF ws st i sg = .ok r) : i < r.2 ∧ r.2 ≤ ws.length := by
  unfold termAtF at h
  cases hz : ws[i]? with
  | none =>
    rw [hz] at h
    cases h
  | some z =>
    rw [hz] at h
    have lt := (List.getElem?_eq_some_iff.mp hz).1
    by_cases hn : nameB z = true
    · have h : withF (if sg = "-" then -1 else 1) (namesAtF ws st 3 i []) = .ok r := by
        have h2 : (if nameB z = true then withF (if sg = "-" then -1 else 1) (namesAtF ws st 3 i []) else _) = .ok r := h
        rwa [if_pos hn] at h2
      obtain ⟨q, e, rfl⟩ := withF_ok h
      exact namesAt_behind 3 i [] q e
    · have h2 : (if nameB z = true then withF (if sg = "-" then -1 else 1) (namesAtF ws st 3 i []) else _) = .ok r := h
      rw [if_neg hn] at h2
      cases hf : facOf z sg with
      | none =>
        rw [hf] at h2
        cases h2
      | some f =>
        rw [hf] at h2
        have h3 : (if ws[i + 1]? = some ("*" : Str) then (if z = "1" then .error (i + 1) else withF f (namesAtF ws st 3 (i + 2) [])) else .ok ((f, []), i + 1) : Except Nat (Term × Nat)) = .ok r := h2
        by_cases hs : ws[i + 1]? = some ("*" : Str)
        · rw [if_pos hs] at h3
          by_cases h1 : z = "1"
          · rw [if_pos h1] at h3
            cases h3
          · rw [if_neg h1] at h3
            obtain ⟨q, e, rfl⟩ := withF_ok h3
            have := namesAt_behind 3 (i + 2) [] q e
            show i < q.2 ∧ q.2 ≤ ws.length
            omega
        · rw [if_neg hs] at h3
          cases h3
          exact ⟨Nat.lt_succ_self i, lt⟩
/-- all terms of the words from start on, or the place of the wrong word -/
def termsOfF (ws : List Str) (start : Nat) : Nat → Nat → Str → List Term → Except Nat (List Term)
  | 0, i, _, _ => .error i
  | f + 1, i, sg, acc => match termAtF ws start i sg with
    | .error k => .error k
    | .ok r => match ws[r.2]? with
      | none => .ok (acc ++ [r.1])
      | some s => if (¬ (s = "+" ∨ s = "-")) ∨ (acc ++ [r.1]).length = 4 then .error r.2 else termsOfF ws start f (r.2 + 1) s (acc ++ [r.1])
def spTermsOf (K : PySem.W.Frag) (CT : Addr) : Sp := fun vs H Q E => ∃ (l : Addr) (ws : List Str) (start : Nat) (line : Int), vs = [.ref l, .int (start : Int), .int line] ∧ WordsAt H l ws ∧ start ≤ ws.length ∧
  match termsOfF ws start 4 start "=" [] with
  | .ok ts => ∀ (p : Addr) (us : List V) (H' : Hp), Same H H' → H' p = some (.lst us) → TermsV K H' us ts → Q (.ref p) H'
  | .error i => ∀ cls d H', Same H H' → BadT CT line i cls d H' → E cls d H'
section
variable {P : Program} {w : World} {K : PySem.W.Frag} {mg : Str → Option Value} {base : Heap}
abbrev s_terms_of : Stmt := topS 26
theorem sc_terms_of : FnScope ["words", "start", "line", "terms", "sign", "at", "term"] ["words", "start", "line"] (defScope s_terms_of) := ⟨rfl, rfl, rfl, by decide +kernel, rfl, by decide +kernel, by decide +kernel⟩
theorem ok_terms_of {f CT fT : Addr} {fd fdT : FuncData} (T : Txt mg) (ET : ErrC2 P w K mg base "BadText" "line" "word" CT fT fdT) (F : FnP K "terms_of" s_terms_of f fd)
    (c_term_at : Cal P w K mg base (L2N.CX P w) 5 "term_at" ["words", "start", "at", "sign", "line"] (spTermAt K CT)) : FnOk P w K mg base (L2N.CX P w) 6 f fd ["words", "start", "line"] (spTermsOf K CT) := by
  have sc := sc_terms_of
  refine F.ok sc (fun vs H Q E h => ?_) (fun cdv A outer s H vs Q E hr h => ?_)
  · obtain ⟨l, ws, st, line, rfl, _⟩ := h
    rfl
  · obtain ⟨l, ws, st, line, rfl, ⟨hl, h3, hz⟩, h2, q⟩ := h
    refine ⟨_, (pss_cons (ps_set (i := 3) sc.nd rfl (.inl rfl) (pe_lst pa_nil))
(pss_cons (ps_set (i := 4) sc.nd rfl (.inl rfl) pe_str)
(pss_cons (ps_set (i := 5) sc.nd rfl (.inl rfl) (pv 1))
(pss_one (ps_while (passes_of rfl) (pt_val pe_bl)
  (pss_cons (ps_asg (pe_cal c_term_at hr (by rfl) (L2N.passes_call (L2N.takes_of rfl rfl rfl rfl) fun _ _ _ _ h => h) (pa_cons (pv 0) (pa_cons (pv 1) (pa_cons (pv 5) (pa_cons (pv 4) (pa_cons (pv 2) pa_nil)))))) (pg_tup rfl (pgs_cons (pg_name (i := 6) sc.nd rfl (.inl rfl)) (pgs_cons (pg_name (i := 5) sc.nd rfl (.inl rfl)) pgs_nil))))
  (pss_cons (ps_expr (pe_bm PySem.F.plainAttrs_list PySem.F.slot_list_append PySem.F.type_list_append mt_append (pv 3) (pa_cons (pv 6) pa_nil)))
  (pss_cons (ps_if (pt_cmpR op_eq (pv 5) (pe_callB call_len (by rfl) T.n_len (by decide +kernel) (pa_cons (pv 0) pa_nil)) (nomark _))
    (pss_one (ps_ret (pv 3)))
    pss_nil)
  (pss_cons (ps_set (i := 4) sc.nd rfl (.inl rfl) (pe_ix ix_list (pv 0) (pv 5) (fun _ _ => rfl)))
  (pss_cons (ps_if (PW.pt (pw_or (pt_cmpR op_notIn_seq (pv 4) (pe_tup (pa_cons pe_str (pa_cons pe_str pa_nil))) (by rfl)) (pw_or1 (pt_cmpR op_eq (pe_callB call_len (by rfl) T.n_len (by decide +kernel) (pa_cons (pv 3) pa_nil)) (pe_gint T.g_MOST_TERMS) (nomark _)))))
    (pss_one (ps_err2N ET rfl hr (by decide) (L2N.takes_of rfl rfl rfl rfl) (pa_cons (pv 2) (pa_cons (pv 5) pa_nil))))
    pss_nil)
  (pss_one (ps_set (i := 5) sc.nd rfl (.inl rfl) (pe_op op_add (pv 5) pe_int))))))))))))), ?_⟩
    refine ⟨szn 0, fun nl nnl => ?_⟩
    generalize hH0 : upd H nl _ = H0
    obtain ⟨s0, e0⟩ := alloc_eq nnl hH0
    refine ⟨.int st, rfl, ?_⟩
    refine ⟨fun m σ H' => ∃ (i : Nat) (sg : Str) (acc : List Term) (us : List V) (tm : Option V), termsOfF ws st 4 st "=" [] = termsOfF ws st m i sg acc ∧ acc.length + m = 4 ∧ 1 ≤ m ∧ i ≤ ws.length ∧ st ≤ i ∧ Same H H' ∧ H' nl = some (.lst us) ∧ TermsV K H' us acc ∧ σ = [some (.ref l), some (.int (st : Int)), some (.int line), some (.ref nl), some (.str sg), some (.int (i : Int)), tm], ⟨4, st, "=", [], [], none, rfl, rfl, by decide, h2, Nat.le_refl _, s0, e0, .nil, rfl⟩, ?_⟩
    rintro m σ H' ⟨i, sg, acc, us, tm, same, len, m1, il, si, sm, enl, hts, rfl⟩
    refine ⟨true, rfl, iteT ?_⟩
    obtain ⟨m, rfl⟩ : ∃ k, m = k + 1 := ⟨m - 1, by omega⟩
    refine ⟨fun σ2 H2 => ∃ (i : Nat) (sg : Str) (acc : List Term) (us : List V) (tm : Option V), termsOfF ws st 4 st "=" [] = termsOfF ws st m i sg acc ∧ acc.length + m = 4 ∧ 1 ≤ m ∧ i ≤ ws.length ∧ st ≤ i ∧ Same H H2 ∧ H2 nl = some (.lst us) ∧ TermsV K H2 us acc ∧ σ2 = [some (.ref l), some (.int (st : Int)), some (.int line), some (.ref nl), some (.str sg), some (.int (i : Int)), tm], fun σ2 H2 h => ⟨m, Nat.lt_succ_self m, h⟩, ?_⟩
    have wrong : ∀ {k : Nat}, termsOfF ws st (m + 1) i sg acc = .error k → ∀ cls d H', Same H H' → BadT CT line k cls d H' → E cls d H' := fun e => by
      rw [same, e] at q
      exact q
    have right : ∀ {ts : List Term}, termsOfF ws st (m + 1) i sg acc = .ok ts → ∀ (p : Addr) (us : List V) (H' : Hp), Same H H' → H' p = some (.lst us) → TermsV K H' us ts → Q (.ref p) H' := fun e => by
      rw [same, e] at q
      exact q
    refine ⟨.ref l, rfl, .int st, rfl, .int i, rfl, .str sg, rfl, .int line, rfl, l, ws, st, i, sg, line, rfl, ⟨sm _ _ hl, h3, hz⟩, si, il, ?_⟩
    cases hT : termAtF ws st i sg with
    | error k =>
      have e : termsOfF ws st (m + 1) i sg acc = .error k := by
        unfold termsOfF
        rw [hT]
      intro cls d H9 s9 bad
      exact wrong e cls d H9 (sm.trans s9) bad
    | ok r =>
      intro p v H9 s9 hp hv
      obtain ⟨b1, b2⟩ := termAt_behind hT
      refine ⟨p, _, rfl, hp, rfl, v, [.int (r.2 : Int)], rfl, .int (r.2 : Int), [], rfl, rfl, ?_⟩
      have enl9 := s9 _ _ enl
      have sm9 := sm.trans s9
      have lu : us.length = acc.length := hts.length
      -- terms.append(term)
      refine ⟨.ref nl, rfl, .inl ⟨rfl, _, .inl (.inl enl9)⟩, v, rfl, nl, _, _, rfl, rfl, enl9, sz_lt (by omega), ?_⟩
      generalize hH2 : upd H9 nl _ = H2
      have k2 : But nl H9 H2 := by
        rw [← hH2]
        exact .set
      have s2 : Same H H2 := fun b o e => by
        rw [← hH2, upd_ne (ne_of_none e nnl)]
        exact sm9 b o e
      have enl2 : H2 nl = some (.lst (us ++ [v])) := by
        rw [← hH2]
        exact upd_same
      have hts2 : TermsV K H2 (us ++ [v]) (acc ++ [r.1]) := ((hts.same s9).but k2 enl9).snoc (hv.but k2 enl9)
      have hl2 := s2 _ _ hl
      -- if at == len(words)
      refine ⟨.int (r.2 : Int), rfl, .ref l, rfl, .ref l, _, rfl, .inl ⟨_, .of hl2, rfl⟩, rfl, _, rfl, iteD (fun e => ?_) (fun e => ?_)⟩
      · have e1 : (r.2 : Int) = ((ws.map V.str).length : Int) := V.int.inj e
        rw [List.length_map] at e1
        have e2 : termsOfF ws st (m + 1) i sg acc = .ok (acc ++ [r.1]) := by
          unfold termsOfF
          rw [hT]
          show (match ws[r.2]? with | none => _ | some s => _ : Except Nat (List Term)) = _
          rw [List.getElem?_eq_none (by omega)]
        exact ⟨_, rfl, right e2 nl _ H2 s2 enl2 hts2⟩
      have lt : r.2 < ws.length := by
        have : ¬ r.2 = ws.length := fun w => e (by rw [List.length_map, w])
        omega
      obtain ⟨s, hs⟩ : ∃ s, ws[r.2]? = some s := ⟨_, List.getElem?_eq_getElem lt⟩
      have step : termsOfF ws st (m + 1) i sg acc = if (¬ (s = "+" ∨ s = "-")) ∨ (acc ++ [r.1]).length = 4 then .error r.2 else termsOfF ws st m (r.2 + 1) s (acc ++ [r.1]) := by
        conv => lhs; unfold termsOfF
        rw [hT]
        show (match ws[r.2]? with | none => _ | some s => _ : Except Nat (List Term)) = _
        rw [hs]
      -- sign = words[at]
      refine ⟨.ref l, rfl, .int (r.2 : Int), rfl, l, _, (r.2 : Int), .str s, rfl, rfl, .of hl2, atI_nat (by rw [List.getElem?_map, hs]; rfl), ?_⟩
      refine ⟨.str s, rfl, szn 2, fun tp ntp => ?_⟩
      generalize hH3 : upd H2 tp _ = H3
      obtain ⟨s3, e3⟩ := alloc_eq ntp hH3
      refine ⟨tp, _, rfl, .inr (.of e3), rfl, rfl, _, rfl, ?_⟩
      have isin : (if true = true then !inV (.str s) [.str "+", .str "-"] else inV (.str s) [.str "+", .str "-"]) = !decide (s = "+" ∨ s = "-") := by
        rw [if_pos rfl]
        have e5 : inV (.str s) ([("+" : Str), "-"].map V.str) = decide (s ∈ [("+" : Str), "-"]) := inV_str s _
        have e6 : decide (s ∈ [("+" : Str), "-"]) = decide (s = "+" ∨ s = "-") := decide_eq_decide.mpr (by simp)
        rw [← e6, ← e5]
        rfl
      rw [isin]
      refine iteND (fun ns => ?_) (fun ns => ?_)
      · have e7 : termsOfF ws st (m + 1) i sg acc = .error r.2 := by rw [step, if_pos (.inl ns)]
        refine iteT ?_
        refine ⟨.int line, rfl, .int (r.2 : Int), rfl, ?_⟩
        exact err_of2 fun d H4 nd s4 ed => wrong e7 _ _ _ ((s2.trans s3).trans s4) ⟨d, rfl, rfl, ed⟩
      · refine ⟨.ref nl, rfl, .ref nl, _, rfl, .inl ⟨_, .of (s3 _ _ enl2), rfl⟩, rfl, _, rfl, iteD (fun e8 => ?_) (fun e8 => ?_)⟩
        · have e9 : ((us ++ [v]).length : Int) = 4 := V.int.inj e8
          have l2 : (us ++ [v]).length = (acc ++ [r.1]).length := hts2.length
          have e7 : termsOfF ws st (m + 1) i sg acc = .error r.2 := by rw [step, if_pos (.inr (by omega))]
          refine ⟨.int line, rfl, .int (r.2 : Int), rfl, ?_⟩
          exact err_of2 fun d H4 nd s4 ed => wrong e7 _ _ _ ((s2.trans s3).trans s4) ⟨d, rfl, rfl, ed⟩
        · have l2 : (us ++ [v]).length = (acc ++ [r.1]).length := hts2.length
          have n4 : ¬ (acc ++ [r.1]).length = 4 := fun w => e8 (by rw [l2, w]; rfl)
          have st2 : termsOfF ws st (m + 1) i sg acc = termsOfF ws st m (r.2 + 1) s (acc ++ [r.1]) := by
            rw [step, if_neg]
            rintro (w | w)
            · exact w ns
            · exact n4 w
          rw [List.length_append] at n4
          have l1 : ([r.1] : List Term).length = 1 := rfl
          refine ⟨.int (r.2 : Int), rfl, _, 1, rfl, rfl, r.2 + 1, s, acc ++ [r.1], us ++ [v], _, same.trans st2, ?_, ?_, by omega, by omega, s2.trans s3, s3 _ _ enl2, hts2.same s3, rfl⟩
          · rw [List.length_append]
            omega
          · omega
end
end LC
/-! LcG: defs that ask that no repr is under way (they call repr), up to the law's end. -/
namespace LC
open PySem PySem.Spec PyProof.Rows L2
/-- a promise that is kept where no repr is under way -/
structure GOk (P : Program) (w : World) (K : PySem.W.Frag) (mg : Str → Option Value) (base : Heap) (CX : CXT) (k : Nat) (f : Addr) (fd : FuncData) (ps : List Str) (sp : Sp) : Prop where
  ar : ∀ vs H Q E, sp vs H Q E → vs.length = ps.length
  go : ∀ (A : Around) (out : List Env) (s : Shared) (H : Hp) (ar : Args) (us : List Value) (vs : List V) (Q : VK) (E : XK), A.guards = some [] → Room k A → Env0 P w K mg base A out s H → BindsTo s fd ar (ps.zip us) → Vals vs us → sp vs H Q E →
    codeAny (model P w) A (.call (.ref f) ar) (CR CX out P w H s Q E) s
theorem GOk.of {P : Program} {w : World} {K : PySem.W.Frag} {mg : Str → Option Value} {base : Heap} {CX : CXT} {k : Nat} {f : Addr} {fd : FuncData} {ps : List Str} {sp : Sp} (F : FnOk P w K mg base CX k f fd ps sp) : GOk P w K mg base CX k f fd ps sp :=
  ⟨F.len, fun A out s H ar us vs Q E _ hr e0 hb r h => F.run A out s H ar us vs Q E hr e0 hb r h⟩
theorem GOk.mono {P : Program} {w : World} {K : PySem.W.Frag} {mg : Str → Option Value} {base : Heap} {CX : CXT} {j k : Nat} {f : Addr} {fd : FuncData} {ps : List Str} {sp : Sp} (F : GOk P w K mg base CX j f fd ps sp) (h : j ≤ k) : GOk P w K mg base CX k f fd ps sp :=
  ⟨F.ar, fun A out s H ar us vs Q E g hr => F.go A out s H ar us vs Q E g (hr.mono h)⟩
/-- the rule for such a def -/
theorem g_ofE {P : Program} {w : World} {K : PySem.W.Frag} {mg : Str → Option Value} {base : Heap} {CX : CXT} {k : Nat} {f : Addr} {fd : FuncData} {x qual : Str} {params : Arguments} {body : List Stmt} {scope : Scope} {dvs : List V} {kws : List (Str × V)} {N ps : List Str} {sp : Sp}
    (F : FunD K x qual params body scope dvs kws f fd) (S : FnScope N ps scope) (ar : ∀ vs H Q E, sp vs H Q E → vs.length = ps.length)
    (hb : ∀ (cdv : Value) (A : Around) (out : List Env) (s : Shared) (H : Hp) (vs : List V) (Q : VK) (E : XK), fd.code = cdv → A.guards = some [] → Room k (A.deeper (envOfC qual scope s.heap.objs.size f cdv)) → sp vs H Q E →
      ∃ t, PSs (cxOf CX P w K mg base N qual scope f cdv A out s H E) body t ∧ t { nx := fun _ H' => Q .non H', rt := Q } (start N vs) H) : GOk P w K mg base CX (k + 1) f fd ps sp := by
  obtain ⟨oc, od, dV, kV, doc, pm, an, cdv, ct, osl, rfl, lk, hcd, _, _⟩ := F.ex
  refine ⟨ar, fun A out s H args us vs Q E hg hr e0 hbi r hsp => ?_⟩
  have kin : K.In s.heap := e0.mod.kin.keeps fun b o e => And.left (e0.bs b o e)
  have nol : s.heap.NoLimit := e0.mod.nolimit.keeps fun b o e => And.left (e0.bs b o e)
  have kinds : ∀ y ∈ ps.zip us, scope.names.lookup y.1 = some .local ∨ (scope.names.lookup y.1 = some .cell ∧ ((cellsFrom (s.heap.objs.size + 1) scope.names []).lookup y.1).isSome = true) := by
    intro y hy
    have hm := (List.of_mem_zip (a := y.1) (b := y.2) hy).1
    cases S.par y.1 hm with
    | inl q => exact Or.inl q
    | inr q => exact Or.inr ⟨q, PySem.W.cellsFrom_some _ _ _ (Or.inl q)⟩
  refine codeAny_call_function hr.depth (kin _ _ lk) rfl S.co S.gen rfl (PySem.W.codeRec_of kin hcd) (hbi _ _ _ _ ?_)
  refine wpAny_newFunctionEnv_cells S.kind kinds fun env he s1 x1 => ?_
  cases he
  refine ⟨nol.keeps x1.toInCall.keep, codeAny_func ?_⟩
  obtain ⟨t, ht, hq⟩ := hb cdv A out s H vs Q E rfl hg (hr.deeper _) hsp
  have I0 := inv_start (CX := CX) (P := P) (E := E) (cd := cdv) S hr.hd e0 (ar _ _ _ _ hsp) r x1
  have fin : ∀ (s' : Shared) (σ' : L2.St) (H' : Hp) (v : V) (u : Value), Inv (cxOf CX P w K mg base N qual scope f cdv A out s H E) [] σ' H' s' → RelV v u → Q v H' → CE out P w H s Q u s' :=
    fun s' σ' H' v u J rv q => ⟨v, H', J.os, J.bare, J.base, J.hok, rv, q⟩
  refine wpAny_mono (ht.run [] s1 (start N vs) H _ I0 hq) (fun fl s' hs => ?_) (fun _ _ z => z)
  match fl, hs with
  | .ret u, hs =>
    obtain ⟨v, σ', H', J, rv, q⟩ := hs
    exact fin s' σ' H' v u J rv q
  | .next, hs =>
    obtain ⟨σ', H', J, q⟩ := hs
    exact fin s' σ' H' .non .none J rfl q
  | .brk, hs => exact (hs.choose_spec.choose_spec.2 : False).elim
  | .cont, hs => exact (hs.choose_spec.choose_spec.2 : False).elim
theorem g_of {P : Program} {w : World} {K : PySem.W.Frag} {mg : Str → Option Value} {base : Heap} {CX : CXT} {k : Nat} {f : Addr} {fd : FuncData} {x qual : Str} {params : Arguments} {body : List Stmt} {scope : Scope} {dvs : List V} {kws : List (Str × V)} {N ps : List Str} {sp : Sp}
    (F : FunD K x qual params body scope dvs kws f fd) (S : FnScope N ps scope) (ar : ∀ vs H Q E, sp vs H Q E → vs.length = ps.length)
    (hb : ∀ (cdv : Value) (A : Around) (out : List Env) (s : Shared) (H : Hp) (vs : List V) (Q : VK) (E : XK), A.guards = some [] → Room k (A.deeper (envOfC qual scope s.heap.objs.size f cdv)) → sp vs H Q E →
      ∃ t, PSs (cxOf CX P w K mg base N qual scope f cdv A out s H E) body t ∧ t { nx := fun _ H' => Q .non H', rt := Q } (start N vs) H) : GOk P w K mg base CX (k + 1) f fd ps sp :=
  g_ofE F S ar fun cdv A out s H vs Q E _ hg hr h => hb cdv A out s H vs Q E hg hr h
/-- such a def of the module -/
def CalG (P : Program) (w : World) (K : PySem.W.Frag) (mg : Str → Option Value) (base : Heap) (CX : CXT) (k : Nat) (x : Str) (ps : List Str) (sp : Sp) : Prop :=
  ∃ f fd, mg x = some (.ref f) ∧ GOk P w K mg base CX k f fd ps sp ∧ PySem.W.keepIn K (.ref f) = true ∧ Binds K fd ps []
section
variable {X : Cx} {CX : CXT} {k : Nat} {x : Str} {ps : List Str} {sp : Sp} {E : XK} {e : Expr} {es : List Expr} {t : TA} {p pos : Pos}
theorem pe_calG (c : CalG X.prog X.w X.K X.mg X.base CX k x ps sp) (hgd : X.A.guards = some []) (hr : Room k X.A) (hg : Gl X x) (hx : Passes CX X E) (ha : PA X (e :: es) t) (hdb : (x == ("__debug__" : Str)) = false := by decide)
    (he : starEach (e :: es) X.env = (false, eval e X.env) :: starEach es X.env := by rfl) (hpl : (backTo pos (starEach es X.env)).any (·.1) = false := by rfl) : PE X (.Call (.Name x p) (e :: es) [] pos) (tCal sp E t) := by
  obtain ⟨f, fd, m, F, kp, b⟩ := c
  constructor
  intro pins s σ H Q I h
  refine wpAny_Call_Name_kw (ld_glob I hg m ?_ hdb)
  refine PySem.W.callWith_K (h₀ := X.base) I.ok.mod.kin kp (thn (ha.run pos pins s σ H _ I h) fun us s1 ⟨vs, H1, I1, r, q⟩ => ⟨I1.kIn, ?_⟩) he hpl
  have hl : (us ++ []).length = ps.length := by
    rw [List.append_nil, ← r.length]
    exact F.ar _ _ _ _ q
  have hb := b s1 us I1.kIn hl
  rw [List.append_nil] at hb
  refine wpAny_call (codeAny_mono (F.go X.A X.stack s1 H1 ⟨us, []⟩ us vs Q E hgd hr I1.env0 hb r q) fun res s' hq => ?_)
  match res, hq with
  | .error z, hq => exact hx pins σ H1 s1 z s' I1 hq
  | .ok (.ret u), hq => exact I1.after hq
  | .ok .next, hq => exact False.elim hq
  | .ok .brk, hq => exact False.elim hq
  | .ok .cont, hq => exact False.elim hq
end
/-- the law is called by the statement -/
theorem law_callG {P : Program} {w : World} {K : PySem.W.Frag} {mg mb : Str → Option Value} {CX : CXT} {k : Nat} {fa a : Addr} {fd : FuncData} {x : Str} {sp : Sp} {s1 : Shared} {vs : List Value} {ns : List Int}
    (KX : K.In s1.heap) (hns : s1.heap.Ns mainGlobals mg) (hb : s1.heap.Ns builtinsNs mb) (hbb : ∀ x : Str, x ≠ "__name__" → mb x = bootBuiltins x) (hlim : s1.heap.NoLimit) (hg : s1.gens = #[])
    (ha : s1.heap.get? a = some { cls := .type "list", data := .seq vs.toArray }) (hi : IntsAre vs ns) (hl : ns.length ≤ sizeLine) (hr : Room k callerA)
    (F : ∀ base : Heap, K.In base → base.Ns mainGlobals mg → GOk P w K mg base CX k fa fd [x] sp) (hbind : ∀ (s : Shared) (u : Value), BindsTo s fd ⟨[u], []⟩ [(x, u)])
    (hsp : ∀ H : Hp, Only H → SqL K H a (ns.map V.int) → sp [.ref a] H (fun v _ => v = .bl true) fun _ _ _ => False) (hCX : ∀ H e s', CX [] H s1 (fun _ _ _ => False) e s' → False) :
    codeAny (model P w) callerA (.call (.ref fa) ⟨[.ref a], []⟩) (fun r s' => r = .ok (.ret (.bool true)) ∧ OldK s1.heap s'.heap ∧ s'.os = s1.os ∧ AllBare s'.gens) s1 := by
  have rv := vals_ints hi
  have core : ∀ H : Hp, Only H → SqL K H a (ns.map V.int) → HOk P w H s1.heap → (∀ b, H b ≠ none → b = a) → (H a ≠ none → K.lookup a = none) →
      codeAny (model P w) callerA (.call (.ref fa) ⟨[.ref a], []⟩) (fun r s' => r = .ok (.ret (.bool true)) ∧ OldK s1.heap s'.heap ∧ s'.os = s1.os ∧ AllBare s'.gens) s1 := by
    intro H hO hS hok hA hK
    have some_a : ∀ {b : Addr} {u : HO}, H b = some u → b = a := fun {b u} q => hA b (fun z => by rw [q] at z; cases z)
    have isnone : ∀ {b : Addr}, ¬ (∃ u, H b = some u) → H b = none := fun {b} q => by
      cases z : H b with
      | none => rfl
      | some u => exact absurd ⟨u, z⟩ q
    have dicts : ∀ {b : Addr} {o : Obj} {es : Array DictEntry} {ep : Nat}, s1.heap.get? b = some o → o.data = .dict es ep → H b = none := fun {b o es ep} e d => isnone fun ⟨u, q⟩ => by
      rw [some_a q, ha] at e
      cases e
      have d' : Data.seq vs.toArray _ = Data.dict es ep := d
      cases d'
    have nsH : ∀ {b : Addr} {m : Str → Option Value}, s1.heap.Ns b m → (hidT s1.heap H).Ns b m := fun ⟨o, es, ep, e, d, r⟩ => ⟨o, es, ep, hidT_get e (dicts e d), d, r⟩
    have kinH : K.In (hidT s1.heap H) := fun b o e => hidT_get (KX b o e) (isnone fun ⟨u, q⟩ => by
      have eb := some_a q
      have q2 := hK (by rw [← eb, q]; exact fun z => nomatch z)
      rw [eb, q2] at e
      cases e)
    obtain ⟨mc, l1, l2⟩ := hlim
    have modH : Mod K mg (hidT s1.heap H) := ⟨kinH, nsH hns, ⟨mb, nsH hb, hbb⟩, ⟨mc, nsH l1, l2⟩⟩
    have nofr : ∀ b : Addr, b ∉ frs [] := fun b z => by cases z
    have e0 : Env0 P w K mg (hidT s1.heap H) callerA [] s1 H := ⟨rfl, modH, fun b o e => of_hidT e, Nat.le_of_eq (hidT_size _ _), trivial, fun b z => absurd z (nofr b), hok, .of_eq hg⟩
    refine codeAny_mono ((F _ kinH (nsH hns)).go callerA [] s1 H ⟨[.ref a], []⟩ [.ref a] [.ref a] _ _ rfl hr e0 (hbind s1 (.ref a)) (.cons rfl .nil) (hsp H hO hS)) fun r s' h => ?_
    match r, h with
    | .error e, h => exact (hCX H e s' h).elim
    | .ok .next, h => exact False.elim h
    | .ok .brk, h => exact False.elim h
    | .ok .cont, h => exact False.elim h
    | .ok (.ret u), h =>
      obtain ⟨v, H', os, bare, un, hok', r', q⟩ := h
      cases (show v = .bl true from q)
      cases (show u = Value.bool true from r')
      refine ⟨rfl, OldK.of_keep fun b o e => ?_, os, bare⟩
      cases q : H b with
      | none => exact un.keep b o e q (nofr b) (fun z => by cases z)
      | some u =>
        rcases hO b with z | ⟨ob, xs, z⟩
        · rw [q] at z
          cases z
        · have e1 := And.left (hok b _ z)
          have e2 := And.left (hok' b _ (un.frzs b ob _ z))
          rw [e] at e1
          cases e1
          exact e2
  cases hk : K.lookup a with
  | some o =>
    have e := KX a o hk
    rw [ha] at e
    cases e
    refine core (fun _ => none) (fun _ => Or.inl rfl) (Or.inr ⟨_, vs.toArray, _, hk, rfl, rfl, rfl, ?_, by simpa using rv⟩) (fun b u z => by cases (show (none : Option HO) = some u from z)) (fun b z => absurd rfl z) fun z => absurd rfl z
    rw [List.size_toArray, hi.length]
    exact hl
  | none =>
    have is : ∀ (b : Addr) (u : HO), (fun b : Addr => if b = a then some (HO.frz { cls := .type "list", data := .seq vs.toArray } (.lst (ns.map V.int))) else none) b = some u → b = a ∧ u = HO.frz { cls := .type "list", data := .seq vs.toArray } (.lst (ns.map V.int)) := fun b u z => by
      by_cases q : b = a
      · exact ⟨q, (Option.some.inj ((if_pos q).symm.trans z)).symm⟩
      · cases (if_neg q).symm.trans z
    refine core (fun b => if b = a then some (.frz { cls := .type "list", data := .seq vs.toArray } (.lst (ns.map V.int))) else none) (fun b => ?_) (Or.inl (Or.inr ⟨_, if_pos rfl⟩)) (fun b u z => ?_) (fun b z => ?_) fun _ => hk
    · by_cases q : b = a
      · exact Or.inr ⟨_, _, if_pos q⟩
      · exact Or.inl (if_neg q)
    · obtain ⟨rfl, rfl⟩ := is b u z
      refine ⟨ha, ?_, vs, _, rv, ha⟩
      rw [List.length_map]
      exact hl
    · by_cases q : b = a
      · exact q
      · exact absurd (if_neg q) z
theorem walk_G {l : PySem.W.OpenLaw} {n k : Nat} {q : Program} {loose : List Str} {XP : (Str → Option Value) → Heap → Prop} {YP : World → Heap → Prop} {d : DefRec} {CX : CXT} {x : Str} (hn : l.most = some n) (hn2 : n ≤ sizeLine) (hdf : d.params.defaults = []) (hr : Room k callerA)
    (F : ∀ (w : World) (mg : Str → Option Value) (fa : Addr) (h : Heap), YP w h → h.Ns mainGlobals mg → mg d.name = some (.ref fa) →
      ∃ (K : PySem.W.Frag) (fd : FuncData) (sp : Sp), K.In h ∧ (∀ (s : Shared) (u : Value), BindsTo s fd ⟨[u], []⟩ [(x, u)]) ∧ (∀ (H : Hp) (a : Addr) (ns : List Int), ns.length ≤ n → Only H → SqL K H a (ns.map V.int) → sp [.ref a] H (fun v _ => v = .bl true) fun _ _ _ => False) ∧
        ∀ base : Heap, K.In base → base.Ns mainGlobals mg → GOk l.prog w K mg base CX k fa fd [x] sp)
    (hCX : ∀ (H : Hp) (s : Shared) (e : Value) (s' : Shared), CX [] H s (fun _ _ _ => False) e s' → False) : PySem.W.WalkO q loose XP YP l.row.toRowW d [] (fun f vs => PySem.call f vs) := by
  refine Att.attach_call hn hdf fun w s0 s1 mg mb fa o pm cd doc a vs ns G Y ho hd hcd hmg hobj hints hlen hg => ?_
  obtain ⟨K, fd, sp, KX, hb, hsp, hF⟩ := F w mg fa _ Y G.T.g hmg
  exact law_callG KX G.T.g G.T.b G.T.builtins G.T.nolimit hg hobj hints (Nat.le_trans hlen hn2) hr hF hb (fun H hO hS => hsp H a ns hlen hO hS) fun H e s' => hCX H s1 e s'
end LC
/-! LcMeth: o.m(k = v, ..) without positional arguments. -/
namespace LC
open PySem PySem.Spec PyProof.Rows L2
def tMethKw (C : Addr) (m : Str) (n : Nat) (sp : Sp) (gV : List V → List V → List V) (E : XK) (ta : TE) (tk : TA) : TE := fun σ H Q => ta σ H fun x H1 => ∃ a dx fs, x = .ref a ∧ H1 a = some (.ins C dx fs) ∧ fs.lookup m = none ∧ tk σ H1 fun zs H2 => zs.length = n ∧ sp (gV [x] zs) H2 Q E
section
variable {X : Cx} {CX : CXT} {k : Nat} {f C : Addr} {fd : FuncData} {ps ks : List Str} {sp : Sp} {E : XK} {m : Str} {pos apos : Pos} {o : Expr} {kws : List Keyword} {ta : TE} {tk : TA} {g : List Value → List Value → List Value} {gV : List V → List V → List V}
theorem pe_methK0 {pl : Sem Bool} (he : PE X o ta) (c : Cls X.K C) (hm : Meth X.K C m f) (F : FnOk X.prog X.w X.K X.mg X.base CX k f fd ps sp) (hr : Room k X.A) (hb : KBn X.K fd ps 1 ks g gV) (hx : Passes CX X E) (hkw : PK X kws tk)
    (hall : (backToKw pos (keywordEach kws X.env)).all (·.1.isSome) = true := by rfl) (hks : (backToKw pos (keywordEach kws X.env)).filterMap (·.1) = ks := by rfl) (hpl : ((backTo pos (starEach [] X.env)).any (·.1) || (backToKw pos (keywordEach kws X.env)).any (·.1.isNone)) = false := by rfl)
    (ht : eval (.Call (.Attribute o m apos) [] kws pos) X.env = (do
      let z ← eval o X.env
      standAt apos.atName
      let (f, first) ← holding [z] (getMethod z m pl)
      callWith pos f first (backTo pos (starEach [] X.env)) (backToKw pos (keywordEach kws X.env))) := by rfl) : PE X (.Call (.Attribute o m apos) [] kws pos) (tMethKw C m ks.length sp gV E ta tk) := by
  constructor
  intro pins s σ H Q I h
  refine PySem.W.methodCall_KW (pl := pl) (thn (he.run pins s σ H _ I h) fun u s1 ⟨x, H1, I1, rx, a, dx, fs, ex, ea, l, q⟩ => ?_) ht
  subst ex
  obtain rfl : u = Value.ref a := rx
  refine getmeth_ok I1 ea c hm l ?_
  refine PySem.W.callWith_KW0 (first := [.ref a]) (h₀ := X.base) I.ok.mod.kin hm.kp hall ?_ hpl
  refine thn (hkw.run pos pins s1 σ H1 _ I1 q) fun ws s2 ⟨zs, H2, I2, rz, l2, q2⟩ => ⟨I2.kIn, ?_⟩
  rw [hks]
  exact run_fnN (us := [.ref a]) (vs := [.ref a]) F hr hb hx I2 (.cons rfl .nil) rz rfl l2 q2
end
end LC
/-! LcCls: cls(*xs) with cls a local name; a call inside a try by the place; C.m(k = v) of a class method. -/
namespace LC
open PySem PySem.Spec PyProof.Rows L2 ClX
/-- cls(*xs): a class held by a local name -/
def tMakeL (K : PySem.W.Frag) (i : Nat) (C : Addr) (sp : Sp) (E : XK) (te : TE) : TE := fun σ H Q => σ[i]? = some (some (.ref C)) ∧ te σ H fun y H1 => ∃ a xs, y = V.ref a ∧ (SqT K H1 a xs ∨ SqL K H1 a xs) ∧
  ∀ o dx, H1 o = none → H1 dx = none → dx ≠ o → sp (V.ref o :: xs) (upd (upd H1 dx (.own o)) o (.ins C dx [])) (fun v H2 => v = .non ∧ Q (.ref o) H2) E
section
variable {X : Cx} {CX : CXT} {k i : Nat} {f C : Addr} {sp : Sp} {E : XK} {x : Str} {e : Expr} {te : TE} {p sp_ pos : Pos}
theorem pe_makeL (M : Mk X.K C f) (F : FnR X.prog X.w X.K X.mg X.base CX k f sp) (room : Room (k + 1) X.A) (air : Passes CX X E) (hN : X.N[i]? = some x) (vis : Vis X.env.scope x) (he : PE X e te)
    (dbg : (x == ("__debug__" : Str)) = false := by decide) (cld : (x == ("__classdict__" : Str)) = false := by decide) (star : starEach [.Starred e sp_] X.env = [(true, eval e X.env)] := by rfl) :
    PE X (.Call (.Name x p) [.Starred e sp_] [] pos) (tMakeL X.K i C sp E te) := by
  refine ⟨fun pins s σ H Q I h => ?_⟩
  obtain ⟨slot, ask⟩ := h
  refine wpAny_Call_Name_kw (thn ((pe_var (pos := p) (i := i) hN vis dbg cld).run pins s σ H (fun v H1 => v = .ref C ∧ H1 = H) I ⟨.ref C, slot, rfl, rfl⟩) fun u s1 ⟨v, H1, I1, rel, ev, eH⟩ => ?_)
  subst ev eH
  obtain rfl : u = Value.ref C := rel
  refine PySem.W.callWith_S (h₀ := X.base) I1.ok.mod.kin M.kp (thn (he.run pins s1 σ H1 _ I1 ask) fun w s2 ⟨y, H2, I2, ry, a, xs, ey, seq, q⟩ => ?_) star
  subst ey
  obtain rfl : w = Value.ref a := ry
  exact StX.star_any I2 seq fun us s3 I3 rv => ⟨I3.kIn, StX.run_makeR M F room air I3 rv q⟩
end
/-- a call in a try's body -/
theorem pe_calS {X : Cx} {CX : CXT} {k : Nat} {x : Str} {ps : List Str} {sp : Sp} {E : L2.St → XK} {e : Expr} {es : List Expr} {t : TA} {p pos : Pos} (c : Cal X.prog X.w X.K X.mg X.base CX k x ps sp) (room : Room k X.A) (gl : Gl X x) (air : ∀ σ, PassesAt CX X σ (E σ)) (ha : PA X (e :: es) t)
    (dbg : (x == ("__debug__" : Str)) = false := by decide) (star : starEach (e :: es) X.env = (false, eval e X.env) :: starEach es X.env := by rfl) (plain : (backTo pos (starEach es X.env)).any (·.1) = false := by rfl) : PE X (.Call (.Name x p) (e :: es) [] pos) (tCallS sp E t) := by
  obtain ⟨f, fd, m, F, kp, b⟩ := c
  exact pe_callS F room gl m kp b air ha dbg star plain
/-- C.m(k = v): a class method, by keywords only -/
def tCMethKw (C : Addr) (n : Nat) (sp : Sp) (gV : List V → List V → List V) (E : XK) (ta : TE) (tk : TA) : TE := fun σ H Q => ta σ H fun x H1 => x = .ref C ∧ tk σ H1 fun zs H2 => zs.length = n ∧ sp (gV [.ref C] zs) H2 Q E
section
variable {X : Cx} {CX : CXT} {k : Nat} {C p g : Addr} {mc : Value} {fd : FuncData} {ps ks : List Str} {sp : Sp} {E : XK} {m : Str} {pos apos : Pos} {o : Expr} {kws : List Keyword} {ta : TE} {tk : TA} {gg : List Value → List Value → List Value} {gV : List V → List V → List V}
theorem pe_cmethK0 {pl : Sem Bool} (he : PE X o ta) (rd : CRead X.K C mc) (cm : CMet X.K C mc m p g) (F : FnOk X.prog X.w X.K X.mg X.base CX k g fd ps sp) (room : Room k X.A) (kb : KBn X.K fd ps 1 ks gg gV) (air : Passes CX X E) (hkw : PK X kws tk)
    (all : (backToKw pos (keywordEach kws X.env)).all (·.1.isSome) = true := by rfl) (hks : (backToKw pos (keywordEach kws X.env)).filterMap (·.1) = ks := by rfl) (plain : ((backTo pos (starEach [] X.env)).any (·.1) || (backToKw pos (keywordEach kws X.env)).any (·.1.isNone)) = false := by rfl)
    (tree : eval (.Call (.Attribute o m apos) [] kws pos) X.env = (do
      let z ← eval o X.env
      standAt apos.atName
      let (f, first) ← holding [z] (getMethod z m pl)
      callWith pos f first (backTo pos (starEach [] X.env)) (backToKw pos (keywordEach kws X.env))) := by rfl) : PE X (.Call (.Attribute o m apos) [] kws pos) (tCMethKw C ks.length sp gV E ta tk) := by
  constructor
  intro pins s σ H Q I h
  refine PySem.W.methodCall_KW (pl := pl) (thn (he.run pins s σ H _ I h) fun u s1 ⟨x, H1, I1, rel, ex, q⟩ => ?_) tree
  subst ex
  obtain rfl : u = Value.ref C := rel
  refine getmethcm_ok I1 rd cm fun s2 I2 => ?_
  refine PySem.W.callWith_of (P := PySem.W.MethP X.K s1.heap.objs.size g (.ref C)) plain (PySem.W.keeps_M cm.fi) (evalArgs_kw2_nil all ?_)
  refine thn (hkw.run pos _ s2 σ H1 _ I2 q) fun ws s3 ⟨zs, H2, I3, rz, l2, q2⟩ => ⟨⟨pin_at I3, I3.kIn⟩, ?_⟩
  rw [hks]
  have rel2 := kb.rel (vs := [.ref C]) (us := [.ref C]) (.cons rfl .nil) rz
  refine wpAny_call (PySem.W.method_call (pin_at I3) (codeAny_mono (F.run X.A X.stack s3 H2 ⟨[.ref C], ks.zip ws⟩ (gg [.ref C] ws) (gV [.ref C] zs) Q E room I3.env0 (kb.to s3 [.ref C] ws I3.kIn rfl (rz.length.symm.trans l2)) rel2 q2) fun r s4 out => ?_))
  cases r with
  | error er => exact air _ σ H2 s3 er s4 I3 out
  | ok fl =>
    cases fl with
    | ret u => exact unpinE (I3.after out)
    | next => exact False.elim out
    | brk => exact False.elim out
    | cont => exact False.elim out
end
end LC
/-! LcRead: the words of a sum, written and read back. -/
namespace LC
open PySem PySem.Spec PyProof.Rows L2 TL
/-! ### words and texts -/
/-- p * q * r as words -/
def starW : List Str → List Str
  | [] => []
  | [p] => [p]
  | p :: q :: r => p :: "*" :: starW (q :: r)
def termWs (f : Int) (ns : List Str) : List Str := starW (partW f ns)
def absI (f : Int) : Int := if f < 0 then -f else f
def moreWs : List Term → List Str
  | [] => []
  | t :: r => (if t.1 < 0 then "-" else "+") :: (termWs (if t.1 < 0 then -t.1 else t.1) t.2 ++ moreWs r)
def allWs : List Term → List Str
  | [] => []
  | t :: r => termWs t.1 t.2 ++ moreWs r
theorem starW_ne : ∀ {ps : List Str}, ps ≠ [] → starW ps ≠ []
  | [], h => absurd rfl h
  | [p], _ => by simp [starW]
  | p :: q :: r, _ => by simp [starW]
theorem partW_ne (f : Int) (ns : List Str) : partW f ns ≠ [] := by
  unfold partW
  split
  · rename_i h
    exact h.2
  · exact List.cons_ne_nil _ _
theorem termWs_ne (f : Int) (ns : List Str) : termWs f ns ≠ [] := starW_ne (partW_ne f ns)
theorem joinL_cons {S p : List Nat} {r : List (List Nat)} (h : r ≠ []) : joinL S (p :: r) = p ++ (S ++ joinL S r) := by
  cases r with
  | nil => exact absurd rfl h
  | cons q r => rfl
theorem joinL_append {S : List Nat} : ∀ {g r : List (List Nat)}, g ≠ [] → r ≠ [] → joinL S (g ++ r) = joinL S g ++ (S ++ joinL S r)
  | [], _, h, _ => absurd rfl h
  | [p], r, _, h => by
    show joinL S (p :: r) = _
    rw [joinL_cons h]
    rfl
  | p :: q :: g, r, _, h => by
    show joinL S (p :: (q :: g ++ r)) = joinL S (p :: q :: g) ++ _
    rw [joinL_cons (by simp), joinL_append (g := q :: g) (by simp) h, joinL_cons (r := q :: g) (by simp)]
    simp only [List.append_assoc]
theorem joinL_group {S : List Nat} {g q : List (List Nat)} (hg : g ≠ []) : ∀ pre : List (List Nat), joinL S (pre ++ joinL S g :: q) = joinL S (pre ++ (g ++ q))
  | [] => by
    cases q with
    | nil =>
      show joinL S [joinL S g] = joinL S (g ++ [])
      rw [List.append_nil]
      rfl
    | cons a r =>
      show joinL S (joinL S g :: a :: r) = joinL S (g ++ a :: r)
      rw [joinL_append hg (by simp), joinL_cons (by simp)]
  | p :: pre => by
    have e := joinL_group (S := S) (q := q) hg pre
    show joinL S (p :: (pre ++ joinL S g :: q)) = joinL S (p :: (pre ++ (g ++ q)))
    have h2 : pre ++ (g ++ q) ≠ [] := by
      cases g with
      | nil => exact absurd rfl hg
      | cons a b => simp
    rw [joinL_cons (by simp), joinL_cons h2, e]
theorem joinL_star : ∀ {ps : List Str}, joinL [32] ((starW ps).map tl) = joinL [32, 42, 32] (ps.map tl)
  | [] => rfl
  | [p] => rfl
  | p :: q :: r => by
    have e := joinL_star (ps := q :: r)
    show joinL [32] (tl p :: tl ("*" : Str) :: (starW (q :: r)).map tl) = joinL [32, 42, 32] (tl p :: tl q :: r.map tl)
    have n1 : (starW (q :: r)).map tl ≠ [] := fun z => starW_ne (List.cons_ne_nil q r) (List.map_eq_nil_iff.mp z)
    rw [joinL_cons (by simp), joinL_cons n1, e]
    show _ = tl p ++ ([32, 42, 32] ++ joinL [32, 42, 32] ((q :: r).map tl))
    rfl
theorem tl_star : tl (" * " : Str) = [32, 42, 32] := by decide +kernel
theorem tl_sp : tl (" " : Str) = [32] := by decide +kernel
theorem tl_term (f : Int) (ns : List Str) : tl (termT f ns) = joinL [32] ((termWs f ns).map tl) := by
  rw [partW_join, join_eq, tl_join, tl_star]
  exact joinL_star.symm
theorem joinL_more : ∀ (r : List Term) (pre : List (List Nat)), joinL [32] (pre ++ (moreW r).map tl) = joinL [32] (pre ++ (moreWs r).map tl)
  | [], pre => rfl
  | t :: r, pre => by
    have e := joinL_more r (pre ++ (tl (if t.1 < 0 then "-" else "+" : Str) :: (termWs (if t.1 < 0 then -t.1 else t.1) t.2).map tl))
    show joinL [32] (pre ++ (tl _ :: tl (termT _ t.2) :: (moreW r).map tl)) = joinL [32] (pre ++ (_ :: (termWs _ t.2 ++ moreWs r)).map tl)
    have g := joinL_group (S := [32]) (g := (termWs (if t.1 < 0 then -t.1 else t.1) t.2).map tl) (q := (moreW r).map tl) (fun z => termWs_ne _ _ (List.map_eq_nil_iff.mp z)) (pre ++ [tl (if t.1 < 0 then "-" else "+" : Str)])
    rw [tl_term]
    simp only [List.append_assoc, List.cons_append, List.nil_append, List.map_cons, List.map_append] at g e ⊢
    rw [g]
    exact e
theorem tl_sumText (ts : List Term) : tl (sumText ts) = joinL [32] ((allWs ts).map tl) := by
  unfold sumText
  rw [join_eq, tl_join, tl_sp]
  cases ts with
  | nil => rfl
  | cons t r =>
    show joinL [32] (tl (termT t.1 t.2) :: (moreW r).map tl) = joinL [32] ((termWs t.1 t.2 ++ moreWs r).map tl)
    have g := joinL_group (S := [32]) (g := (termWs t.1 t.2).map tl) (q := (moreW r).map tl) (fun z => termWs_ne _ _ (List.map_eq_nil_iff.mp z)) []
    rw [tl_term]
    rw [List.nil_append, List.nil_append] at g
    rw [g, joinL_more, List.map_append]
/-! ### numbers -/
theorem strI_nat (n : Nat) : tl (strI (n : Int)) = numL n := tl_num n
theorem strI_neg {f : Int} (h : f < 0) : tl (strI f) = 45 :: numL (-f).toNat := by
  cases f with
  | ofNat n => exact absurd h (Int.not_lt.mpr (Int.natCast_nonneg n))
  | negSucc m =>
    have e : (-Int.negSucc m).toNat = m + 1 := rfl
    rw [e]
    show tl (Str.ofString (toString (Int.negSucc m))) = _
    have e2 : toString (Int.negSucc m) = "-" ++ toString (m + 1) := rfl
    have e3 : tl (Str.ofString (toString ((m + 1 : Nat) : Int))) = numL (m + 1) := tl_num (m + 1)
    have e4 : toString ((m + 1 : Nat) : Int) = toString (m + 1) := rfl
    rw [e4] at e3
    rw [e2, ← e3, tl_ofString, tl_ofString, String.toList_append, List.map_append]
    rfl
theorem digitsVal_snoc (l : List Nat) (c : Nat) : NumText.digitsVal (l ++ [c]) = NumText.digitsVal l * 10 + (c - 48) := by
  unfold NumText.digitsVal
  rw [List.foldl_append]
  rfl
theorem digitsVal_ge : ∀ (l : List Nat) (a : Nat), a ≤ l.foldl (fun acc c => acc * 10 + (c - 48)) a
  | [], _ => Nat.le_refl _
  | c :: r, a => Nat.le_trans (by omega) (digitsVal_ge r (a * 10 + (c - 48)))
theorem digitsVal_pos {c : Nat} {r : List Nat} (h : 49 ≤ c) : 1 ≤ NumText.digitsVal (c :: r) := by
  unfold NumText.digitsVal
  rw [List.foldl_cons]
  exact Nat.le_trans (by omega) (digitsVal_ge r _)
theorem all_snoc {l : List Nat} {c : Nat} (h : NumText.AllDigits (l ++ [c])) : NumText.AllDigits l ∧ 48 ≤ c ∧ c ≤ 57 := ⟨fun d hd => h d (List.mem_append_left _ hd), h c (by simp)⟩
/-- figures without a leading zero are the number's own -/
theorem dec_back : ∀ (k : Nat) (l : List Nat), l.length = k → NumText.AllDigits l → l ≠ [] → (l = [48] ∨ l.head? ≠ some 48) → numL (NumText.digitsVal l) = l := by
  intro k
  induction k with
  | zero => exact fun l hl _ hn _ => absurd (List.length_eq_zero_iff.mp hl) hn
  | succ k ih =>
    intro l hl hd hn hz
    obtain ⟨l', c, rfl⟩ : ∃ l' c, l = l' ++ [c] := ⟨l.dropLast, l.getLast hn, (List.dropLast_concat_getLast hn).symm⟩
    obtain ⟨d1, c1, c2⟩ := all_snoc hd
    rw [digitsVal_snoc]
    have hlen : l'.length = k := by
      rw [List.length_append] at hl
      simpa using hl
    cases l' with
    | nil =>
      show numL (0 * 10 + (c - 48)) = [c]
      rw [numL_lt (by omega)]
      congr 1
      omega
    | cons a r =>
      have a1 : 48 ≤ a ∧ a ≤ 57 := d1 a (List.mem_cons_self ..)
      have a2 : a ≠ 48 := by
        rcases hz with hz | hz
        · simp at hz
        · exact fun e => hz (by rw [e]; rfl)
      have pos := digitsVal_pos (r := r) (show 49 ≤ a by omega)
      have e := ih (a :: r) hlen d1 (by simp) (.inr (by simpa using a2))
      generalize NumText.digitsVal (a :: r) = v at pos e ⊢
      have e1 : (v * 10 + (c - 48)) / 10 = v := by omega
      have e2 : 48 + (v * 10 + (c - 48)) % 10 = c := by omega
      rw [numL_step (by omega), e1, e2, e]
theorem digitsVal_lt : ∀ (k : Nat) (l : List Nat), l.length = k → NumText.AllDigits l → NumText.digitsVal l < 10 ^ k := by
  intro k
  induction k with
  | zero =>
    intro l hl _
    rw [List.length_eq_zero_iff.mp hl]
    decide
  | succ k ih =>
    intro l hl hd
    have hn : l ≠ [] := fun z => by rw [z] at hl; cases hl
    obtain ⟨l', c, rfl⟩ : ∃ l' c, l = l' ++ [c] := ⟨l.dropLast, l.getLast hn, (List.dropLast_concat_getLast hn).symm⟩
    obtain ⟨d1, c1, c2⟩ := all_snoc hd
    rw [digitsVal_snoc]
    have hlen : l'.length = k := by
      rw [List.length_append] at hl
      simpa using hl
    have := ih l' hlen d1
    rw [Nat.pow_succ]
    omega
/-- what decB says -/
theorem decB_iff {z : Str} {m : Nat} : decB z m = true ↔ (tl z ≠ [] ∧ (tl z).length ≤ m ∧ NumText.AllDigits (tl z) ∧ (tl z = [48] ∨ (tl z).head? ≠ some 48)) := by
  have hl : (tl z).length = z.length := rfl
  have ht : tl z = z.cps.toList := rfl
  have h0 : z = "0" ↔ tl z = [48] := ⟨fun e => by rw [e]; decide +kernel, fun e => ext_tl (by rw [e]; decide +kernel)⟩
  unfold decB
  simp only [Bool.and_eq_true, Bool.or_eq_true, decide_eq_true_eq, Bool.not_eq_true', decide_eq_false_iff_not, h0, ← ht, ← hl]
  constructor
  · rintro ⟨⟨⟨a, b⟩, c⟩, d⟩
    refine ⟨fun z => by rw [z] at a; simp at a, b, fun x hx => ?_, d⟩
    have q := List.all_eq_true.mp c x hx
    unfold digB at q
    simpa using q
  · rintro ⟨a, b, c, d⟩
    refine ⟨⟨⟨List.length_pos_iff.mpr a, b⟩, List.all_eq_true.mpr fun x hx => ?_⟩, d⟩
    unfold digB
    simpa using c x hx
theorem numW_back {z : Str} {m : Nat} (h : decB z m = true) : z = strI (numW z) ∧ 0 ≤ numW z ∧ numW z < 10 ^ m := by
  obtain ⟨h1, h2, h3, h4⟩ := decB_iff.mp h
  refine ⟨ext_tl ?_, Int.natCast_nonneg _, ?_⟩
  · show tl z = tl (strI ((NumText.digitsVal (tl z) : Nat) : Int))
    rw [strI_nat, dec_back _ _ rfl h3 h1 h4]
  · have a := digitsVal_lt _ _ rfl h3
    have b : 10 ^ (tl z).length ≤ 10 ^ m := Nat.pow_le_pow_right (by decide) h2
    have c : NumText.digitsVal (tl z) < 10 ^ m := Nat.lt_of_lt_of_le a b
    show ((NumText.digitsVal (tl z) : Nat) : Int) < 10 ^ m
    have d : ((10 : Int) ^ m) = ((10 ^ m : Nat) : Int) := by simp
    rw [d]
    exact Int.ofNat_lt.mpr c
theorem numL_head {n : Nat} (h : n ≠ 0) : (numL n).head? ≠ some 48 := by
  induction n using Nat.strongRecOn with
  | _ n ih =>
    by_cases h9 : n < 10
    · rw [numL_lt h9]
      simp
      omega
    · rw [numL_step (by omega)]
      have a := ih (n / 10) (by omega) (by omega)
      cases e : numL (n / 10) with
      | nil => exact absurd e (numL_ne _)
      | cons c r =>
        rw [e] at a
        simpa using a
theorem decB_strI {n : Nat} {m : Nat} (hm : 0 < m) (h : n < 10 ^ m) : decB (strI (n : Int)) m = true ∧ numW (strI (n : Int)) = n := by
  have e := strI_nat n
  refine ⟨decB_iff.mpr ?_, ?_⟩
  · rw [e]
    refine ⟨numL_ne n, numL_len hm h, numL_digits n, ?_⟩
    by_cases h0 : n = 0
    · rw [h0]
      exact .inl (by rw [numL_lt (by decide)])
    · exact .inr (numL_head h0)
  · show ((NumText.digitsVal (tl (strI (n : Int))) : Nat) : Int) = n
    rw [e, numL_val]
end LC
/-! LcRead2: what the package's reader answers. -/
namespace LC
open PySem PySem.Spec PyProof.Rows L2 TL
theorem tl_cut1 (z : Str) : tl (cutS z (some 1) none) = (tl z).drop 1 := by
  show (tl z |>.drop (HT.sIx z.length 0 (some 1))).take (HT.sIx z.length z.length none - HT.sIx z.length 0 (some 1)) = _
  have hl : z.length = (tl z).length := len_tl z
  by_cases h : z.length = 0
  · have e : tl z = [] := List.length_eq_zero_iff.mp (by omega)
    rw [e]
    simp
  · have e1 : HT.sIx z.length 0 (some 1) = 1 := by
      simp [HT.sIx]
      omega
    have e2 : HT.sIx z.length z.length none = z.length := rfl
    rw [e1, e2]
    refine List.take_of_length_le ?_
    rw [List.length_drop, hl]
    exact Nat.le_refl _
theorem starts_minus {z : Str} : Txt.startswith z "-" = true ↔ (tl z).head? = some 45 := by
  have e : ("-" : Str).cps.toList = [45] := by decide +kernel
  have e2 : ("-" : Str).length = 1 := rfl
  have hl : z.length = (tl z).length := len_tl z
  unfold Txt.startswith
  rw [PySem.StrLaws.subAt_eq, e, e2, List.drop_zero, hl]
  show _ ↔ z.cps.toList.head? = some 45
  show (decide (0 + 1 ≤ z.cps.toList.length) && (z.cps.toList.take 1 == [45])) = true ↔ _
  generalize z.cps.toList = l
  cases l with
  | nil => simp
  | cons c r => simp
/-! ### factors -/
theorem strI_zero : strI 0 = "0" := by decide +kernel
theorem strI_one : strI 1 = "1" := by decide +kernel
theorem facOf_sound {z sg : Str} {f : Int} (h : facOf z sg = some f) : z = strI (if sg = "-" then -f else f) ∧ -999999 ≤ f ∧ f ≤ 999999 ∧ (sg = "-" → f < 0) ∧ (sg = "+" → 0 ≤ f) := by
  unfold facOf at h
  by_cases c1 : sg = "=" ∧ Txt.startswith z "-" = true
  · rw [if_pos c1] at h
    obtain ⟨es, st⟩ := c1
    have n1 : ¬ sg = "-" := by rw [es]; decide +kernel
    have n2 : ¬ sg = "+" := by rw [es]; decide +kernel
    by_cases c2 : decB (cutS z (some 1) none) 6 = true ∧ cutS z (some 1) none ≠ "0"
    · rw [if_pos c2] at h
      obtain ⟨d, nz⟩ := c2
      obtain ⟨b1, b2, b3⟩ := numW_back d
      generalize hw : numW (cutS z (some 1) none) = w at h b1 b2 b3
      have w0 : w ≠ 0 := fun e => nz (by rw [b1, e, strI_zero])
      have ef : f = -w := (Option.some.inj h).symm
      have hc := tl_cut1 z
      have hh := starts_minus.mp st
      rw [if_neg n1]
      refine ⟨ext_tl ?_, by omega, by omega, fun e => absurd e n1, fun e => absurd e n2⟩
      rw [strI_neg (by omega), ef]
      have e1 : (- -w).toNat = w.toNat := by rw [Int.neg_neg]
      rw [e1, ← strI_nat, Int.toNat_of_nonneg b2, ← b1, hc]
      cases q : tl z with
      | nil =>
        rw [q] at hh
        cases hh
      | cons c r =>
        rw [q] at hh
        cases hh
        rfl
    · rw [if_neg c2] at h
      cases h
  · rw [if_neg c1] at h
    by_cases c2 : decB z 6 = true
    · rw [if_pos c2] at h
      obtain ⟨b1, b2, b3⟩ := numW_back c2
      generalize hw : numW z = w at h b1 b2 b3
      by_cases c3 : sg = "-"
      · rw [if_pos c3] at h
        by_cases c4 : z = "0"
        · rw [if_pos c4] at h
          cases h
        · rw [if_neg c4] at h
          have w0 : w ≠ 0 := fun e => c4 (by rw [b1, e, strI_zero])
          have ef : f = -w := (Option.some.inj h).symm
          rw [if_pos c3]
          have e2 : -f = w := by omega
          rw [e2]
          exact ⟨b1, by omega, by omega, fun _ => by omega, fun e => by rw [e] at c3; exact absurd c3 (by decide +kernel)⟩
      · rw [if_neg c3] at h
        have ef : f = w := (Option.some.inj h).symm
        rw [if_neg c3, ef]
        exact ⟨b1, by omega, by omega, fun e => absurd e c3, fun _ => by omega⟩
    · rw [if_neg c2] at h
      cases h
/-- the sign ahead of a word, and the factor that is meant -/
structure SgOk (sg : Str) (f : Int) : Prop where
  k : sg = "=" ∨ sg = "+" ∨ sg = "-"
  m : sg = "-" → f < 0
  p : sg = "+" → 0 ≤ f
  lo : -999999 ≤ f
  hi : f ≤ 999999
theorem facOf_complete {sg : Str} {f : Int} (h : SgOk sg f) : facOf (strI (if sg = "-" then -f else f)) sg = some f := by
  unfold facOf
  by_cases c : sg = "-"
  · have n1 : ¬ sg = "=" := by rw [c]; decide +kernel
    have h0 := h.m c
    have lo := h.lo
    obtain ⟨n, hn⟩ : ∃ n : Nat, -f = (n : Int) := ⟨(-f).toNat, (Int.toNat_of_nonneg (by omega)).symm⟩
    obtain ⟨d1, d2⟩ := decB_strI (n := n) (m := 6) (by decide) (by omega)
    rw [if_neg (fun w => n1 w.1), if_pos c, hn, if_pos d1, if_pos c, d2, if_neg]
    · congr 1
      omega
    · intro w
      have e := congrArg numW w
      rw [d2] at e
      have e0 : numW ("0" : Str) = 0 := by decide +kernel
      rw [e0] at e
      omega
  · rw [if_neg c]
    by_cases neg : f < 0
    · have e : sg = "=" := by
        rcases h.k with e | e | e
        · exact e
        · have := h.p e
          omega
        · exact absurd e c
      have lo := h.lo
      obtain ⟨n, hn⟩ : ∃ n : Nat, -f = (n : Int) := ⟨(-f).toNat, (Int.toNat_of_nonneg (by omega)).symm⟩
      have et := strI_neg neg
      have et2 : (-f).toNat = n := by omega
      rw [et2] at et
      have st : Txt.startswith (strI f) "-" = true := starts_minus.mpr (by rw [et]; rfl)
      have ec : cutS (strI f) (some 1) none = strI (n : Int) := ext_tl (by rw [tl_cut1, et, strI_nat]; rfl)
      obtain ⟨d1, d2⟩ := decB_strI (n := n) (m := 6) (by decide) (by omega)
      rw [if_pos ⟨e, st⟩, ec, if_pos, d2]
      · congr 1
        omega
      · refine ⟨d1, fun w => ?_⟩
        have e := congrArg numW w
        rw [d2] at e
        have e0 : numW ("0" : Str) = 0 := by decide +kernel
        rw [e0] at e
        omega
    · obtain ⟨n, hn⟩ : ∃ n : Nat, f = (n : Int) := ⟨f.toNat, (Int.toNat_of_nonneg (by omega)).symm⟩
      have hi := h.hi
      obtain ⟨d1, d2⟩ := decB_strI (n := n) (m := 6) (by decide) (by omega)
      have nst : ¬ (sg = "=" ∧ Txt.startswith (strI f) "-" = true) := fun w => by
        have z := starts_minus.mp w.2
        rw [hn, strI_nat] at z
        cases q : numL n with
        | nil => exact numL_ne n q
        | cons a r =>
          have a1 := numL_digits n a (by rw [q]; exact List.mem_cons_self ..)
          rw [q] at z
          have : a = 45 := Option.some.inj z
          omega
      rw [if_neg nst, hn, if_pos d1, if_neg c, d2]
/-! ### words that are no names -/
theorem strI_noName (f : Int) : nameB (strI f) = false := by
  cases h : nameB (strI f) with
  | false => rfl
  | true =>
    have q := name_chars h
    have : ∃ c, c ∈ tl (strI f) ∧ c < 97 := by
      by_cases n : f < 0
      · rw [strI_neg n]
        exact ⟨45, List.mem_cons_self .., by decide⟩
      · obtain ⟨k, hk⟩ : ∃ n : Nat, f = (n : Int) := ⟨f.toNat, (Int.toNat_of_nonneg (by omega)).symm⟩
        rw [hk, strI_nat]
        cases e : numL k with
        | nil => exact absurd e (numL_ne k)
        | cons a r =>
          have a1 := numL_digits k a (by rw [e]; exact List.mem_cons_self ..)
          exact ⟨a, List.mem_cons_self .., by omega⟩
    obtain ⟨c, hc, lt⟩ := this
    have := q c hc
    omega
theorem noName_star : nameB "*" = false := by decide +kernel
theorem noName_plus : nameB "+" = false := by decide +kernel
theorem noName_minus : nameB "-" = false := by decide +kernel
/-! ### names so far -/
def UpTo (ws : List Str) (st k : Nat) : Prop := (namesIn ((ws.drop st).take (k - st))).length ≤ 3
theorem foldN_ge : ∀ (ws acc : List Str), acc.length ≤ (ws.foldl addN acc).length
  | [], _ => Nat.le_refl _
  | x :: r, acc => by
    refine Nat.le_trans ?_ (foldN_ge r (addN acc x))
    unfold addN
    split
    · exact Nat.le_refl _
    · rw [List.length_append]
      exact Nat.le_add_right _ _
theorem namesIn_append (a b : List Str) : namesIn (a ++ b) = (b.filter nameB).foldl addN (namesIn a) := by
  unfold namesIn
  rw [List.filter_append, List.foldl_append]
theorem namesIn_take (l : List Str) (k : Nat) : (namesIn (l.take k)).length ≤ (namesIn l).length := by
  have e := namesIn_append (l.take k) (l.drop k)
  rw [List.take_append_drop] at e
  rw [e]
  exact foldN_ge _ _
theorem drop_at {α : Type} {ws : List α} {i : Nat} {z : α} (h : ws[i]? = some z) : ws.drop i = z :: ws.drop (i + 1) := by
  obtain ⟨lt, e⟩ := List.getElem?_eq_some_iff.mp h
  rw [← e]
  exact List.drop_eq_getElem_cons lt
theorem take_skip {ws : List Str} {st i : Nat} {z : Str} (h : ws[i]? = some z) (hi : st ≤ i) : (ws.drop st).take (i + 1 - st) = (ws.drop st).take (i - st) ++ [z] := by
  have e : (ws.drop st)[i - st]? = some z := by
    rw [List.getElem?_drop]
    have : st + (i - st) = i := by omega
    rw [this]
    exact h
  have e2 : i + 1 - st = (i - st) + 1 := by omega
  rw [e2, List.take_add_one, e]
  rfl
theorem UpTo.skip {ws : List Str} {st i : Nat} {z : Str} (u : UpTo ws st i) (h : ws[i]? = some z) (hi : st ≤ i) (n : nameB z = false) : UpTo ws st (i + 1) := by
  unfold UpTo at u ⊢
  rw [take_skip h hi, namesIn_append]
  have e : [z].filter nameB = [] := by simp [n]
  rw [e]
  exact u
theorem fits_true {ws : List Str} {st i : Nat} (h : fitsB ws st i = true) : ∃ z, ws[i]? = some z ∧ nameB z = true ∧ UpTo ws st (i + 1) := by
  unfold fitsB at h
  cases q : ws[i]? with
  | none =>
    rw [q] at h
    cases h
  | some z =>
    rw [q] at h
    have h : (nameB z && decide ((namesIn ((ws.drop st).take (i + 1 - st))).length ≤ 3)) = true := h
    rw [Bool.and_eq_true, decide_eq_true_eq] at h
    exact ⟨z, rfl, h.1, h.2⟩
/-! ### soundness -/
theorem names_sound {ws : List Str} {st : Nat} : ∀ (f i : Nat) (acc : List Str) (r : List Str × Nat), namesAtF ws st f i acc = .ok r →
    ∃ ns, ns ≠ [] ∧ r.1 = acc ++ ns ∧ ws.drop i = starW ns ++ ws.drop r.2 ∧ (∀ x ∈ ns, nameB x = true) ∧ ns.length ≤ f ∧ UpTo ws st r.2
  | 0, _, _, _, h => nomatch h
  | f + 1, i, acc, r, h => by
    unfold namesAtF at h
    cases hf : fitsB ws st i with
    | false =>
      rw [if_pos hf] at h
      cases h
    | true =>
      obtain ⟨z, hz, nz, up⟩ := fits_true hf
      have hg : ws.getD i "" = z := by
        rw [List.getD_eq_getElem?_getD, hz]
        rfl
      rw [if_neg (by rw [hf]; exact Bool.true_eq_false.mp |> fun x y => Bool.noConfusion y), hg] at h
      by_cases hs : ws[i + 1]? = some ("*" : Str)
      · rw [if_pos hs] at h
        by_cases h3 : (acc ++ [z]).length = 3
        · rw [if_pos h3] at h
          cases h
        · rw [if_neg h3] at h
          obtain ⟨ns, n0, e1, e2, hn, l, u⟩ := names_sound f (i + 2) (acc ++ [z]) r h
          refine ⟨z :: ns, List.cons_ne_nil _ _, by rw [e1, List.append_assoc]; rfl, ?_, fun x hx => ?_, by simpa using l, u⟩
          · rw [drop_at hz, drop_at hs, e2]
            cases ns with
            | nil => exact absurd rfl n0
            | cons a b => rfl
          · rcases List.mem_cons.mp hx with e | hx
            · rw [e]
              exact nz
            · exact hn x hx
      · rw [if_neg hs] at h
        cases h
        exact ⟨[z], List.cons_ne_nil _ _, rfl, drop_at hz, fun x hx => by rw [List.mem_singleton.mp hx]; exact nz, by simp, up⟩
theorem partW_one {ns : List Str} (h : ns ≠ []) : partW 1 ns = ns := if_pos ⟨rfl, h⟩
theorem partW_ne1 {s : Int} {ns : List Str} (h : s ≠ 1) : partW s ns = strI s :: ns := if_neg fun w => h w.1
theorem partW_nil {s : Int} : partW s [] = [strI s] := if_neg fun w => w.2 rfl
theorem star_cons {p : Str} {ns : List Str} (h : ns ≠ []) : starW (p :: ns) = p :: "*" :: starW ns := by
  cases ns with
  | nil => exact absurd rfl h
  | cons a b => rfl
theorem term_sound {ws : List Str} {st i : Nat} {sg : Str} {r : Term × Nat} (k : sg = "=" ∨ sg = "+" ∨ sg = "-") (hi : st ≤ i) (u : UpTo ws st i) (h : termAtF ws st i sg = .ok r) :
    ws.drop i = termWs (if sg = "-" then -r.1.1 else r.1.1) r.1.2 ++ ws.drop r.2 ∧ TermFine r.1 ∧ SgOk sg r.1.1 ∧ UpTo ws st r.2 := by
  unfold termAtF at h
  cases hz : ws[i]? with
  | none =>
    rw [hz] at h
    cases h
  | some z =>
    rw [hz] at h
    by_cases hn : nameB z = true
    · have h2 : (if nameB z = true then withF (if sg = "-" then -1 else 1) (namesAtF ws st 3 i []) else _) = .ok r := h
      rw [if_pos hn] at h2
      obtain ⟨q, e, rfl⟩ := withF_ok h2
      obtain ⟨ns, n0, e1, e2, hx, l, u2⟩ := names_sound 3 i [] q e
      have e1' : q.1 = ns := e1
      show ws.drop i = termWs (if sg = "-" then -(if sg = "-" then -1 else 1) else (if sg = "-" then -1 else 1)) q.1 ++ ws.drop q.2 ∧ _
      have e3 : (if sg = "-" then -(if sg = "-" then (-1 : Int) else 1) else (if sg = "-" then -1 else 1)) = 1 := by
        by_cases c : sg = "-"
        · simp [c]
        · simp [c]
      rw [e3, e1']
      refine ⟨?_, ⟨?_, ?_, l, hx⟩, ⟨k, fun c => ?_, fun c => ?_, ?_, ?_⟩, u2⟩
      · unfold termWs
        rw [partW_one n0]
        exact e2
      · show -999999 ≤ (if sg = "-" then (-1 : Int) else 1)
        split <;> omega
      · show (if sg = "-" then (-1 : Int) else 1) ≤ 999999
        split <;> omega
      · show (if sg = "-" then (-1 : Int) else 1) < 0
        rw [if_pos c]
        decide
      · have : ¬ sg = "-" := by rw [c]; decide +kernel
        show 0 ≤ (if sg = "-" then (-1 : Int) else 1)
        rw [if_neg this]
        decide
      · show -999999 ≤ (if sg = "-" then (-1 : Int) else 1)
        split <;> omega
      · show (if sg = "-" then (-1 : Int) else 1) ≤ 999999
        split <;> omega
    · have h2 : (if nameB z = true then withF (if sg = "-" then -1 else 1) (namesAtF ws st 3 i []) else _) = .ok r := h
      rw [if_neg hn] at h2
      have hn' : nameB z = false := by simpa using hn
      cases hf : facOf z sg with
      | none =>
        rw [hf] at h2
        cases h2
      | some f =>
        rw [hf] at h2
        have h3 : (if ws[i + 1]? = some ("*" : Str) then (if z = "1" then .error (i + 1) else withF f (namesAtF ws st 3 (i + 2) [])) else .ok ((f, []), i + 1) : Except Nat (Term × Nat)) = .ok r := h2
        obtain ⟨ez, lo, hi2, m, p⟩ := facOf_sound hf
        have sk : SgOk sg f := ⟨k, m, p, lo, hi2⟩
        by_cases hs : ws[i + 1]? = some ("*" : Str)
        · rw [if_pos hs] at h3
          by_cases h1 : z = "1"
          · rw [if_pos h1] at h3
            cases h3
          · rw [if_neg h1] at h3
            obtain ⟨q, e, rfl⟩ := withF_ok h3
            obtain ⟨ns, n0, e1, e2, hx, l, u2⟩ := names_sound 3 (i + 2) [] q e
            have e1' : q.1 = ns := e1
            refine ⟨?_, ⟨lo, hi2, by show q.1.length ≤ 3; rw [e1']; exact l, by show ∀ x ∈ q.1, _; rw [e1']; exact hx⟩, sk, u2⟩
            show ws.drop i = termWs (if sg = "-" then -f else f) q.1 ++ ws.drop q.2
            have ne1 : (if sg = "-" then -f else f) ≠ 1 := fun w => h1 (by rw [ez, w, strI_one])
            unfold termWs
            rw [partW_ne1 ne1, e1', star_cons n0, ← ez, drop_at hz, drop_at hs, e2]
            rfl
        · rw [if_neg hs] at h3
          cases h3
          refine ⟨?_, ⟨lo, hi2, by show 0 ≤ 3; decide, fun x hx => nomatch hx⟩, sk, u.skip hz hi hn'⟩
          show ws.drop i = termWs (if sg = "-" then -f else f) [] ++ ws.drop (i + 1)
          unfold termWs
          rw [partW_nil, ← ez, drop_at hz]
          rfl
theorem more_cons {s : Str} {t : Term} {r : List Term} (k : s = "+" ∨ s = "-") (h : SgOk s t.1) : moreWs (t :: r) = s :: (termWs (if s = "-" then -t.1 else t.1) t.2 ++ moreWs r) := by
  show (if t.1 < 0 then "-" else "+" : Str) :: (termWs (if t.1 < 0 then -t.1 else t.1) t.2 ++ moreWs r) = _
  rcases k with rfl | rfl
  · have := h.p rfl
    have c : ¬ ("+" : Str) = "-" := by decide +kernel
    rw [if_neg (by omega), if_neg (by omega), if_neg c]
  · have := h.m rfl
    rw [if_pos this, if_pos this, if_pos rfl]
theorem terms_sound {ws : List Str} {st : Nat} : ∀ (f i : Nat) (sg : Str) (acc ts : List Term), (sg = "=" ∨ sg = "+" ∨ sg = "-") → st ≤ i → UpTo ws st i → termsOfF ws st f i sg acc = .ok ts →
    ∃ (t : Term) (r : List Term), ts = acc ++ t :: r ∧ ws.drop i = termWs (if sg = "-" then -t.1 else t.1) t.2 ++ moreWs r ∧ SgOk sg t.1 ∧ (∀ u ∈ t :: r, TermFine u) ∧ (t :: r).length ≤ f ∧ UpTo ws st ws.length
  | 0, _, _, _, _, _, _, _, h => nomatch h
  | f + 1, i, sg, acc, ts, k, hi, u, h => by
    unfold termsOfF at h
    cases hT : termAtF ws st i sg with
    | error e =>
      rw [hT] at h
      cases h
    | ok r =>
      rw [hT] at h
      obtain ⟨b1, b2⟩ := termAt_behind hT
      obtain ⟨e1, tf, sk, u2⟩ := term_sound k hi u hT
      have h : (match ws[r.2]? with | none => .ok (acc ++ [r.1]) | some s => if (¬ (s = "+" ∨ s = "-")) ∨ (acc ++ [r.1]).length = 4 then .error r.2 else termsOfF ws st f (r.2 + 1) s (acc ++ [r.1]) : Except Nat (List Term)) = .ok ts := h
      cases hs : ws[r.2]? with
      | none =>
        rw [hs] at h
        cases h
        have le : ws.length ≤ r.2 := List.getElem?_eq_none_iff.mp hs
        have e2 : r.2 = ws.length := by omega
        refine ⟨r.1, [], rfl, ?_, sk, fun x hx => by rw [List.mem_singleton.mp hx]; exact tf, by simp, by rw [← e2]; exact u2⟩
        rw [e1, e2, List.drop_length]
        rfl
      | some s =>
        rw [hs] at h
        have h : (if (¬ (s = "+" ∨ s = "-")) ∨ (acc ++ [r.1]).length = 4 then .error r.2 else termsOfF ws st f (r.2 + 1) s (acc ++ [r.1]) : Except Nat (List Term)) = .ok ts := h
        by_cases c : (¬ (s = "+" ∨ s = "-")) ∨ (acc ++ [r.1]).length = 4
        · rw [if_pos c] at h
          cases h
        · rw [if_neg c] at h
          have ks : s = "+" ∨ s = "-" := Classical.not_not.mp fun w => c (.inl w)
          have ns : nameB s = false := by
            rcases ks with e | e
            · rw [e]
              exact noName_plus
            · rw [e]
              exact noName_minus
          obtain ⟨t2, r2, e3, e4, sk2, tf2, l2, u3⟩ := terms_sound f (r.2 + 1) s (acc ++ [r.1]) ts (.inr ks) (by omega) (u2.skip hs (by omega) ns) h
          refine ⟨r.1, t2 :: r2, by rw [e3, List.append_assoc]; rfl, ?_, sk, fun x hx => ?_, by simpa using l2, u3⟩
          · rw [e1, drop_at hs, e4, more_cons ks sk2]
          · rcases List.mem_cons.mp hx with e | hx
            · rw [e]
              exact tf
            · exact tf2 x hx
/-! ### the names of written words -/
theorem filter_star : ∀ {ps : List Str}, (starW ps).filter nameB = ps.filter nameB
  | [] => rfl
  | [p] => rfl
  | p :: q :: r => by
    have e := filter_star (ps := q :: r)
    show (p :: "*" :: starW (q :: r)).filter nameB = (p :: q :: r).filter nameB
    rw [List.filter_cons, List.filter_cons (x := ("*" : Str)), noName_star, e, List.filter_cons (x := p)]
    rfl
theorem filter_all {ns : List Str} (h : ∀ x ∈ ns, nameB x = true) : ns.filter nameB = ns := List.filter_eq_self.mpr h
theorem filter_term {s : Int} {ns : List Str} (h : ∀ x ∈ ns, nameB x = true) : (termWs s ns).filter nameB = ns := by
  unfold termWs
  rw [filter_star]
  unfold partW
  split
  · exact filter_all h
  · rw [List.filter_cons, strI_noName, filter_all h]
    rfl
theorem filter_more : ∀ {r : List Term}, (∀ t ∈ r, TermFine t) → (moreWs r).filter nameB = (r.map (·.2)).flatten
  | [], _ => rfl
  | t :: r, h => by
    have e := filter_more (r := r) fun x hx => h x (List.mem_cons_of_mem _ hx)
    have hn := (h t (List.mem_cons_self ..)).2.2.2
    show ((if t.1 < 0 then "-" else "+" : Str) :: (termWs (if t.1 < 0 then -t.1 else t.1) t.2 ++ moreWs r)).filter nameB = t.2 ++ (r.map (·.2)).flatten
    have e2 : nameB (if t.1 < 0 then "-" else "+" : Str) = false := by
      split
      · exact noName_minus
      · exact noName_plus
    rw [List.filter_cons, e2, List.filter_append, filter_term hn, e]
    rfl
theorem filter_words {ts : List Term} (h : ∀ t ∈ ts, TermFine t) : (allWs ts).filter nameB = (ts.map (·.2)).flatten := by
  cases ts with
  | nil => rfl
  | cons t r =>
    show (termWs t.1 t.2 ++ moreWs r).filter nameB = t.2 ++ (r.map (·.2)).flatten
    rw [List.filter_append, filter_term (h t (List.mem_cons_self ..)).2.2.2, filter_more fun x hx => h x (List.mem_cons_of_mem _ hx)]
theorem foldl_flat : ∀ (ts : List Term) (acc : List Str), ((ts.map (·.2)).flatten).foldl addN acc = unlikeF acc ts
  | [], _ => rfl
  | t :: r, acc => by
    show (t.2 ++ (r.map (·.2)).flatten).foldl addN acc = unlikeF (t.2.foldl addN acc) r
    rw [List.foldl_append, foldl_flat r]
theorem namesIn_words {ts : List Term} (h : ∀ t ∈ ts, TermFine t) : namesIn (allWs ts) = unlike ts := by
  unfold namesIn
  rw [filter_words h, foldl_flat]
  rfl
/-- THE READER is right: what it reads was written so -/
theorem read_sound {ws : List Str} {st : Nat} {ts : List Term} (hs : st ≤ ws.length) (h : termsOfF ws st 4 st "=" [] = .ok ts) : Fine ts ∧ ws.drop st = allWs ts := by
  have u0 : UpTo ws st st := by
    unfold UpTo
    rw [Nat.sub_self, List.take_zero]
    show 0 ≤ 3
    decide
  obtain ⟨t, r, rfl, e2, sk, tf, l, u⟩ := terms_sound 4 st "=" [] ts (.inl rfl) (Nat.le_refl _) u0 h
  have ne : ¬ ("=" : Str) = "-" := by decide +kernel
  rw [if_neg ne] at e2
  have e3 : ws.drop st = allWs (t :: r) := e2
  refine ⟨⟨by show 1 ≤ (t :: r).length; simp, l, tf, ?_⟩, e3⟩
  show (unlike (t :: r)).length ≤ 3
  rw [← namesIn_words tf, ← e3]
  unfold UpTo at u
  rw [List.take_of_length_le (by rw [List.length_drop]; exact Nat.le_refl _)] at u
  exact u
end LC
/-! LcRead3: what was written is read. -/
namespace LC
open PySem PySem.Spec PyProof.Rows L2 TL
theorem from_drop {α : Type} {ws rest : List α} {i : Nat} {z : α} (h : ws.drop i = z :: rest) : ws[i]? = some z ∧ ws.drop (i + 1) = rest := by
  constructor
  · have e := congrArg List.head? h
    rw [List.head?_drop] at e
    exact e
  · have e := congrArg List.tail h
    rw [List.tail_drop] at e
    exact e
theorem fits_of {ws : List Str} {st i : Nat} {z : Str} (hz : ws[i]? = some z) (n : nameB z = true) (hu : (namesIn (ws.drop st)).length ≤ 3) : fitsB ws st i = true := by
  unfold fitsB
  rw [hz]
  show (nameB z && decide _) = true
  rw [n, decide_eq_true (Nat.le_trans (namesIn_take _ _) hu)]
  rfl
theorem names_complete {ws : List Str} {st : Nat} (hu : (namesIn (ws.drop st)).length ≤ 3) : ∀ (ns : List Str) (f i : Nat) (acc post : List Str), ns ≠ [] → ws.drop i = starW ns ++ post → post.head? ≠ some ("*" : Str) → (∀ x ∈ ns, nameB x = true) → ns.length ≤ f → acc.length + ns.length ≤ 3 →
    namesAtF ws st f i acc = .ok (acc ++ ns, i + (starW ns).length)
  | [], _, _, _, _, h, _, _, _, _, _ => absurd rfl h
  | x :: ns, 0, _, _, _, _, _, _, _, l, _ => absurd l (by simp)
  | [x], f + 1, i, acc, post, _, e, hp, hn, _, l3 => by
    obtain ⟨h1, h2⟩ := from_drop (show ws.drop i = x :: post from e)
    have hf := fits_of h1 (hn x (List.mem_cons_self ..)) hu
    have hg : ws.getD i "" = x := by
      rw [List.getD_eq_getElem?_getD, h1]
      rfl
    have hs : ¬ ws[i + 1]? = some ("*" : Str) := fun w => hp (by rw [← h2, List.head?_drop]; exact w)
    unfold namesAtF
    rw [if_neg (by rw [hf]; exact fun w => Bool.noConfusion w), if_neg hs, hg]
    rfl
  | x :: y :: r, f + 1, i, acc, post, _, e, hp, hn, lf, l3 => by
    obtain ⟨h1, h2⟩ := from_drop (show ws.drop i = x :: ("*" :: (starW (y :: r) ++ post)) from e)
    obtain ⟨h3, h4⟩ := from_drop h2
    have hf := fits_of h1 (hn x (List.mem_cons_self ..)) hu
    have hg : ws.getD i "" = x := by
      rw [List.getD_eq_getElem?_getD, h1]
      rfl
    have n3 : ¬ (acc ++ [x]).length = 3 := by
      rw [List.length_append]
      simp only [List.length_cons, List.length_nil] at l3 ⊢
      omega
    have ih := names_complete hu (y :: r) f (i + 2) (acc ++ [x]) post (by simp) h4 hp (fun q hq => hn q (List.mem_cons_of_mem _ hq)) (by simp only [List.length_cons] at lf ⊢; omega) (by
      rw [List.length_append]
      simp only [List.length_cons, List.length_nil] at l3 ⊢
      omega)
    unfold namesAtF
    rw [if_neg (by rw [hf]; exact fun w => Bool.noConfusion w), if_pos h3, hg, if_neg n3, ih]
    show Except.ok ((acc ++ [x]) ++ (y :: r), i + 2 + (starW (y :: r)).length) = Except.ok (acc ++ x :: y :: r, i + (x :: "*" :: starW (y :: r)).length)
    rw [List.append_assoc]
    have e5 : i + 2 + (starW (y :: r)).length = i + (x :: "*" :: starW (y :: r)).length := by
      simp only [List.length_cons]
      omega
    rw [e5]
    rfl
theorem strI_is_one {s : Int} (h : strI s = "1") : s = 1 := by
  have e : tl (strI s) = [49] := by
    rw [h]
    decide +kernel
  by_cases n : s < 0
  · rw [strI_neg n] at e
    have : (45 : Nat) = 49 := (List.cons.inj e).1
    omega
  · obtain ⟨k, hk⟩ : ∃ n : Nat, s = (n : Int) := ⟨s.toNat, (Int.toNat_of_nonneg (by omega)).symm⟩
    rw [hk, strI_nat] at e
    have v := numL_val k
    rw [e] at v
    have : NumText.digitsVal [49] = 1 := by decide
    omega
theorem term_complete {ws : List Str} {st i : Nat} {sg : Str} {t : Term} {post : List Str} (hu : (namesIn (ws.drop st)).length ≤ 3) (k : SgOk sg t.1) (tf : TermFine t) (e : ws.drop i = termWs (if sg = "-" then -t.1 else t.1) t.2 ++ post) (hp : post.head? ≠ some ("*" : Str)) :
    termAtF ws st i sg = .ok (t, i + (termWs (if sg = "-" then -t.1 else t.1) t.2).length) := by
  obtain ⟨lo, hi, l3, hn⟩ := tf
  obtain ⟨f, ns⟩ := t
  have l3 : ns.length ≤ 3 := l3
  generalize hs : (if sg = "-" then -f else f) = s at e ⊢
  have e : ws.drop i = termWs s ns ++ post := by rw [← hs]; exact (by rw [hs]; exact e)
  show termAtF ws st i sg = .ok ((f, ns), i + (termWs s ns).length)
  by_cases c : s = 1 ∧ ns ≠ []
  · obtain ⟨c1, c2⟩ := c
    have ew : termWs s ns = starW ns := by
      unfold termWs
      rw [c1, partW_one c2]
    rw [ew] at e ⊢
    have nm := names_complete hu ns 3 i [] post c2 e hp hn l3 (by show 0 + ns.length ≤ 3; omega)
    obtain ⟨x, rest, er⟩ : ∃ x rest, starW ns ++ post = x :: rest ∧ nameB x = true := by
      cases ns with
      | nil => exact absurd rfl c2
      | cons x r =>
        cases r with
        | nil => exact ⟨x, post, rfl, hn x (List.mem_cons_self ..)⟩
        | cons y r => exact ⟨x, _, rfl, hn x (List.mem_cons_self ..)⟩
    obtain ⟨er, nx⟩ := er
    rw [er] at e
    obtain ⟨h1, _⟩ := from_drop e
    unfold termAtF
    rw [h1]
    show (if nameB x = true then withF (if sg = "-" then -1 else 1) (namesAtF ws st 3 i []) else _) = _
    rw [if_pos nx, nm]
    show Except.ok (((if sg = "-" then (-1 : Int) else 1), [] ++ ns), i + (starW ns).length) = _
    have ef : (if sg = "-" then (-1 : Int) else 1) = f := by
      by_cases d : sg = "-"
      · rw [if_pos d] at hs ⊢
        omega
      · rw [if_neg d] at hs ⊢
        omega
    rw [ef]
    rfl
  · have ew : termWs s ns = starW (strI s :: ns) := by
      unfold termWs partW
      rw [if_neg c]
    have fc : facOf (strI s) sg = some f := by
      rw [← hs]
      exact facOf_complete k
    rw [ew] at e ⊢
    cases ns with
    | nil =>
      obtain ⟨h1, h2⟩ := from_drop (show ws.drop i = strI s :: post from e)
      have nst : ¬ ws[i + 1]? = some ("*" : Str) := fun w => hp (by rw [← h2, List.head?_drop]; exact w)
      unfold termAtF
      rw [h1]
      show (if nameB (strI s) = true then _ else match facOf (strI s) sg with | none => .error i | some f => if ws[i + 1]? = some ("*" : Str) then (if strI s = "1" then .error (i + 1) else withF f (namesAtF ws st 3 (i + 2) [])) else .ok ((f, []), i + 1) : Except Nat (Term × Nat)) = _
      rw [if_neg (by rw [strI_noName]; exact fun w => Bool.noConfusion w), fc]
      show (if ws[i + 1]? = some ("*" : Str) then _ else .ok ((f, []), i + 1) : Except Nat (Term × Nat)) = _
      rw [if_neg nst]
      rfl
    | cons x r =>
      have n1 : ¬ strI s = "1" := fun w => c ⟨strI_is_one w, List.cons_ne_nil _ _⟩
      obtain ⟨h1, h2⟩ := from_drop (show ws.drop i = strI s :: ("*" :: (starW (x :: r) ++ post)) from e)
      obtain ⟨h3, h4⟩ := from_drop h2
      have nm := names_complete hu (x :: r) 3 (i + 2) [] post (List.cons_ne_nil _ _) h4 hp hn l3 (by show 0 + (x :: r).length ≤ 3; omega)
      unfold termAtF
      rw [h1]
      show (if nameB (strI s) = true then _ else match facOf (strI s) sg with | none => .error i | some f => if ws[i + 1]? = some ("*" : Str) then (if strI s = "1" then .error (i + 1) else withF f (namesAtF ws st 3 (i + 2) [])) else .ok ((f, []), i + 1) : Except Nat (Term × Nat)) = _
      rw [if_neg (by rw [strI_noName]; exact fun w => Bool.noConfusion w), fc]
      show (if ws[i + 1]? = some ("*" : Str) then (if strI s = "1" then .error (i + 1) else withF f (namesAtF ws st 3 (i + 2) [])) else .ok ((f, []), i + 1) : Except Nat (Term × Nat)) = _
      rw [if_pos h3, if_neg n1, nm]
      show Except.ok ((f, [] ++ x :: r), i + 2 + (starW (x :: r)).length) = Except.ok ((f, x :: r), i + (strI s :: "*" :: starW (x :: r)).length)
      have e5 : i + 2 + (starW (x :: r)).length = i + (strI s :: "*" :: starW (x :: r)).length := by
        simp only [List.length_cons]
        omega
      rw [e5]
      rfl
theorem sg_of (t : Term) (h : TermFine t) : ∃ s : Str, (s = "+" ∨ s = "-") ∧ SgOk s t.1 := by
  by_cases n : t.1 < 0
  · exact ⟨"-", .inr rfl, .inr (.inr rfl), fun _ => n, fun e => absurd e (by decide +kernel), h.1, h.2.1⟩
  · exact ⟨"+", .inl rfl, .inr (.inl rfl), fun e => absurd e (by decide +kernel), fun _ => by omega, h.1, h.2.1⟩
theorem terms_complete {ws : List Str} {st : Nat} (hu : (namesIn (ws.drop st)).length ≤ 3) : ∀ (r : List Term) (t : Term) (f i : Nat) (sg : Str) (acc : List Term), SgOk sg t.1 → (∀ u ∈ t :: r, TermFine u) → ws.drop i = termWs (if sg = "-" then -t.1 else t.1) t.2 ++ moreWs r → (t :: r).length ≤ f → acc.length + (t :: r).length ≤ 4 →
    termsOfF ws st f i sg acc = .ok (acc ++ t :: r)
  | r, t, 0, _, _, _, _, _, _, l, _ => absurd l (by simp)
  | [], t, f + 1, i, sg, acc, k, tf, e, _, l4 => by
    have tc := term_complete hu k (tf t (List.mem_cons_self ..)) e (by simp [moreWs])
    generalize hl : (termWs (if sg = "-" then -t.1 else t.1) t.2).length = l at tc
    have e2 : ws.drop (i + l) = [] := by
      rw [← List.drop_drop, e, ← hl, List.drop_left]
      rfl
    have hs : ws[i + l]? = none := by
      rw [← List.head?_drop, e2]
      rfl
    unfold termsOfF
    rw [tc]
    show (match ws[i + l]? with | none => .ok (acc ++ [t]) | some s => _ : Except Nat (List Term)) = _
    rw [hs]
  | t2 :: r, t, f + 1, i, sg, acc, k, tf, e, lf, l4 => by
    obtain ⟨s, ks, sk⟩ := sg_of t2 (tf t2 (List.mem_cons_of_mem _ (List.mem_cons_self ..)))
    rw [more_cons ks sk] at e
    have nst : ¬ (some s = some ("*" : Str)) := fun w => by
      have w := Option.some.inj w
      rcases ks with z | z
      · rw [z] at w
        exact absurd w (by decide +kernel)
      · rw [z] at w
        exact absurd w (by decide +kernel)
    have tc := term_complete hu k (tf t (List.mem_cons_self ..)) e nst
    generalize hl : (termWs (if sg = "-" then -t.1 else t.1) t.2).length = l at tc
    have e2 : ws.drop (i + l) = s :: (termWs (if s = "-" then -t2.1 else t2.1) t2.2 ++ moreWs r) := by
      rw [← List.drop_drop, e, ← hl, List.drop_left]
    obtain ⟨h1, h2⟩ := from_drop e2
    have ih := terms_complete hu r t2 f (i + l + 1) s (acc ++ [t]) sk (fun u hu => tf u (List.mem_cons_of_mem _ hu)) h2 (by simp only [List.length_cons] at lf ⊢; omega) (by
      rw [List.length_append]
      simp only [List.length_cons, List.length_nil] at l4 ⊢
      omega)
    have c : ¬ ((¬ (s = "+" ∨ s = "-")) ∨ (acc ++ [t]).length = 4) := by
      rintro (w | w)
      · exact w ks
      · rw [List.length_append] at w
        simp only [List.length_cons, List.length_nil] at l4 w
        omega
    unfold termsOfF
    rw [tc]
    show (match ws[i + l]? with | none => .ok (acc ++ [t]) | some s => if (¬ (s = "+" ∨ s = "-")) ∨ (acc ++ [t]).length = 4 then .error (i + l) else termsOfF ws st f (i + l + 1) s (acc ++ [t]) : Except Nat (List Term)) = _
    rw [h1]
    show (if (¬ (s = "+" ∨ s = "-")) ∨ (acc ++ [t]).length = 4 then .error (i + l) else termsOfF ws st f (i + l + 1) s (acc ++ [t]) : Except Nat (List Term)) = _
    rw [if_neg c, ih, List.append_assoc]
    rfl
/-- THE READER reads what was written -/
theorem read_complete {ws : List Str} {st : Nat} {ts : List Term} (h : Fine ts) (e : ws.drop st = allWs ts) : termsOfF ws st 4 st "=" [] = .ok ts := by
  obtain ⟨l1, l4, tf, u⟩ := h
  cases ts with
  | nil => exact absurd l1 (by decide)
  | cons t r =>
    have hu : (namesIn (ws.drop st)).length ≤ 3 := by
      rw [e, namesIn_words tf]
      exact u
    have f := tf t (List.mem_cons_self ..)
    have ne : ¬ ("=" : Str) = "-" := by decide +kernel
    have k : SgOk "=" t.1 := ⟨.inl rfl, fun w => absurd w (by decide +kernel), fun w => absurd w (by decide +kernel), f.1, f.2.1⟩
    refine terms_complete hu r t 4 st "=" [] k tf ?_ l4 (by show 0 + _ ≤ 4; omega)
    rw [if_neg ne]
    exact e
/-! ### texts -/
theorem num_noSpace (f : Int) : 32 ∉ tl (strI f) := by
  by_cases n : f < 0
  · rw [strI_neg n]
    intro h
    rcases List.mem_cons.mp h with e | h
    · omega
    · exact numL_free (.inl (by decide)) h
  · obtain ⟨k, hk⟩ : ∃ n : Nat, f = (n : Int) := ⟨f.toNat, (Int.toNat_of_nonneg (by omega)).symm⟩
    rw [hk, strI_nat]
    exact numL_free (.inl (by decide))
theorem name_noSpace {z : Str} (h : nameB z = true) : 32 ∉ tl z := fun w => by
  have := name_chars h 32 w
  omega
theorem mem_star : ∀ {ps : List Str} {p : Str}, p ∈ starW ps → p ∈ ps ∨ p = "*"
  | [], _, h => nomatch h
  | [q], p, h => .inl h
  | a :: b :: r, p, h => by
    rcases List.mem_cons.mp (show p ∈ a :: ("*" :: starW (b :: r)) from h) with e | h
    · exact .inl (by rw [e]; exact List.mem_cons_self ..)
    · rcases List.mem_cons.mp h with e | h
      · exact .inr e
      · exact (mem_star h).imp (List.mem_cons_of_mem _) id
theorem term_noSpace {s : Int} {ns : List Str} (h : ∀ x ∈ ns, nameB x = true) : ∀ p ∈ termWs s ns, 32 ∉ tl p := fun p hp => by
  rcases mem_star hp with hp | e
  · unfold partW at hp
    split at hp
    · exact name_noSpace (h p hp)
    · rcases List.mem_cons.mp hp with e | hp
      · rw [e]
        exact num_noSpace s
      · exact name_noSpace (h p hp)
  · rw [e]
    decide +kernel
theorem more_noSpace : ∀ {r : List Term}, (∀ t ∈ r, TermFine t) → ∀ p ∈ moreWs r, 32 ∉ tl p
  | [], _, _, h => nomatch h
  | t :: r, h, p, hp => by
    rcases List.mem_cons.mp (show p ∈ (if t.1 < 0 then "-" else "+" : Str) :: (termWs (if t.1 < 0 then -t.1 else t.1) t.2 ++ moreWs r) from hp) with e | hp
    · rw [e]
      split <;> decide +kernel
    · rcases List.mem_append.mp hp with hp | hp
      · exact term_noSpace (h t (List.mem_cons_self ..)).2.2.2 p hp
      · exact more_noSpace (fun x hx => h x (List.mem_cons_of_mem _ hx)) p hp
theorem words_noSpace {ts : List Term} (h : ∀ t ∈ ts, TermFine t) : ∀ p ∈ allWs ts, 32 ∉ tl p := fun p hp => by
  cases ts with
  | nil => cases hp
  | cons t r =>
    rcases List.mem_append.mp (show p ∈ termWs t.1 t.2 ++ moreWs r from hp) with hp | hp
    · exact term_noSpace (h t (List.mem_cons_self ..)).2.2.2 p hp
    · exact more_noSpace (fun x hx => h x (List.mem_cons_of_mem _ hx)) p hp
theorem sumText_words (ts : List Term) : sumText ts = Txt.join " " (allWs ts) := ext_tl (by rw [tl_sumText, join_eq, tl_join, tl_sp])
theorem split_sumText {ts : List Term} (h : ∀ t ∈ ts, TermFine t) (n : ts ≠ []) : Txt.split (sumText ts) " " = allWs ts := by
  rw [sumText_words]
  refine split_join (s := 32) (S := []) tl_sp (by decide +kernel) ?_ (words_noSpace h)
  cases ts with
  | nil => exact absurd rfl n
  | cons t r =>
    show termWs t.1 t.2 ++ moreWs r ≠ []
    cases q : termWs t.1 t.2 with
    | nil => exact absurd q (termWs_ne _ _)
    | cons a b => simp
theorem join_words (x : Str) : Txt.join " " (Txt.split x " ") = x := by
  rw [join_eq]
  exact PySem.StrLaws.join_split x " "
theorem Fine.ne {ts : List Term} (h : Fine ts) : ts ≠ [] := fun e => by
  have := h.1
  rw [e] at this
  exact absurd this (by decide)
/-- the package's own reading of a text -/
def readF (x : Str) : Option (List Term) := match termsOfF (Txt.split x " ") 0 4 0 "=" [] with
  | .ok ts => some ts
  | .error _ => none
theorem readF_iff {x : Str} {ts : List Term} : readF x = some ts ↔ Fine ts ∧ x = sumText ts := by
  unfold readF
  constructor
  · intro h
    cases e : termsOfF (Txt.split x " ") 0 4 0 "=" [] with
    | error k =>
      rw [e] at h
      cases h
    | ok us =>
      rw [e] at h
      cases Option.some.inj h
      obtain ⟨f, w⟩ := read_sound (Nat.zero_le _) e
      refine ⟨f, ?_⟩
      rw [sumText_words, ← w, List.drop_zero, join_words]
  · rintro ⟨f, rfl⟩
    have e : (Txt.split (sumText ts) " ").drop 0 = allWs ts := by rw [List.drop_zero, split_sumText f.2.2.1 f.ne]
    rw [read_complete f e]
end LC
namespace LC
open PySem PySem.Spec PyProof.Rows L2 TL
section
variable {P : Program} {w : World} {K : PySem.W.Frag} {mg : Str → Option Value} {base : Heap}
theorem ok_BadSumH {f C : Addr} {fd : FuncData} (o : OexC K C) (no : PySem.W.findIn K (.ref C) "at" = some none) (F : FunD K "__init__" "BadSum.__init__" (defArgs s_BadSum_init) (defBody s_BadSum_init) (defScope s_BadSum_init) [] [] f fd) : L2H.FnH P w K mg base CX0 1 f fd ["self", "at"] (spErr C "at") := by
  have sc := sc_BadSum_init
  obtain ⟨oc, od, dV, kV, doc, pm, an, cdv, ct, osl, rfl, lk, hcd, hD, _⟩ := F.ex
  refine L2H.fn_ofH lk hcd sc (fun vs H Q E h => ?_) (fun A outer s H vs Q E p hot hr h => ?_)
  · obtain ⟨a, v, rfl, _⟩ := h
    rfl
  · obtain ⟨a, v, rfl, ha, q⟩ := h
    refine ⟨_, (pss_one (ps_ost (pv 0) (pv 1))), ?_⟩
    exact ⟨v, rfl, .ref a, rfl, a, C, rfl, o, no, .inl ⟨ha, fun dx n ne => q dx n ne⟩⟩
/-! texts and their words -/
theorem joinL_size {S : List Nat} : ∀ {ps : List (List Nat)}, ps ≠ [] → (joinL S ps).length = (ps.map (·.length)).sum + (ps.length - 1) * S.length
  | [], h => absurd rfl h
  | [p], _ => by simp [joinL]
  | p :: q :: r, _ => by
    have e := joinL_size (S := S) (ps := q :: r) (by simp)
    show (p ++ (S ++ joinL S (q :: r))).length = _
    rw [List.length_append, List.length_append, e]
    simp only [List.map_cons, List.sum_cons, List.length_cons]
    have e2 : r.length + 1 + 1 - 1 = (r.length + 1 - 1) + 1 := by omega
    rw [e2, Nat.add_mul]
    omega
theorem le_sum {x : Nat} : ∀ {l : List Nat}, x ∈ l → x ≤ l.sum
  | [], h => nomatch h
  | y :: r, h => by
    rw [List.sum_cons]
    rcases List.mem_cons.mp h with e | h
    · omega
    · have := le_sum h
      omega
theorem words_few (x : Str) : (Txt.split x " ").length ≤ x.length + 1 ∧ ∀ z ∈ Txt.split x " ", z.length ≤ x.length := by
  have e := join_words x
  by_cases h : Txt.split x " " = []
  · rw [h]
    exact ⟨Nat.zero_le _, fun z hz => nomatch hz⟩
  · have e2 : tl x = joinL [32] ((Txt.split x " ").map tl) := by
      conv => lhs; rw [← e]
      rw [join_eq, tl_join, tl_sp]
    have e3 := joinL_size (S := [32]) (ps := (Txt.split x " ").map tl) (fun w => h (List.map_eq_nil_iff.mp w))
    rw [← e2] at e3
    have e4 : (tl x).length = x.length := rfl
    rw [e4, List.length_map] at e3
    have e5 : ([32] : List Nat).length = 1 := rfl
    rw [e5] at e3
    refine ⟨by omega, fun z hz => ?_⟩
    have m : z.length ∈ ((Txt.split x " ").map tl).map (·.length) := by
      rw [List.map_map]
      exact List.mem_map.mpr ⟨z, hz, rfl⟩
    have := le_sum m
    omega
/-- Sum.read(v) -/
def spReadSum (K : PySem.W.Frag) (C CS CM : Addr) : Sp := fun vs H Q E => ∃ (v : V), vs = [.ref C, v] ∧
  ((∃ t, TyX K H v t ∧ PySem.W.kitOne K t (.type "str") = some false ∧ ∀ cls d H', Same H H' → Bad CS CM "sum" .non cls d H' → E cls d H') ∨
   (∃ z, v = .str z ∧ z.length ≤ 900 ∧ match readF z with
      | some ts => ∀ (x : Addr) (H' : Hp), H x = none → Same H H' → SumAt K C H' x ts → Q (.ref x) H'
      | none => ∀ cls d H', Same H H' → Bad CS CM "sum" .non cls d H' → E cls d H'))
theorem kit_strNo {K : PySem.W.Frag} {n : String} (hn : n ∈ kinds) (h : n ≠ "str") : PySem.W.kitOne K (.type n) (.type "str") = some false := by
  have a := kit_k (K := K) "str" (fun n => n == "str") (by decide +kernel) hn
  rw [beq_eq_false_iff_ne.mpr h] at a
  exact a
theorem wk_bad {CS CM : Addr} {w : Str} {v : V} {cls : Value} {d : Option Addr} {H : Hp} {dd : Addr} (e : cls = .ref CS) (ed : d = some dd) (hw : w = "sum") (h : H dd = some (.xd [("at", v)])) : Bad CS CM w v cls d H := ⟨dd, ed, .inl ⟨e, hw, h⟩⟩
theorem args_fine {K : PySem.W.Frag} {H : Hp} : ∀ {us : List V} {ts : List Term}, TermsV K H us ts → (∀ t ∈ ts, TermFine t) → Paired (ArgO K H) us (ts.map some)
  | _, _, .nil, _ => .nil
  | _, _, .cons (b := t) a r, f => .cons (by
      obtain ⟨p, q, rfl, h1, h2⟩ := a
      exact ⟨.ref q, ⟨p, rfl, .inr h1⟩, ⟨q, rfl, .inr h2⟩, f t (List.mem_cons_self ..)⟩) (args_fine r fun x hx => f x (List.mem_cons_of_mem _ hx))
theorem somes {α : Type} : ∀ ts : List α, (ts.map some).filterMap id = ts
  | [] => rfl
  | t :: r => by
    show t :: ((r.map some).filterMap id) = t :: r
    rw [somes r]
theorem noNone {α : Type} : ∀ ts : List α, (ts.map some).findIdx? (·.isNone) = none
  | [] => rfl
  | t :: r => by
    rw [List.map_cons, List.findIdx?_cons, noNone r]
    rfl
theorem sumOut_fine {ts : List Term} (h : Fine ts) : sumOut (ts.map some) = .ok ts := by
  unfold sumOut
  rw [if_neg (fun w => h.ne (List.map_eq_nil_iff.mp w)), if_neg (by rw [List.length_map]; have := h.2.1; omega), noNone]
  show (if 3 < (unlike ((ts.map some).filterMap id)).length then _ else _) = _
  rw [somes, if_neg (by have := h.2.2.2; omega)]
abbrev s_Sum_read : Stmt := inClass (topS 34) 5
theorem sc_Sum_read : FnScope ["cls", "text", "terms"] ["cls", "text"] (defScope s_Sum_read) := ⟨rfl, rfl, rfl, by decide +kernel, rfl, by decide +kernel, by decide +kernel⟩
theorem ok_read {f C CS CM CT fS fN : Addr} {fd fdS : FuncData} (T : Txt mg) (S : SumTxt K mg C) (M : Mk K C fN) (ES : ErrH P w K mg base "BadSum" "at" CS fS fdS) (gT : mg "BadText" = some (.ref CT)) (eT : PySem.W.exmOne K (.ref CT) (.ref CT) = some true)
    (FI : FnR P w K mg base (L2.CX P w) 4 fN (fun vs H Q E => ∃ ws rest, vs = ws ++ rest ∧ ws.length = 1 ∧ rest.length ≤ sizeLine ∧ ∀ p, H p = none → spInitG K C CS CM (ws ++ [V.ref p]) (upd H p (.tup rest)) Q E))
    (c_terms_of : Cal P w K mg base (L2N.CX P w) 6 "terms_of" ["words", "start", "line"] (spTermsOf K CT))
    (F : FunD K "read" "Sum.read" (defArgs s_Sum_read) (defBody s_Sum_read) (defScope s_Sum_read) [] [] f fd) : FnOk P w K mg base (L2.CX P w) 7 f fd ["cls", "text"] (spReadSum K C CS CM) := by
  have sc := sc_Sum_read
  refine F.ok sc (fun vs H Q E h => ?_) (fun cdv A outer s H vs Q E hr h => ?_)
  · obtain ⟨v, rfl, _⟩ := h
    rfl
  · obtain ⟨v, rfl, h⟩ := h
    refine ⟨_, (pss_cons (ps_if (pt_not (pt_val (pe_callB call_isi (by rfl) T.n_isinstance (by decide +kernel) (pa_cons (pv 1) (pa_cons (pe_bty "str" T.n_str (by decide +kernel)) pa_nil)))))
  (pss_one (ps_err ES.toErrC rfl hr (by decide) (takes_of rfl rfl rfl rfl) (pa_cons pe_non pa_nil)))
  pss_nil)
(pss_cons (L2H.ps_try_onlyX (c := .ref CT) (tb := fun W D σ H => ∃ z : Str, σ[1]? = some (some (.str z)) ∧ z.length ≤ 900 ∧ ∀ p, H p = none → spTermsOf K CT [.ref p, .int 0, .int 0] (upd H p (.lst ((Txt.split z " ").map V.str))) (fun v H1 => D.nx (σ.set 2 (some v)) H1) (fun cls d H1 => W cls d σ H1)) rfl rfl ⟨rfl, by decide, .inl gT⟩ (L2H.passesAt_of rfl) (takes_of rfl rfl rfl rfl) (fun W pn xe tkN tk pas => ?tryb) (fun a oe cls d pn hz hf tkS hot => pss_one (ps_errFrom ES hot (L2H.roomH_mark hr (some (.ref a))) (by decide) tkS (pa_cons pe_non pa_nil))))
(pss_one (ps_ret (pe_makeL (i := 0) M FI (hr.mono (by decide)) (passes_call (takes_of rfl rfl rfl rfl) fun _ _ _ _ h => h) rfl (.inl rfl) (pv 2)))))), ?rest⟩
    case tryb =>
      constructor
      rintro pins s1 σ H1 D In ⟨z, slot, hz, told⟩
      exact (pss_one (ps_set (i := 2) sc.nd rfl (.inl rfl) (pe_calS c_terms_of hr (by rfl) (fun σ => L2N.passAt tkN σ) (pa_cons (pe_bm PySem.F.plainAttrs_str PySem.F.slot_str_split PySem.F.type_str_split mt_split (pv 1) (pa_cons pe_str pa_nil)) (pa_cons pe_int (pa_cons pe_int pa_nil)))))).run pins s1 σ H1 D In ⟨.str z, slot, rfl, z, " ", rfl, rfl, rfl, sz_le (by omega), by exact fun p np => told p np⟩
    rcases h with ⟨n, ok, ns, e⟩ | ⟨z, rfl, hz, q⟩
    · refine ⟨v, rfl, v, .ty "str", _, _, false, rfl, .ty _, ok, ns, _, rfl, iteT ?_⟩
      exact err_of fun d H2 nd s2 ed => e _ _ _ s2 ⟨d, rfl, .inl ⟨rfl, rfl, ed⟩⟩
    · refine ⟨.str z, rfl, .str z, .ty "str", .type "str", .type "str", true, rfl, .ty _, .base (.str z), kit_ty (by decide +kernel), _, rfl, iteF ?_⟩
      obtain ⟨w1, w2⟩ := words_few z
      refine ⟨z, rfl, hz, fun p np => ?_⟩
      generalize hH0 : upd H p _ = H0
      obtain ⟨s0, e0⟩ := alloc_eq np hH0
      refine ⟨p, Txt.split z " ", 0, 0, rfl, ⟨e0, by omega, fun y hy => Nat.le_trans (w2 y hy) (by omega)⟩, Nat.zero_le _, ?_⟩
      unfold readF at q
      cases hT : termsOfF (Txt.split z " ") 0 4 0 "=" [] with
      | error i =>
        rw [hT] at q
        intro cls d H1 s1 bad
        obtain ⟨dd, rfl, rfl, ed⟩ := bad
        refine ⟨true, eT, fun _ a na => ?_, fun z => nomatch z⟩
        exact err_of fun d H2 nd s2 ed => q _ _ _ ((s0.trans s1).trans s2) ⟨d, rfl, .inl ⟨rfl, rfl, ed⟩⟩
      | ok ts =>
        rw [hT] at q
        obtain ⟨hf, _⟩ := read_sound (Nat.zero_le _) hT
        intro tl us H1 s1 etl hts
        refine ⟨rfl, .ref tl, rfl, tl, us, rfl, .inr (.of etl), ?_⟩
        intro o dx no ndx ne
        have sf := s0.trans s1
        have lu : us.length = ts.length := hts.length
        refine ⟨[.ref o], us, rfl, rfl, sz_le (by have := hf.2.1; omega), fun p2 np2 => ?_⟩
        have k1 : Same H1 (upd (upd H1 dx (.own o)) o (.ins C dx [])) := fun b u e => by
          rw [upd_ne (ne_of_none e no), upd_ne (ne_of_none e ndx)]
          exact e
        have k2 := k1.trans (same_new (o := .tup us) np2)
        refine ⟨o, p2, dx, us, ts.map some, rfl, same_new np2 o _ upd_same, .of upd_same, args_fine (hts.same k2) hf.2.2.1, by have := hf.2.1; omega, ?_⟩
        rw [sumOut_fine hf]
        intro H3 k3 sm
        refine ⟨rfl, q o H3 ?_ (fun b u e => k3 b u (ne_of_none (sf _ _ e) no) (k2 _ _ (sf _ _ e))) sm⟩
        cases w : H o with
        | none => rfl
        | some u =>
          rw [sf _ _ w] at no
          cases no
end
end LC
namespace LC
open PySem PySem.Spec PyProof.Rows L2 TL
section
variable {P : Program} {w : World} {K : PySem.W.Frag} {mg : Str → Option Value} {base : Heap}
abbrev s_Sum_terms : Stmt := inClass (topS 34) 1
theorem sc_Sum_terms : FnScope ["self"] ["self"] (defScope s_Sum_terms) := ⟨rfl, rfl, rfl, by decide +kernel, rfl, by decide +kernel, by decide +kernel⟩
abbrev s_Sum_names : Stmt := inClass (topS 34) 2
theorem sc_Sum_names : FnScope ["self"] ["self"] (defScope s_Sum_names) := ⟨rfl, rfl, rfl, by decide +kernel, rfl, by decide +kernel, by decide +kernel⟩
theorem ok_getTerms {f C : Addr} {fd : FuncData} (S : SumTxt K mg C) (F : FunD K "terms" "Sum.terms" (defArgs s_Sum_terms) (defBody s_Sum_terms) (defScope s_Sum_terms) [] [] f fd) : FnOk P w K mg base CX0 1 f fd ["self"] (getSp C "_terms") := by
  obtain ⟨oc, od, dV, kV, doc, pm, an, cdv, ct, osl, rfl, lk, hcd, hD, _⟩ := F.ex
  exact fn_getter lk hcd sc_Sum_terms rfl rfl S.cl S.nT
theorem ok_getNames {f C : Addr} {fd : FuncData} (S : SumTxt K mg C) (F : FunD K "names" "Sum.names" (defArgs s_Sum_names) (defBody s_Sum_names) (defScope s_Sum_names) [] [] f fd) : FnOk P w K mg base CX0 1 f fd ["self"] (getSp C "_names") := by
  obtain ⟨oc, od, dV, kV, doc, pm, an, cdv, ct, osl, rfl, lk, hcd, hD, _⟩ := F.ex
  exact fn_getter lk hcd sc_Sum_names rfl rfl S.cl S.nN
def flatT (ts : List Term) : Bool := ts.all fun t => decide (t.2.length ≤ 1)
abbrev s_Sum_is_flat : Stmt := inClass (topS 34) 3
theorem sc_Sum_is_flat : FnScope ["self", "_", "names"] ["self"] (defScope s_Sum_is_flat) := ⟨rfl, rfl, rfl, by decide +kernel, rfl, by decide +kernel, by decide +kernel⟩
def spFlat (K : PySem.W.Frag) (C : Addr) : Sp := fun vs H Q _ => ∃ (x : Addr) (ts : List Term), vs = [.ref x] ∧ SumAt K C H x ts ∧ ts.length ≤ 100 ∧ ∀ H', Same H H' → Q (.bl (flatT ts)) H'
theorem ok_flat {f C : Addr} {fd : FuncData} (T : Txt mg) (S : SumTxt K mg C) (F : FunD K "is_flat" "Sum.is_flat" (defArgs s_Sum_is_flat) (defBody s_Sum_is_flat) (defScope s_Sum_is_flat) [] [] f fd) : FnOk P w K mg base CX0 1 f fd ["self"] (spFlat K C) := by
  have sc := sc_Sum_is_flat
  refine F.ok sc (fun vs H Q E h => ?_) (fun cdv A outer s H vs Q E hr h => ?_)
  · obtain ⟨x, ts, rfl, _⟩ := h
    rfl
  · obtain ⟨x, ts, rfl, ⟨dx, Tp, N, us, h1, h2, h3, h4⟩, few, q⟩ := h
    refine ⟨_, PSs.nox (pss_one (ps_ret (pe_callB (cr_all rfl) (by rfl) T.n_all (by decide +kernel) (pa_cons (pe_lc (own := [("_", 1), ("names", 2)]) (g := (gTup K 2 (gCons (gName 1) (gCons (gName 2) gNil)))) (te := (tOp (rI0 fun i j => .bl (decide (i ≤ j))) (tCB (fun xs H Q => ∃ x n, xs = [x] ∧ LenV K x H n ∧ Q (.int n) H) (tCons (tVar 2) tNil)) (tC (.int 1)))) (tt := tYes) rfl sc.nd (pi_tup (pe_fld (pv 0) rfl)) (blkOk_by (N := ["self", "_", "names"]) (sc := defScope s_Sum_is_flat) (by decide +kernel)) (fun _ _ _ _ _ => by exact (pg_tup rfl (pgs_cons (pg_name (i := 1) sc.nd rfl (.inl rfl)) (pgs_cons (pg_name (i := 2) sc.nd rfl (.inl rfl)) pgs_nil)))) (fun _ _ _ _ _ => by exact pts_nil) (fun _ _ _ _ _ => by exact (pe_cmpR op_le (pe_callB call_len (by rfl) T.n_len (by decide +kernel) (pa_cons (pv 2) pa_nil)) pe_int (nomark _)))) pa_nil)))), ?_⟩
    have lu : us.length = ts.length := h3.length
    refine ⟨.ref x, rfl, x, C, dx, _, _, rfl, h1, S.cl, S.nT, sflds_terms _ _, Tp, rfl, ⟨_, h2⟩, fun D nD => ?_⟩
    refine lc_tup (K := K) (a := Tp) (xs := us) (fun i H2 => Same H H2 ∧ H2 D = some (.lst (((ts.take i).map fun t => decide (t.2.length ≤ 1)).map V.bl))) ⟨same_new nD, upd_same⟩ (fun i H2 _ h => sqt_same h.1 h2) ?_ ?_
    · rintro i v H2 hi ⟨s2, hD⟩
      obtain ⟨t, ht, a, b, rfl, g1, g2⟩ := paired_get h3 hi
      have hil : i < ts.length := (List.getElem?_eq_some_iff.mp ht).1
      refine ⟨a, _, rfl, sqt_same s2 g1, rfl, .int t.1, [.ref b], rfl, .ref b, [], rfl, rfl, rfl, tyes_of ?_⟩
      refine ⟨.ref b, rfl, .ref b, _, rfl, .inr ⟨_, sqt_same s2 g2, rfl⟩, _, 1, rfl, rfl, _, hD, ?_, fun b o e => ?_, ?_⟩
      · rw [List.length_map, List.length_map, List.length_take]
        exact sz_lt (by omega)
      · rw [upd_ne (ne_of_none e nD)]
        exact s2 _ _ e
      · rw [upd_same, take_next ht, List.map_append, List.map_append, List.length_map]
        congr 4
        simp
        omega
    · rintro H2 ⟨s2, hD⟩
      rw [lu, List.take_length] at hD
      refine ⟨D, _, rfl, .of hD, ?_⟩
      have e : ((ts.map fun t => decide (t.2.length ≤ 1)).all id) = flatT ts := by
        rw [List.all_map]
        rfl
      rw [e]
      exact q H2 s2
end
end LC
/-! LcOwnEq: x == y and x != y where x's class has its own __eq__, whatever y is. -/
namespace LC
open PySem PySem.Spec PyProof.Rows L2
/-- what the text says of a class with its own __eq__ and object's __ne__ -/
structure OwnEq (K : PySem.W.Frag) (C f : Addr) : Prop where
  eq : PySem.W.findIn K (.ref C) "__eq__" = some (some (.ref f))
  fn : PySem.W.isFn K (.ref f) = true
  ne : PySem.W.findIn K (.ref C) "__ne__" = some (some (.builtin "object.__ne__"))
  ob : PySem.W.mroIn K C (.type "object") = some true
def rOwnEq (K : PySem.W.Frag) (C : Addr) (sp : Sp) (E : XK) : R2 := fun x y H Q => ∃ a dx fs t, x = .ref a ∧ H a = some (.ins C dx fs) ∧ TyX K H y t ∧ PySem.W.notFirst K C t = true ∧ sp [x, y] H (fun v H' => ∃ b, v = .bl b ∧ Q (.bl b) H') E
def rOwnNe (K : PySem.W.Frag) (C : Addr) (sp : Sp) (E : XK) : R2 := fun x y H Q => ∃ a dx fs t, x = .ref a ∧ H a = some (.ins C dx fs) ∧ TyX K H y t ∧ PySem.W.notFirst K C t = true ∧ sp [x, y] H (fun v H' => ∃ b, v = .bl b ∧ Q (.bl (!b)) H') E
section
variable {X : Cx} {CX : CXT} {k : Nat} {C f : Addr} {fd : FuncData} {ps : List Str} {sp : Sp} {E : XK}
theorem run_eq {A : Around} {pins : List (Addr × Obj)} {σ : L2.St} {H : Hp} {s : Shared} {Q : VK} {u w : Value} {x y : V} {E' : Value → Shared → Prop} (F : FnOk X.prog X.w X.K X.mg X.base CX k f fd ps sp) (bd : Binds X.K fd ps []) (room : Room k A) (e0 : Env0 X.prog X.w X.K X.mg X.base A X.stack s H)
    (air : ∀ e s', CX X.stack H s E e s' → E' e s') (I : Inv X pins σ H s) (rx : RelV x u) (ry : RelV y w) (h : sp [x, y] H Q E) : codeAny (model X.prog X.w) A (.call (.ref f) ⟨[u, w], []⟩) (fun r s' => match r with | .ok (.ret v) => EP X pins σ Q v s' | .ok _ => False | .error e => E' e s') s := by
  have many := F.len _ _ _ _ h
  have b := bd s [u, w] I.kIn (by simpa using many)
  rw [List.append_nil] at b
  refine codeAny_mono (F.run A X.stack s H ⟨[u, w], []⟩ [u, w] [x, y] Q E room e0 b (.cons rx (.cons ry .nil)) h) fun r s' out => ?_
  cases r with
  | error e => exact air e s' out
  | ok fl =>
    cases fl with
    | ret v => exact I.after out
    | next => exact False.elim out
    | brk => exact False.elim out
    | cont => exact False.elim out
theorem op_eqO (O : OwnEq X.K C f) (F : FnOk X.prog X.w X.K X.mg X.base CX k f fd ps sp) (bd : Binds X.K fd ps []) (room : Room (k + 1) X.A) (air : Passes CX X.nox E) : OpR X (compareOp .Eq) (rOwnEq X.K C sp E) := by
  intro pins s σ H x y v u Q I rx ry h
  obtain ⟨a, dx, fs, t, rfl, ha, ty, nf, h⟩ := h
  have rx0 := rx
  obtain rfl : v = Value.ref a := rx
  obtain ⟨mA, J, _⟩ := ins_get I.hok ha
  obtain ⟨od, J, _⟩ := J.look
  obtain ⟨P, Z, p, _⟩ := kit_of I ry ty
  obtain ⟨m, hF⟩ := I.fr
  show wpAny (model X.prog X.w) X.A (richCompare .Eq (.ref a) u) (EP X pins σ Q) X.xe s
  refine PySem.W.cmp_K (op := .Eq) (by have := room.un; omega) hF I.ok.mod.kin J (Z.ty _ _ I.kIn p) nf O.eq O.fn ?_
  refine wpAny_mono (wpAny_call (run_eq (E' := fun _ _ => False) F bd (room.mono (by omega)) I.env0 (fun e s' z => air pins σ H s e s' (I.wish _) z) I rx0 ry h)) (fun z s' out => ?_) fun _ _ z => z.elim
  obtain ⟨w, H', I', rw_, b, rfl, q⟩ := out
  cases rw_
  exact ⟨.bl b, H', I', rfl, q⟩
theorem op_neO (O : OwnEq X.K C f) (F : FnOk X.prog X.w X.K X.mg X.base CX k f fd ps sp) (bd : Binds X.K fd ps []) (room : Room (k + 1) X.A) (air : Passes CX X.nox E) : OpR X (compareOp .NotEq) (rOwnNe X.K C sp E) := by
  intro pins s σ H x y v u Q I rx ry h
  obtain ⟨a, dx, fs, t, rfl, ha, ty, nf, h⟩ := h
  have rx0 := rx
  obtain rfl : v = Value.ref a := rx
  obtain ⟨mA, J, _⟩ := ins_get I.hok ha
  obtain ⟨od, J, _⟩ := J.look
  obtain ⟨P, Z, p, _⟩ := kit_of I ry ty
  obtain ⟨m, hF⟩ := I.fr
  have X0 := I.kIn
  show wpAny (model X.prog X.w) X.A (richCompare .NotEq (.ref a) u) (EP X pins σ Q) X.xe s
  have chk : ∀ {A : Around} {Q : Unit → Shared → Prop} {E : Value → Shared → Prop}, Q () s → wpAny (model X.prog X.w) A (checkBuiltinCall "object.__ne__" ⟨[.ref a, u], []⟩) Q E s := by
    intro A Q E q
    simp only [checkBuiltinCall, PySem.F.cmpKind_ne, PySem.F.cmpSplit_ne]
    refine wpAny_bind ?_
    unfold isInstance
    refine wpAny_bind (J.type.here ((PySem.W.looks_mroIn X0 O.ob).here ?_))
    have ar := PySem.F.cmpArgs_ne (.ref a) u
    cases sg : Manifest.signature? "object.__ne__" with
    | none => exact wpAny_pure q
    | some sig =>
      simp only [argsOk, sg] at ar
      have ar2 : Bind.checkArgs "object.__ne__" sig ⟨[.ref a, u], []⟩ = pure () := ar
      show wpAny (model X.prog X.w) A (Bind.checkArgs "object.__ne__" sig ⟨[.ref a, u], []⟩) Q E _
      rw [ar2]
      exact wpAny_pure q
  -- object.__ne__ of the two
  have inner : wpAny (model X.prog X.w) X.A (call (.builtin "object.__ne__") [.ref a, u]) (fun r s' => ∃ b, r = .bool b ∧ EP X pins σ Q r s') X.xe s := by
    refine wpAny_call (codeAny_call_builtin PySem.F.cmp_object.ne.plain PySem.F.cmpEntry_ne (chk ?_))
    unfold Builtin.«object.__ne__»
    refine wpAny_bind (m := slotArgs "__ne__" 1 _) (wpAny_pure ?_)
    refine wpAny_bind (wpAny_cRoomFor (by have := room.in1.un; omega) ?_)
    refine wpAny_bind (PySem.W.ifBound_K X0 J O.eq O.fn ?_)
    refine wpAny_mono (wpAny_call (run_eq (E' := fun _ _ => False) F bd (room.in1.mono (by omega)) I.env0.in1 (fun e s' z => air pins σ H s e s' (I.wish _) z) I rx0 ry h)) (fun z s' out => ?_) fun _ _ z => z.elim
    obtain ⟨w, H', I', rw_, b, rfl, q⟩ := out
    cases rw_
    refine wpAny_bind (m := truthy (.bool b)) (wpAny_pure (wpAny_pure ?_))
    exact ⟨!b, rfl, .bl (!b), H', I', rfl, q⟩
  have one : wpAny (model X.prog X.w) X.A (tryCompare (.ref a) "__ne__" u) (fun r s' => ∃ b, r = some (.bool b) ∧ EP X pins σ Q (.bool b) s') X.xe s := by
    unfold tryCompare
    simp only [callSpecialIfBound?, bindSpecialIfBound?]
    refine wpAny_bind (wpAny_holding (wpAny_bind (wpAny_bind (wpAny_bind (J.type.here ((PySem.W.looks_findIn X0 O.ne).here ?_))))))
    simp only [PySem.F.cmp_object.ne.bind]
    refine wpAny_bind (wpAny_askSetting (wpAny_ite ?_))
    have fin : wpAny (model X.prog X.w) X.A (call (.builtin "object.__ne__") ([.ref a] ++ [u]) >>= fun v => pure (some v)) (fun r s' => wpAny (model X.prog X.w) X.A (match r with | some .notImplemented | none => pure none | some v => pure (some v)) (fun r s' => ∃ b, r = some (.bool b) ∧ EP X pins σ Q (.bool b) s') X.xe s') X.xe s := by
      refine wpAny_bind (wpAny_mono inner (fun r s' out => wpAny_pure ?_) fun _ _ z => z)
      obtain ⟨b, rfl, q⟩ := out
      exact wpAny_pure ⟨b, rfl, q⟩
    split
    · exact wpAny_bind (wpAny_pure (wpAny_pure fin))
    · exact wpAny_tryCatch (wpAny_bind (wpAny_pure (wpAny_pure fin)))
  unfold richCompare
  simp only [oneThing_ref]
  refine wpAny_holding (wpAny_bind (wpAny_cRoomFor (by have := room.un; omega) ?_))
  refine wpAny_bind (J.type.here (wpAny_bind ((Z.ty _ _ X0 p).here ?_)))
  split
  · rename_i q
    have e : PySem.W.subIn X.K t (.ref C) = some false := by
      rcases Bool.or_eq_true_iff.mp nf with e | e
      · rw [beq_iff_eq.mp e] at q
        simp at q
      · exact beq_iff_eq.mp e
    refine wpAny_bind ((PySem.W.looks_subIn X0 e).here ?_)
    simp only [Bool.false_eq_true, if_false]
    refine wpAny_bind (wpAny_mono one (fun r s' z => ?_) fun _ _ e => e)
    obtain ⟨b, rfl, hq⟩ := z
    exact wpAny_pure hq
  · refine wpAny_bind (wpAny_pure ?_)
    simp only [Bool.false_eq_true, if_false]
    refine wpAny_bind (wpAny_mono one (fun r s' z => ?_) fun _ _ e => e)
    obtain ⟨b, rfl, hq⟩ := z
    exact wpAny_pure hq
end
end LC
/-! LcStrOwn: str(o), o's class with its own __str__. -/
namespace LC
open PySem PySem.Spec PyProof.Rows L2
structure OwnStr (K : PySem.W.Frag) (C f : Addr) : Prop where
  st : PySem.W.findIn K (.ref C) "__str__" = some (some (.ref f))
  fn : PySem.W.isFn K (.ref f) = true
theorem call_strO {X : Cx} {CX : CXT} {k : Nat} {C f : Addr} {fd : FuncData} {ps : List Str} {sp : Sp} {E : XK} (O : OwnStr X.K C f) (F : FnOk X.prog X.w X.K X.mg X.base CX k f fd ps sp) (bd : Binds X.K fd ps []) (room : Room (k + 2) X.A) (air : Passes CX X.nox E) :
    CallR X (.type "str") (fun xs H Q => ∃ a dx fs, xs = [.ref a] ∧ H a = some (.ins C dx fs) ∧ sp [.ref a] H (fun v H' => ∃ z, v = .str z ∧ Q (.str z) H') E) := by
  rintro pins s σ H xs us Q I r ⟨a, dx, fs, rfl, ha, h⟩
  obtain ⟨u, rfl, ru⟩ := vals1 r
  obtain rfl : u = Value.ref a := ru
  obtain ⟨mA, J, _⟩ := ins_get I.hok ha
  obtain ⟨od, J, _⟩ := J.look
  have many := F.len _ _ _ _ h
  have b := bd s [.ref a] I.kIn (by simpa using many)
  rw [List.append_nil] at b
  refine PySem.W.kso_call (by have := room.in1.in1.un; omega) I.kIn J O.st O.fn ?_
  refine wpAny_call (codeAny_mono (F.run X.A.in1.in1 X.stack s H ⟨[.ref a], []⟩ [.ref a] [.ref a] _ E room.in1.in1 I.env0.in1.in1 b (.cons rfl .nil) h) fun r s' out => ?_)
  cases r with
  | error e => exact (air pins σ H s e s' (I.wish _) out).elim
  | ok fl =>
    cases fl with
    | ret v =>
      obtain ⟨w, H', I', rw_, z, rfl, q⟩ := I.after out
      obtain ⟨t, rfl⟩ := rw_
      exact ⟨.str z, H', I', ⟨t, rfl⟩, q⟩
    | next => exact False.elim out
    | brk => exact False.elim out
    | cont => exact False.elim out
end LC
namespace LC
open PySem PySem.Spec PyProof.Rows L2 TL
/-- a term as it is passed: a list or a tuple, new where it is a list -/
def PassV (K : PySem.W.Frag) (H0 H : Hp) (v : V) (t : Term) : Prop := ∃ a b : Addr, v = .ref a ∧ ((H0 a = none ∧ H a = some (.lst [.int t.1, .ref b])) ∨ SqT K H a [.int t.1, .ref b]) ∧ ((H0 b = none ∧ H b = some (.lst (t.2.map V.str))) ∨ SqT K H b (t.2.map V.str))
theorem PassV.to {K : PySem.W.Frag} {H0 H H' : Hp} {v : V} {t : Term} (h : PassV K H0 H v t) (keep : ∀ (b : Addr) (xs : List V), H0 b = none → H b = some (.lst xs) → H' b = some (.lst xs)) (tup : ∀ (b : Addr) (xs : List V), SqT K H b xs → SqT K H' b xs) : PassV K H0 H' v t := by
  obtain ⟨a, b, rfl, h1, h2⟩ := h
  refine ⟨a, b, rfl, ?_, ?_⟩
  · rcases h1 with ⟨n, e⟩ | h1
    · exact .inl ⟨n, keep a _ n e⟩
    · exact .inr (tup a _ h1)
  · rcases h2 with ⟨n, e⟩ | h2
    · exact .inl ⟨n, keep b _ n e⟩
    · exact .inr (tup b _ h2)
theorem PassV.same {K : PySem.W.Frag} {H0 H H' : Hp} {v : V} {t : Term} (h : PassV K H0 H v t) (s : Same H H') : PassV K H0 H' v t := h.to (fun b _ _ e => s b _ e) fun _ _ q => sqt_same s q
theorem passes_same {K : PySem.W.Frag} {H0 H H' : Hp} (s : Same H H') : ∀ {vs : List V} {ts : List Term}, Paired (PassV K H0 H) vs ts → Paired (PassV K H0 H') vs ts
  | _, _, .nil => .nil
  | _, _, .cons a r => .cons (a.same s) (passes_same s r)
theorem PassV.but {K : PySem.W.Frag} {H0 H H' : Hp} {v : V} {t : Term} {q : Addr} {u : HO} (h : PassV K H0 H v t) (k : But q H H') (hq : H q = some u) (nt : NT u) (n0 : H0 q ≠ none) : PassV K H0 H' v t :=
  h.to (fun b _ n e => k b _ (fun z => n0 (by rw [← z]; exact n)) e) fun _ _ z => k.sqtN hq nt z
theorem passes_but {K : PySem.W.Frag} {H0 H H' : Hp} {q : Addr} {u : HO} (k : But q H H') (hq : H q = some u) (nt : NT u) (n0 : H0 q ≠ none) : ∀ {vs : List V} {ts : List Term}, Paired (PassV K H0 H) vs ts → Paired (PassV K H0 H') vs ts
  | _, _, .nil => .nil
  | _, _, .cons a r => .cons (a.but k hq nt n0) (passes_but k hq nt n0 r)
theorem PassV.old {K : PySem.W.Frag} {H0 H1 H : Hp} {v : V} {t : Term} (h : PassV K H1 H v t) (s : Same H0 H1) : PassV K H0 H v t := by
  obtain ⟨a, b, e, h1, h2⟩ := h
  have fr : ∀ {x : Addr}, H1 x = none → H0 x = none := fun {x} n => by
    cases q : H0 x with
    | none => rfl
    | some o =>
      rw [s _ _ q] at n
      cases n
  exact ⟨a, b, e, h1.imp (fun z => ⟨fr z.1, z.2⟩) id, h2.imp (fun z => ⟨fr z.1, z.2⟩) id⟩
theorem passes_old {K : PySem.W.Frag} {H0 H1 H : Hp} (s : Same H0 H1) : ∀ {vs : List V} {ts : List Term}, Paired (PassV K H1 H) vs ts → Paired (PassV K H0 H) vs ts
  | _, _, .nil => .nil
  | _, _, .cons a r => .cons (a.old s) (passes_old s r)
theorem PassV.arg {K : PySem.W.Frag} {H0 H : Hp} {v : V} {t : Term} (h : PassV K H0 H v t) (f : TermFine t) : ArgO K H v (some t) := by
  obtain ⟨a, b, rfl, h1, h2⟩ := h
  refine ⟨.ref b, ⟨a, rfl, ?_⟩, ⟨b, rfl, ?_⟩, f⟩
  · rcases h1 with ⟨_, e⟩ | e
    · exact .inl (.of e)
    · exact .inr e
  · rcases h2 with ⟨_, e⟩ | e
    · exact .inl (.of e)
    · exact .inr e
theorem passes_args {K : PySem.W.Frag} {H0 H : Hp} : ∀ {vs : List V} {ts : List Term}, Paired (PassV K H0 H) vs ts → (∀ t ∈ ts, TermFine t) → Paired (ArgO K H) vs (ts.map some)
  | _, _, .nil, _ => .nil
  | _, _, .cons (b := t) a r, f => .cons (a.arg (f t (List.mem_cons_self ..))) (passes_args r fun x hx => f x (List.mem_cons_of_mem _ hx))
def spPassed (K : PySem.W.Frag) : Sp := fun vs H Q _ => ∃ (p c : Addr) (n : Nat) (l : Addr) (us : List V) (ts : List Term), vs = [.ref p, .ref l] ∧ Pen H p c n ∧ n ≤ 90000 ∧ H l = some (.lst us) ∧ l ≠ p ∧ TermsV K H us ts ∧ ts.length ≤ 4 ∧
  ∀ (r : Addr) (ws : List V) (H' : Hp), Paired (PassV K H H') ws ts → H r = none → H' r = some (.lst ws) → But p H H' → Pen H' p c (n + 8) → Q (.ref r) H'
section
variable {P : Program} {w : World} {K : PySem.W.Frag} {mg : Str → Option Value} {base : Heap}
abbrev s_passed : Stmt := topS 47
theorem sc_passed : FnScope ["pen", "terms", "found", "factor", "names", "inner"] ["pen", "terms"] (defScope s_passed) := ⟨rfl, rfl, rfl, by decide +kernel, rfl, by decide +kernel, by decide +kernel⟩
theorem ok_passed {f : Addr} {fd : FuncData} (T : Txt mg) (F : FnP K "_law_passed" s_passed f fd) (c__law_draw : Cal P w K mg base CX0 1 "_law_draw" ["pen", "many"] spDraw) : FnOk P w K mg base CX0 2 f fd ["pen", "terms"] (spPassed K) := by
  have sc := sc_passed
  refine F.ok sc (fun vs H Q E h => ?_) (fun cdv A outer s H vs Q E hr h => ?_)
  · obtain ⟨p, c, n, l, us, ts, rfl, _⟩ := h
    rfl
  · obtain ⟨p, c, n, l, us, ts, rfl, hP, hn, hl, lp, hts, l4, q⟩ := h
    refine ⟨_, PSs.nox (pss_cons (ps_set (i := 2) sc.nd rfl (.inl rfl) (pe_lst pa_nil))
(pss_cons (ps_for PassesOwn.never rfl (pi_list (pv 1)) (pg_tup rfl (pgs_cons (pg_name (i := 3) sc.nd rfl (.inl rfl)) (pgs_cons (pg_name (i := 4) sc.nd rfl (.inl rfl)) pgs_nil)))
  (Evl.pss_cut (ps_set (i := 5) sc.nd rfl (.inl rfl) (pe_ifExp (pt_cmpR op_eq (pe_cal c__law_draw hr (by rfl) pass0 (pa_cons (pv 0) (pa_cons pe_int pa_nil))) pe_int (nomark _)) (pe_callTy call_list_of (by rfl) T.n_list (by decide +kernel) (pa_cons (pv 4) pa_nil)) (pe_callTy call_tuple_of (by rfl) T.n_tuple (by decide +kernel) (pa_cons (pv 4) pa_nil))))
  (pss_one (ps_expr (pe_bm PySem.F.plainAttrs_list PySem.F.slot_list_append PySem.F.type_list_append mt_append (pv 2) (pa_cons (pe_ifExp (pt_cmpR op_eq (pe_cal c__law_draw hr (by rfl) pass0 (pa_cons (pv 0) (pa_cons pe_int pa_nil))) pe_int (nomark _)) (pe_lst (pa_cons (pv 3) (pa_cons (pv 5) pa_nil))) (pe_tup (pa_cons (pv 3) (pa_cons (pv 5) pa_nil)))) pa_nil))))))
(pss_one (ps_ret (pv 2))))), ?_⟩
    obtain ⟨px, hp0⟩ := hP.at_
    refine ⟨szn 0, fun fl nfl => ?_⟩
    have flp : fl ≠ p := new_ne hp0 nfl
    have flc : fl ≠ c := hP.newC nfl
    generalize hH0 : upd H fl _ = H0
    obtain ⟨s0, e0⟩ := alloc_eq nfl hH0
    have p0 : H0 p ≠ none := fun z => by rw [s0 _ _ hp0] at z; cases z
    have f0 : H0 fl ≠ none := fun z => by rw [e0] at z; cases z
    have fresh : ∀ {x : Addr} {H2 : Hp} {ws : List V}, But p H H2 → H2 x = none → H2 fl = some (.lst ws) → x ≠ p → H0 x = none := fun {x H2 ws} k nx hf np => by
      have xf : x ≠ fl := fun z => by
        rw [z, hf] at nx
        cases nx
      have e : H0 x = H x := by
        rw [← hH0]
        exact upd_ne xf
      rw [e]
      exact k.free np nx
    have lu : us.length = ts.length := hts.length
    refine ⟨.ref l, rfl, l, rfl, ⟨us, .of (s0 _ _ hl)⟩, for_list (K := K) (a := l) (xs := us) (fun i σ H' => But p H H' ∧ Pen H' p c (n + 2 * i) ∧ (∃ ws : List V, H' fl = some (.lst ws) ∧ Paired (PassV K H0 H') ws (ts.take i) ∧ ws.length = i) ∧ ∃ b1 b2 b3 : Option V, σ = [some (.ref p), some (.ref l), some (.ref fl), b1, b2, b3]) ⟨.same s0, hP.same s0, ⟨[], e0, .nil, rfl⟩, none, none, none, rfl⟩ (fun i σ H' _ h => .of (h.1 _ _ lp hl)) ?_ ?_⟩
    · rintro i v σ H' hi ⟨k', pen', ⟨ws, hw, hpv, lw⟩, b1, b2, b3, rfl⟩
      obtain ⟨t, ht, ta, tb, rfl, g1, g2⟩ := paired_get hts hi
      have hil : i < ts.length := (List.getElem?_eq_some_iff.mp ht).1
      refine ⟨ta, _, rfl, k'.sqt hp0 g1, rfl, .int t.1, [.ref tb], rfl, .ref tb, [], rfl, rfl, ?_⟩
      have g2' := k'.sqt hp0 g2
      obtain ⟨px1, hp1⟩ := pen'.at_
      refine ⟨fun σ' H5 => But p H H5 ∧ Pen H5 p c (n + 2 * i + 1) ∧ H5 fl = some (.lst ws) ∧ Paired (PassV K H0 H5) ws (ts.take i) ∧ ∃ ib : Addr, ((H0 ib = none ∧ H5 ib = some (.lst (t.2.map V.str))) ∨ SqT K H5 ib (t.2.map V.str)) ∧ σ' = [some (.ref p), some (.ref l), some (.ref fl), some (.int t.1), some (.ref tb), some (.ref ib)], ?_, ?_⟩
      · refine ⟨.ref p, rfl, p, c, n + 2 * i, 2, rfl, pen', by omega, by decide, by decide, fun d H2 d0 d1 k2 pen2 => ?_⟩
        have hw2 := k2 _ _ flp hw
        have pv2 := passes_but k2 hp1 trivial p0 hpv
        have gg := k2.sqt hp1 g2'
        refine ⟨rfl, _, rfl, iteD (fun e => ?_) (fun e => ?_)⟩
        · refine ⟨.ref tb, rfl, tb, _, rfl, .inr gg, fun ib nib => ?_⟩
          have nb0 : H0 ib = none := fresh (k'.trans k2) nib hw2 (pen2.newP nib)
          generalize hH3 : upd H2 ib _ = H3
          obtain ⟨s3, e3⟩ := alloc_eq nib hH3
          exact ⟨(k'.trans k2).trans (.same s3), pen2.same s3, s3 _ _ hw2, passes_same s3 pv2, ib, .inl ⟨nb0, e3⟩, rfl⟩
        · exact ⟨.ref tb, rfl, tb, _, rfl, .inr ⟨gg, k'.trans k2, pen2, hw2, pv2, tb, .inr gg, rfl⟩⟩
      · rintro σ' H5 ⟨k5, pen5, hw5, pv5, ib, hib, rfl⟩
        obtain ⟨px5, hp5⟩ := pen5.at_
        refine ⟨.ref fl, rfl, .inl ⟨rfl, _, .inl (.inl hw5)⟩, .ref p, rfl, p, c, n + 2 * i + 1, 2, rfl, pen5, by omega, by decide, by decide, fun d H2 d0 d1 k2 pen2 => ?_⟩
        have hw2 := k2 _ _ flp hw5
        have pv2 := passes_but k2 hp5 trivial p0 pv5
        have hib2 : (H0 ib = none ∧ H2 ib = some (.lst (t.2.map V.str))) ∨ SqT K H2 ib (t.2.map V.str) := by
          rcases hib with ⟨z1, z2⟩ | z
          · exact .inl ⟨z1, k2 _ _ (fun w => p0 (by rw [← w]; exact z1)) z2⟩
          · exact .inr (k2.sqt hp5 z)
        have k52 := k5.trans k2
        have fin : ∀ (a : Addr) (o : HO), H2 a = none → (o = .lst [.int t.1, .ref ib] ∨ o = .tup [.int t.1, .ref ib]) → ∀ H3, upd H2 a o = H3 → ∃ b d e, V.ref fl = V.ref b ∧ [V.ref a] = [d] ∧ H3 b = some (.lst e) ∧ e.length < sizeLine ∧ (But p H (upd H3 b (.lst (e ++ [d]))) ∧ Pen (upd H3 b (.lst (e ++ [d]))) p c (n + 2 * (i + 1)) ∧ (∃ ws : List V, (upd H3 b (.lst (e ++ [d]))) fl = some (.lst ws) ∧ Paired (PassV K H0 (upd H3 b (.lst (e ++ [d])))) ws (ts.take (i + 1)) ∧ ws.length = i + 1)) := by
          intro a o na ho H3 hH3
          obtain ⟨s3, e3⟩ := alloc_eq na hH3
          have na0 : H0 a = none := fresh k52 na hw2 (pen2.newP na)
          have hw3 := s3 _ _ hw2
          refine ⟨fl, .ref a, ws, rfl, rfl, hw3, sz_lt (by omega), ?_⟩
          generalize hH4 : upd H3 fl _ = H4
          have k4 : But fl H3 H4 := by
            rw [← hH4]
            exact .set
          have e4 : H4 fl = some (.lst (ws ++ [.ref a])) := by
            rw [← hH4]
            exact upd_same
          refine ⟨fun x u nx ex => ?_, ?_, ws ++ [.ref a], e4, ?_, ?_⟩
          · exact k4 _ _ (ne_of_none ex nfl) (s3 _ _ (k52 _ _ nx ex))
          · exact (pen2.same s3).but k4 flp flc
          · rw [take_next ht]
            refine (passes_but k4 hw3 trivial f0 (passes_same s3 pv2)).snoc ?_
            have pa : PassV K H0 H3 (.ref a) t := by
              refine ⟨a, ib, rfl, ?_, ?_⟩
              · rcases ho with rfl | rfl
                · exact .inl ⟨na0, e3⟩
                · exact .inr (.of e3)
              · rcases hib2 with ⟨z1, z2⟩ | z
                · exact .inl ⟨z1, s3 _ _ z2⟩
                · exact .inr (sqt_same s3 z)
            exact pa.but k4 hw3 trivial f0
          · rw [List.length_append, lw]
            rfl
        refine ⟨rfl, _, rfl, iteD (fun e => ?_) (fun e => ?_)⟩
        · refine ⟨.int t.1, rfl, .ref ib, rfl, szn 2, fun a na => ?_⟩
          obtain ⟨b, d', e', h1, h2, h3, h4, h5, h6, h7⟩ := fin a _ na (.inl rfl) _ rfl
          exact ⟨b, e', d', h1, h2, h3, h4, h5, h6, h7, _, _, _, rfl⟩
        · refine ⟨.int t.1, rfl, .ref ib, rfl, szn 2, fun a na => ?_⟩
          obtain ⟨b, d', e', h1, h2, h3, h4, h5, h6, h7⟩ := fin a _ na (.inr rfl) _ rfl
          exact ⟨b, e', d', h1, h2, h3, h4, h5, h6, h7, _, _, _, rfl⟩
    · rintro σ H' ⟨k', pen', ⟨ws, hw, hpv, lw⟩, b1, b2, b3, rfl⟩
      rw [lu, List.take_length] at hpv
      refine ⟨.ref fl, rfl, q fl ws H' (passes_old s0 hpv) nfl hw k' (pen'.mono ?_)⟩
      rw [lu]
      omega
end
end LC
/-! LcRepr: repr of lists and tuples of data, of dicts of plain values. -/
namespace LC
open PySem PySem.Spec PyProof.Rows L2
/-- what is plain: no object -/
def plainD : V → Option PyData
  | .non => some .none
  | .bl b => some (.bool b)
  | .int i => some (.int i)
  | .str x => some (.str x)
  | _ => none
def keyD : Key → PyData
  | .inl i => .int i
  | .inr x => .str x
/-- a dict's data -/
inductive KvD : List (Key × V) → List (PyData × PyData) → Prop
  | nil : KvD [] []
  | cons {k : Key} {v : V} {d : PyData} {kvs : List (Key × V)} {ds : List (PyData × PyData)} : plainD v = some d → KvD kvs ds → KvD ((k, v) :: kvs) ((keyD k, d) :: ds)
theorem reads_plain {h : Heap} {v : V} {d : PyData} {u : Value} (e : plainD v = some d) (r : RelV v u) : Reads h u d [] := by
  cases v with
  | non => cases e; cases r; exact .none
  | bl b => cases e; cases r; exact .bool b
  | int i => cases e; obtain ⟨t, rfl⟩ := r; exact .int i t
  | str x => cases e; obtain ⟨t, rfl⟩ := r; exact .str x t
  | byt b => cases e
  | flt b => cases e
  | ref a => cases e
  | ty n => cases e
theorem reads_key {h : Heap} {k : Key} {u : Value} (r : keyIs k u = true) : Reads h u (keyD k) [] := by
  rcases keyIs_shape r with ⟨i, t, rfl, rfl⟩ | ⟨x, t, rfl, rfl⟩
  · exact .int i t
  · exact .str x t
theorem reads_kv {P : Program} {w : World} {h : Heap} : ∀ {es : List DictEntry} {us : List (Key × Value)} {kvs : List (Key × V)} {ds : List (PyData × PyData)}, Pairs (mixKind P w) es us → KV kvs us → KvD kvs ds →
    ReadsAll h (es.map (·.key)) (ds.map (·.1)) [] ∧ ReadsAll h (es.map (·.val)) (ds.map (·.2)) []
  | _, _, _, _, .nil, .nil, .nil => ⟨.nil, .nil⟩
  | _, _, _, _, .cons hk hv r, .cons ⟨e1, e2⟩ r2, .cons hp r3 => by
    obtain ⟨a1, a2⟩ := reads_kv (h := h) r r2 r3
    refine ⟨ReadsAll.cons (as := []) (bs := []) (reads_key ?_) a1, ReadsAll.cons (as := []) (bs := []) (reads_plain hp ?_) a2⟩
    · have e0 : ‹Key› = _ := e1
      exact (congrArg (fun z => keyIs z _) e0).trans hk
    · exact (congrArg (fun z => L2.RelV _ z) hv).mpr e2
section
variable {X : Cx}
/-- repr of a list, a tuple -/
theorem call_reprD (hg : X.A.guards = some []) (hu : X.A.units + 64 < cLine) : CallR X (.builtin "repr") (fun xs H Q => ∃ a d, xs = [.ref a] ∧ Dp X.K H (.ref a) d ∧ d.canLay0 = true ∧ d.showable = true ∧ d.depth ≤ 60 ∧ d.shown.length ≤ sizeLine ∧ Q (.str d.shown) H) := by
  rintro pins s σ H xs us Q I r ⟨a, d, rfl, hd, hc, hs, hdp, hz, q⟩
  obtain ⟨u, rfl, ru⟩ := vals1 r
  obtain rfl : u = Value.ref a := ru
  obtain ⟨as, rd⟩ := Dp.reads I d _ _ hd (show L2.RelV (.ref a) (Value.ref a) from rfl)
  exact repr_of_reads' rd hs (PyData.noDict_hsm (PyData.hasDict_of_canLay d hc)) hg (by omega) (fun _ _ e => e) (fun h' t tk k => ⟨.str _, H, I.kept k, ⟨_, rfl⟩, q⟩) hz
/-- repr of a dict of plain values -/
theorem call_reprK (hg : X.A.guards = some []) (hu : X.A.units + 64 < cLine) : CallR X (.builtin "repr") (fun xs H Q => ∃ a kvs ds, xs = [.ref a] ∧ H a = some (.dK kvs) ∧ KvD kvs ds ∧ (PyData.dict ds).showable = true ∧ (PyData.dict ds).depth ≤ 60 ∧ (PyData.dict ds).shown.length ≤ sizeLine ∧ Q (.str (PyData.dict ds).shown) H) := by
  rintro pins s σ H xs us Q I r ⟨a, kvs, ds, rfl, hd, hk, hs, hdp, hz, q⟩
  obtain ⟨u, rfl, ru⟩ := vals1 r
  obtain rfl : u = Value.ref a := ru
  obtain ⟨_, hne, vs, kv, o, es, ep, ho, hx, hdat, _, hp, _⟩ := I.hok a _ hd
  obtain ⟨r1, r2⟩ := reads_kv (h := s.heap) hp kv hk
  have rd : Reads s.heap (.ref a) (.dict ds) (a :: [] ++ []) := .dict ho hx.1 hdat r1 r2
  refine repr_of_reads' rd hs (fun _ hm => ?_) hg (by omega) (fun _ _ e => e) (fun h' t tk k => ⟨.str _, H, I.kept k, ⟨_, rfl⟩, q⟩) hz
  simp at hm
  rw [hm] at hne
  simp at hne
end
end LC
/-! LcData: dicts of names and ints. -/
namespace LC
open PySem PySem.Spec PyProof.Rows L2
def intsK (ns : List Str) (val : Str → Int) : List (Key × V) := ns.map fun z => (.inr z, .int (val z))
def intsD (ns : List Str) (val : Str → Int) : List (PyData × PyData) := ns.map fun z => (.str z, .int (val z))
theorem kvd_ints (val : Str → Int) : ∀ ns : List Str, KvD (intsK ns val) (intsD ns val)
  | [] => .nil
  | z :: r => .cons (k := .inr z) rfl (kvd_ints val r)
theorem valV_ints {val : Str → Int} {z : Str} : ∀ {ns : List Str}, z ∈ ns → valV (intsK ns val) (Sum.inr z) = some (.int (val z))
  | [], h => nomatch h
  | y :: r, h => by
    by_cases e : y = z
    · subst e
      exact valV_pos rfl
    · have e2 := valV_neg (p := (Sum.inr y, V.int (val y))) (r := intsK r val) (k := (Sum.inr z : Key)) (fun q => e (Sum.inr.inj q))
      refine e2.trans (valV_ints ?_)
      rcases List.mem_cons.mp h with q | q
      · exact absurd q.symm e
      · exact q
theorem ints_any {val : Str → Int} {z : Str} : ∀ {ns : List Str}, ((intsK ns val).any fun kv => decide (kv.1 = (Sum.inr z : Key))) = decide (z ∈ ns)
  | [] => by simp [intsK]
  | y :: r => by
    have ih := ints_any (val := val) (z := z) (ns := r)
    unfold intsK at ih ⊢
    rw [List.map_cons, List.any_cons, ih]
    show (decide ((Sum.inr y : Key) = Sum.inr z) || decide (z ∈ r)) = decide (z ∈ y :: r)
    by_cases e : y = z
    · subst e
      simp
    · have e2 : ¬ ((Sum.inr y : Key) = Sum.inr z) := fun q => e (Sum.inr.inj q)
      rw [decide_eq_false e2, Bool.false_or]
      by_cases m : z ∈ r
      · rw [decide_eq_true m, decide_eq_true (List.mem_cons_of_mem _ m)]
      · rw [decide_eq_false m, decide_eq_false (fun q => (List.mem_cons.mp q).elim (fun z => e z.symm) m)]
def valPut (val : Str → Int) (z : Str) (i : Int) : Str → Int := fun x => if x = z then i else val x
theorem putK_ints {val : Str → Int} {ns : List Str} {z : Str} (i : Int) (h : z ∈ ns) : putK (intsK ns val) (Sum.inr z) (.int i) = intsK ns (valPut val z i) := by
  unfold putK
  rw [ints_any, decide_eq_true h, if_pos rfl]
  unfold intsK
  rw [List.map_map]
  apply List.map_congr_left
  intro x _
  show (if (Sum.inr x : Key) = Sum.inr z then ((Sum.inr x : Key), V.int i) else (Sum.inr x, V.int (val x))) = (Sum.inr x, V.int (valPut val z i x))
  unfold valPut
  by_cases e : x = z
  · subst e
    rw [if_pos rfl, if_pos rfl]
  · rw [if_neg (fun q => e (Sum.inr.inj q)), if_neg e]
theorem putK_snoc {val : Str → Int} {ns : List Str} {z : Str} (h : ¬ z ∈ ns) : putK (intsK ns val) (Sum.inr z) (.int (val z)) = intsK (ns ++ [z]) val := by
  unfold putK
  rw [ints_any, decide_eq_false h, if_neg Bool.false_ne_true]
  unfold intsK
  rw [List.map_append]
  rfl
theorem mergeK_go {val : Str → Int} : ∀ (ns acc : List Str), (acc ++ ns).Nodup → mergeK (intsK acc val) (intsK ns val) = intsK (acc ++ ns) val
  | [], acc, _ => by
    rw [List.append_nil]
    rfl
  | z :: r, acc, nd => by
    have hz : ¬ z ∈ acc := fun m => (List.nodup_append.mp nd).2.2 z m z (List.mem_cons_self ..) rfl
    show mergeK (putK (intsK acc val) (Sum.inr z) (.int (val z))) (intsK r val) = _
    have e : acc ++ z :: r = (acc ++ [z]) ++ r := by simp
    rw [putK_snoc hz, mergeK_go r (acc ++ [z]) (by rw [← e]; exact nd), e]
theorem mergeK_ints {val : Str → Int} {ns : List Str} (nd : ns.Nodup) : mergeK [] (intsK ns val) = intsK ns val := mergeK_go ns [] nd
theorem log2_small {i : Int} (h : i.natAbs < 2 ^ 250) : i.natAbs.log2 < 250 := by
  by_cases e : i.natAbs = 0
  · rw [e]
    decide
  · exact (Nat.log2_lt e).mpr h
theorem ints_showable {val : Str → Int} : ∀ {ns : List Str}, (∀ z ∈ ns, (val z).natAbs < 2 ^ 250) → PyData.showableKv (intsD ns val) = true
  | [], _ => rfl
  | z :: r, h => by
    have l := log2_small (h z (List.mem_cons_self ..))
    show (true && decide ((val z).natAbs.log2 < 1920) && PyData.showableKv (intsD r val)) = true
    rw [decide_eq_true (by omega : (val z).natAbs.log2 < 1920), ints_showable fun q hq => h q (List.mem_cons_of_mem _ hq)]
    rfl
theorem ints_depth {val : Str → Int} : ∀ {ns : List Str}, PyData.depthKv (intsD ns val) = 0
  | [] => rfl
  | z :: r => by
    show max (max 0 0) (PyData.depthKv (intsD r val)) = 0
    rw [ints_depth (ns := r)]
    rfl
theorem int_shown {i : Int} (h : i.natAbs < 2 ^ 250) : (PyData.shown (.int i)).length ≤ 300 := by
  have e := int_text_length_le (k := 250) (by decide) (log2_small h)
  show (Str.ofString (toString i)).length ≤ 300
  rw [PySem.ofString_length]
  omega
theorem name_short {z : Str} (h : nameB z = true) : PyData.leavesShort 300 (.str z) = true := by
  show (z.cps.toList.all fun c => decide (c < 16 ^ 8)) = true
  refine List.all_eq_true.mpr fun c hc => decide_eq_true ?_
  have q := name_chars h c hc
  have e : (16 : Nat) ^ 8 = 4294967296 := by decide
  omega
theorem ints_short {val : Str → Int} : ∀ {ns : List Str}, (∀ z ∈ ns, nameB z = true) → (∀ z ∈ ns, (val z).natAbs < 2 ^ 250) → PyData.leavesShortKv 300 (intsD ns val) = true
  | [], _, _ => rfl
  | z :: r, hn, h => by
    have l := int_shown (h z (List.mem_cons_self ..))
    show (PyData.leavesShort 300 (.str z) && decide ((PyData.shown (.int (val z))).length ≤ 300) && PyData.leavesShortKv 300 (intsD r val)) = true
    rw [name_short (hn z (List.mem_cons_self ..)), decide_eq_true l, ints_short (fun q hq => hn q (List.mem_cons_of_mem _ hq)) fun q hq => h q (List.mem_cons_of_mem _ hq)]
    rfl
theorem int_weight {i : Int} (h : i.natAbs < 2 ^ 250) : PyData.weight (.int i) ≤ 251 := by
  have l := log2_small h
  show (if (i == 0) = true then 0 else i.natAbs.log2 + 1) ≤ 251
  split <;> omega
theorem ints_weight {val : Str → Int} : ∀ {ns : List Str}, (∀ z ∈ ns, nameB z = true) → (∀ z ∈ ns, (val z).natAbs < 2 ^ 250) → PyData.weightKv (intsD ns val) ≤ 260 * ns.length
  | [], _, _ => Nat.le_refl _
  | z :: r, hn, h => by
    have l := int_weight (h z (List.mem_cons_self ..))
    have n6 : z.cps.size ≤ 6 := (name_len (hn z (List.mem_cons_self ..))).2
    have ih := ints_weight (fun q hq => hn q (List.mem_cons_of_mem _ hq)) fun q hq => h q (List.mem_cons_of_mem _ hq)
    show z.cps.size + PyData.weight (.int (val z)) + 2 + PyData.weightKv (intsD r val) ≤ 260 * (r.length + 1)
    omega
/-- a dict of few names and ints can be shown -/
theorem ints_shown {val : Str → Int} {ns : List Str} (hn : ∀ z ∈ ns, nameB z = true) (h : ∀ z ∈ ns, (val z).natAbs < 2 ^ 250) (hl : ns.length ≤ 10) : (PyData.dict (intsD ns val)).showable = true ∧ (PyData.dict (intsD ns val)).depth ≤ 60 ∧ (PyData.dict (intsD ns val)).shown.length ≤ sizeLine := by
  refine ⟨ints_showable h, ?_, ?_⟩
  · show PyData.depthKv (intsD ns val) + 1 ≤ 60
    rw [ints_depth]
    decide
  · have a := PyData.shown_le 300 (by decide) (.dict (intsD ns val)) (ints_short hn h)
    have b := ints_weight hn h
    have e : PyData.weight (.dict (intsD ns val)) = PyData.weightKv (intsD ns val) := rfl
    rw [e] at a
    rw [sizeLine_eq]
    have c : (300 + 2) * PyData.weightKv (intsD ns val) ≤ 302 * 2600 := Nat.mul_le_mul (by decide) (by omega)
    omega
theorem two_shown {i j : Int} (hi : i.natAbs < 2 ^ 250) (hj : j.natAbs < 2 ^ 250) : (PyData.list [.int i, .int j]).canLay0 = true ∧ (PyData.list [.int i, .int j]).showable = true ∧ (PyData.list [.int i, .int j]).depth ≤ 60 ∧ (PyData.list [.int i, .int j]).shown.length ≤ sizeLine := by
  refine ⟨rfl, ?_, by show 1 ≤ 60; decide, ?_⟩
  · have l := log2_small hi
    have l2 := log2_small hj
    show (decide (i.natAbs.log2 < 1920) && (decide (j.natAbs.log2 < 1920) && true)) = true
    rw [decide_eq_true (by omega : i.natAbs.log2 < 1920), decide_eq_true (by omega : j.natAbs.log2 < 1920)]
    rfl
  · have s : PyData.leavesShort 300 (.list [.int i, .int j]) = true := by
      show (decide ((PyData.shown (.int i)).length ≤ 300) && (decide ((PyData.shown (.int j)).length ≤ 300) && true)) = true
      rw [decide_eq_true (int_shown hi), decide_eq_true (int_shown hj)]
      rfl
    have a := PyData.shown_le 300 (by decide) _ s
    have e : PyData.weight (.list [.int i, .int j]) = PyData.weight (.int i) + 1 + (PyData.weight (.int j) + 1 + 0) := rfl
    have b1 := int_weight hi
    have b2 := int_weight hj
    rw [e] at a
    rw [sizeLine_eq]
    omega
end LC
/-! LcShow: data that can be shown, bound by bound. -/
namespace LC
open PySem PySem.Spec PyProof.Rows L2 TL
structure Shw (d : PyData) (dep wt : Nat) : Prop where
  lay : d.canLay0 = true
  sh : d.showable = true
  dp : d.depth ≤ dep
  lv : d.leavesShort 300 = true
  w : d.weight ≤ wt
structure ShwL (ds : List PyData) (dep wt : Nat) : Prop where
  lay : PyData.canLayAll0 ds = true
  sh : PyData.showableAll ds = true
  dp : PyData.depthAll ds ≤ dep
  lv : PyData.leavesShortAll 300 ds = true
  w : PyData.weightAll ds ≤ wt
theorem Shw.mono {d : PyData} {a b c e : Nat} (h : Shw d a b) (h1 : a ≤ c) (h2 : b ≤ e) : Shw d c e := ⟨h.lay, h.sh, Nat.le_trans h.dp h1, h.lv, Nat.le_trans h.w h2⟩
theorem ShwL.mono {d : List PyData} {a b c e : Nat} (h : ShwL d a b) (h1 : a ≤ c) (h2 : b ≤ e) : ShwL d c e := ⟨h.lay, h.sh, Nat.le_trans h.dp h1, h.lv, Nat.le_trans h.w h2⟩
theorem Shw.non : Shw .none 0 0 := ⟨rfl, rfl, Nat.le_refl _, rfl, Nat.le_refl _⟩
theorem Shw.bl (b : Bool) : Shw (.bool b) 0 0 := ⟨rfl, rfl, Nat.le_refl _, rfl, Nat.le_refl _⟩
theorem Shw.int {i : Int} (h : i.natAbs < 2 ^ 250) : Shw (.int i) 0 251 := ⟨rfl, decide_eq_true (by have := log2_small h; omega), Nat.le_refl _, decide_eq_true (int_shown h), int_weight h⟩
def asciiB (z : Str) : Bool := z.cps.toList.all fun c => decide (c < 128)
theorem Shw.str {z : Str} (h : asciiB z = true) : Shw (.str z) 0 z.length := by
  have q : ∀ c ∈ z.cps.toList, c < 128 := fun c hc => of_decide_eq_true (List.all_eq_true.mp h c hc)
  refine ⟨?_, rfl, Nat.le_refl _, ?_, Nat.le_refl _⟩
  · show PyData.strOk z = true
    unfold PyData.strOk
    rw [Array.all_eq_true_iff_forall_mem]
    intro c hc
    have := q c (Array.mem_def.mp hc)
    exact decide_eq_true (by omega)
  · show (z.cps.toList.all fun c => decide (c < 16 ^ 8)) = true
    refine List.all_eq_true.mpr fun c hc => decide_eq_true ?_
    have := q c hc
    have e : (16 : Nat) ^ 8 = 4294967296 := by decide
    omega
theorem ShwL.nil : ShwL [] 0 0 := ⟨rfl, rfl, Nat.le_refl _, rfl, Nat.le_refl _⟩
theorem ShwL.cons {d : PyData} {ds : List PyData} {a b c e : Nat} (h : Shw d a b) (r : ShwL ds c e) : ShwL (d :: ds) (max a c) (b + 1 + e) := by
  refine ⟨?_, ?_, ?_, ?_, ?_⟩
  · show (d.canLay0 && PyData.canLayAll0 ds) = true
    rw [h.lay, r.lay]
    rfl
  · show (d.showable && PyData.showableAll ds) = true
    rw [h.sh, r.sh]
    rfl
  · show max d.depth (PyData.depthAll ds) ≤ _
    have := h.dp
    have := r.dp
    omega
  · show (d.leavesShort 300 && PyData.leavesShortAll 300 ds) = true
    rw [h.lv, r.lv]
    rfl
  · show d.weight + 1 + PyData.weightAll ds ≤ _
    have := h.w
    have := r.w
    omega
theorem ShwL.all {α : Type} {f : α → PyData} {a b : Nat} : ∀ {xs : List α}, (∀ x ∈ xs, Shw (f x) a b) → ShwL (xs.map f) a ((b + 1) * xs.length)
  | [], _ => ShwL.nil.mono (Nat.zero_le _) (Nat.zero_le _)
  | x :: r, h => by
    have z := (h x (List.mem_cons_self ..)).mono (Nat.le_refl _) (Nat.le_refl _)
    refine (ShwL.cons z (ShwL.all fun y hy => h y (List.mem_cons_of_mem _ hy))).mono (by omega) ?_
    rw [List.length_cons, Nat.mul_add]
    omega
theorem Shw.lst {ds : List PyData} {a b : Nat} (h : ShwL ds a b) : Shw (.list ds) (a + 1) b := ⟨h.lay, h.sh, Nat.succ_le_succ h.dp, h.lv, h.w⟩
theorem Shw.tup {ds : List PyData} {a b : Nat} (h : ShwL ds a b) : Shw (.tuple ds) (a + 1) b := ⟨h.lay, h.sh, Nat.succ_le_succ h.dp, h.lv, h.w⟩
theorem Shw.len {d : PyData} {a b : Nat} (h : Shw d a b) (hb : b ≤ 50000) : d.shown.length ≤ sizeLine := by
  have z := PyData.shown_le 300 (by decide) d h.lv
  have c : (300 + 2) * d.weight ≤ 302 * 50000 := Nat.mul_le_mul (by decide) (Nat.le_trans h.w hb)
  rw [sizeLine_eq]
  omega
theorem Shw.shaped {d : PyData} {a b : Nat} (h : Shw d a b) (ha : a ≤ 60) : SeqAt.shaped d = true := by
  unfold SeqAt.shaped
  rw [h.lay, decide_eq_true (show d.depth ≤ 64 by have := h.dp; omega)]
  rfl
theorem name_ascii {z : Str} (h : nameB z = true) : asciiB z = true := List.all_eq_true.mpr fun c hc => decide_eq_true (by have := name_chars h c hc; omega)
theorem shw_name {z : Str} (h : nameB z = true) : Shw (.str z) 0 6 := (Shw.str (name_ascii h)).mono (Nat.le_refl _) (name_len h).2
theorem shw_names {ns : List Str} (h : ∀ z ∈ ns, nameB z = true) : ShwL (ns.map PyData.str) 0 (7 * ns.length) := ShwL.all fun z hz => shw_name (h z hz)
theorem shw_term {t : Term} (h : TermFine t) : Shw (termD t) 2 300 := by
  obtain ⟨a, b, c, d⟩ := h
  have i : t.1.natAbs < 2 ^ 250 := Nat.lt_of_lt_of_le (show t.1.natAbs < 2 ^ 20 by omega) (Nat.pow_le_pow_right (by decide) (by decide))
  exact (Shw.tup (ShwL.cons (Shw.int i) (ShwL.cons (Shw.tup (shw_names d)) ShwL.nil))).mono (by omega) (by omega)
theorem shw_terms {ts : List Term} (h : ∀ t ∈ ts, TermFine t) : Shw (termsD ts) 3 (301 * ts.length) := Shw.tup (ShwL.all fun t ht => shw_term (h t ht))
/-! texts of sums -/
theorem termT_short {f : Int} {ns : List Str} (h : f.natAbs ≤ 999999) (hl : ns.length ≤ 3) (hn : ∀ x ∈ ns, nameB x = true) : (termT f ns).length ≤ 40 := by
  rw [partW_join]
  have a := names_sum hn
  have b := int_short h
  have c : (" * " : Str).length = 3 := rfl
  have d := StrLaws.join_length_le " * " (partW f ns)
  rw [← StrLaws.glued_eq_join] at d
  refine Nat.le_trans d ?_
  rw [c]
  unfold partW
  split
  · omega
  · simp only [List.map_cons, List.sum_cons, List.length_cons]
    omega
theorem moreW_short : ∀ {ts : List Term}, (∀ t ∈ ts, TermFine t) → ((moreW ts).map (·.length)).sum ≤ 41 * ts.length
  | [], _ => Nat.zero_le _
  | t :: r, h => by
    obtain ⟨f0, f1, fl, fn⟩ := h t (List.mem_cons_self ..)
    have a := moreW_short (ts := r) fun u hu => h u (List.mem_cons_of_mem _ hu)
    have b : (termT (if t.1 < 0 then -t.1 else t.1) t.2).length ≤ 40 := termT_short (by split <;> omega) fl fn
    have c : (if t.1 < 0 then "-" else "+" : Str).length = 1 := by split <;> rfl
    show ((_ :: _ :: moreW r).map (·.length)).sum ≤ _
    simp only [List.map_cons, List.sum_cons, List.length_cons]
    omega
theorem sumText_short {ts : List Term} (l4 : ts.length ≤ 4) (h : ∀ t ∈ ts, TermFine t) : (sumText ts).length ≤ 200 := by
  have d := StrLaws.join_length_le " " (sumW ts)
  rw [← StrLaws.glued_eq_join] at d
  refine Nat.le_trans d ?_
  have a := sumW_len ts
  have c : (" " : Str).length = 1 := rfl
  rw [c]
  have b : ((sumW ts).map (·.length)).sum ≤ 41 * ts.length := by
    cases ts with
    | nil => exact Nat.zero_le _
    | cons t r =>
      obtain ⟨f0, f1, fl, fn⟩ := h t (List.mem_cons_self ..)
      have a := moreW_short (ts := r) fun u hu => h u (List.mem_cons_of_mem _ hu)
      have b : (termT t.1 t.2).length ≤ 40 := termT_short (by omega) fl fn
      show ((_ :: moreW r).map (·.length)).sum ≤ _
      simp only [List.map_cons, List.sum_cons, List.length_cons]
      omega
  omega
theorem joinL_all {p : Nat → Prop} {S : List Nat} (hs : ∀ c ∈ S, p c) : ∀ {ps : List (List Nat)}, (∀ x ∈ ps, ∀ c ∈ x, p c) → ∀ c ∈ joinL S ps, p c
  | [], _, c, hc => nomatch hc
  | [x], h, c, hc => h x (List.mem_cons_self ..) c hc
  | x :: y :: r, h, c, hc => by
    rcases List.mem_append.mp (show c ∈ x ++ (S ++ joinL S (y :: r)) from hc) with hc | hc
    · exact h x (List.mem_cons_self ..) c hc
    · rcases List.mem_append.mp hc with hc | hc
      · exact hs c hc
      · exact joinL_all hs (fun z hz => h z (List.mem_cons_of_mem _ hz)) c hc
theorem num_ascii (f : Int) : ∀ c ∈ tl (strI f), c < 128 := by
  intro c hc
  by_cases n : f < 0
  · rw [strI_neg n] at hc
    rcases List.mem_cons.mp hc with e | hc
    · omega
    · have := numL_digits _ c hc
      omega
  · obtain ⟨k, hk⟩ : ∃ n : Nat, f = (n : Int) := ⟨f.toNat, (Int.toNat_of_nonneg (by omega)).symm⟩
    rw [hk, strI_nat] at hc
    have := numL_digits _ c hc
    omega
theorem term_ascii {s : Int} {ns : List Str} (h : ∀ x ∈ ns, nameB x = true) : ∀ p ∈ termWs s ns, ∀ c ∈ tl p, c < 128 := fun p hp => by
  have nm : ∀ z, nameB z = true → ∀ c ∈ tl z, c < 128 := fun z hz c hc => by
    have := name_chars hz c hc
    omega
  rcases mem_star hp with hp | e
  · unfold partW at hp
    split at hp
    · exact nm p (h p hp)
    · rcases List.mem_cons.mp hp with e | hp
      · rw [e]
        exact num_ascii s
      · exact nm p (h p hp)
  · rw [e]
    decide +kernel
theorem more_ascii : ∀ {r : List Term}, (∀ t ∈ r, TermFine t) → ∀ p ∈ moreWs r, ∀ c ∈ tl p, c < 128
  | [], _, _, h => nomatch h
  | t :: r, h, p, hp => by
    rcases List.mem_cons.mp (show p ∈ (if t.1 < 0 then "-" else "+" : Str) :: (termWs (if t.1 < 0 then -t.1 else t.1) t.2 ++ moreWs r) from hp) with e | hp
    · rw [e]
      split <;> decide +kernel
    · rcases List.mem_append.mp hp with hp | hp
      · exact term_ascii (h t (List.mem_cons_self ..)).2.2.2 p hp
      · exact more_ascii (fun x hx => h x (List.mem_cons_of_mem _ hx)) p hp
theorem sumText_ascii {ts : List Term} (h : ∀ t ∈ ts, TermFine t) : asciiB (sumText ts) = true := by
  refine List.all_eq_true.mpr fun c hc => decide_eq_true ?_
  have hc : c ∈ tl (sumText ts) := hc
  rw [tl_sumText] at hc
  refine joinL_all (p := fun c => c < 128) (fun d hd => by rw [List.mem_singleton.mp hd]; decide) (fun x hx d hd => ?_) c hc
  obtain ⟨p, hp, rfl⟩ := List.mem_map.mp hx
  cases ts with
  | nil => cases hp
  | cons t r =>
    rcases List.mem_append.mp (show p ∈ termWs t.1 t.2 ++ moreWs r from hp) with hp | hp
    · exact term_ascii (h t (List.mem_cons_self ..)).2.2.2 p hp d hd
    · exact more_ascii (fun x hx => h x (List.mem_cons_of_mem _ hx)) p hp d hd
theorem shw_text {ts : List Term} (l4 : ts.length ≤ 4) (h : ∀ t ∈ ts, TermFine t) : Shw (.str (sumText ts)) 0 200 := (Shw.str (sumText_ascii h)).mono (Nat.le_refl _) (sumText_short l4 h)
theorem unlike_names {ts : List Term} (h : ∀ t ∈ ts, TermFine t) : ∀ x ∈ unlike ts, nameB x = true := by
  have key : ∀ (ts : List Term) (acc : List Str), (∀ t ∈ ts, TermFine t) → (∀ x ∈ acc, nameB x = true) → ∀ x ∈ unlikeF acc ts, nameB x = true := by
    intro ts
    induction ts with
    | nil => exact fun acc _ ha => ha
    | cons t r ih =>
      intro acc ht ha
      refine ih _ (fun u hu => ht u (List.mem_cons_of_mem _ hu)) ?_
      have fold : ∀ (ns acc : List Str), (∀ x ∈ ns, nameB x = true) → (∀ x ∈ acc, nameB x = true) → ∀ x ∈ ns.foldl addN acc, nameB x = true := by
        intro ns
        induction ns with
        | nil => exact fun acc _ ha => ha
        | cons n r ih =>
          intro acc hn ha
          refine ih _ (fun u hu => hn u (List.mem_cons_of_mem _ hu)) fun x hx => ?_
          rcases addN_mem2.mp hx with hx | e
          · exact ha x hx
          · rw [e]
            exact hn n (List.mem_cons_self ..)
      exact fold t.2 acc (ht t (List.mem_cons_self ..)).2.2.2 ha
  exact key ts [] h fun x hx => nomatch hx
end LC
namespace LC
open PySem PySem.Spec PyProof.Rows L2 TL ClX
/-- all that is known of the class Sum -/
structure SumKit (P : Program) (w : World) (K : PySem.W.Frag) (mg : Str → Option Value) (base : Heap) (C CS CM : Addr) : Prop where
  S : SumTxt K mg C
  I : SumIs K C
  terms : ∃ p g fd, PropOf K C "terms" p g ∧ FnOk P w K mg base CX0 1 g fd ["self"] (getSp C "_terms") ∧ Binds K fd ["self"] []
  names : ∃ p g fd, PropOf K C "names" p g ∧ FnOk P w K mg base CX0 1 g fd ["self"] (getSp C "_names") ∧ Binds K fd ["self"] []
  flat : ∃ p g fd, PropOf K C "is_flat" p g ∧ FnOk P w K mg base CX0 1 g fd ["self"] (spFlat K C) ∧ Binds K fd ["self"] []
  eq : ∃ f fd, OwnEq K C f ∧ FnOk P w K mg base CX0 1 f fd ["self", "other"] (spEq K C) ∧ Binds K fd ["self", "other"] []
  str : ∃ f fd, OwnStr K C f ∧ FnOk P w K mg base CX0 3 f fd ["self"] (spStr K C) ∧ Binds K fd ["self"] []
  read : ∃ mc p g fd gg gV, CRead K C mc ∧ CMet K C mc "read" p g ∧ FnOk P w K mg base (L2.CX P w) 7 g fd ["cls", "text"] (spReadSum K C CS CM) ∧ Binds K fd ["cls", "text"] [] ∧ KBn K fd ["cls", "text"] 1 ["text"] gg gV ∧ ∀ a b, gV [a] [b] = [a, b]
  nf : ∀ n ∈ kinds, PySem.W.notFirst K C (.type n) = true
  nstr : PySem.W.kitOne K (.ref C) (.type "str") = some false
theorem SumKit.nfs {P : Program} {w : World} {K : PySem.W.Frag} {mg : Str → Option Value} {base : Heap} {C CS CM : Addr} (_ : SumKit P w K mg base C CS CM) : PySem.W.notFirst K C (.ref C) = true := by
  unfold PySem.W.notFirst
  rw [beq_self_eq_true]
  rfl
/-! ### passed values that are changed behind the call -/
/-- what stays of a passed value: a list or a tuple of an int and a list or a tuple of texts -/
def PassW (K : PySem.W.Frag) (H0 H : Hp) (r : Addr) (m : Nat) (v : V) : Prop := ∃ (a b : Addr) (x : Int) (ss : List Str), v = .ref a ∧ ((H0 a = none ∧ a ≠ r ∧ H a = some (.lst [.int x, .ref b])) ∨ SqT K H a [.int x, .ref b]) ∧ ((H0 b = none ∧ b ≠ r ∧ H b = some (.lst (ss.map V.str))) ∨ SqT K H b (ss.map V.str)) ∧ ss.length ≤ m
theorem strs_no_ref {ss : List Str} {x : Int} {b : Addr} (h : ss.map V.str = [.int x, .ref b]) : False := by
  cases ss with
  | nil => cases h
  | cons s r =>
    have := (List.cons.inj h).1
    cases this
theorem PassV.weak {K : PySem.W.Frag} {H0 H : Hp} {r : Addr} {v : V} {t : Term} {ws : List V} (h : PassV K H0 H v t) (l3 : t.2.length ≤ 3) (hr : H r = some (.lst ws)) (hw : ∃ a r, ws = .ref a :: r) : PassW K H0 H r 3 v := by
  obtain ⟨a, b, rfl, h1, h2⟩ := h
  obtain ⟨wa, wr, rfl⟩ := hw
  refine ⟨a, b, t.1, t.2, rfl, h1.imp (fun z => ⟨z.1, fun e => ?_, z.2⟩) id, h2.imp (fun z => ⟨z.1, fun e => ?_, z.2⟩) id, l3⟩
  · have e2 := z.2
    rw [e, hr] at e2
    cases e2
  · have e2 := z.2
    rw [e, hr] at e2
    have e3 : (V.ref wa :: wr) = t.2.map V.str := by
      injection e2 with e2
      injection e2
    cases q : t.2 with
    | nil =>
      rw [q] at e3
      cases e3
    | cons s1 s2 =>
      rw [q] at e3
      have := (List.cons.inj e3).1
      cases this
theorem PassW.app {K : PySem.W.Frag} {H0 H H' : Hp} {r b : Addr} {m : Nat} {v : V} {ss : List Str} (h : PassW K H0 H r m v) (k : But b H H') (hb : H b = some (.lst (ss.map V.str))) (hb' : H' b = some (.lst ((ss.map V.str) ++ [.str "zz"]))) : PassW K H0 H' r (m + 1) v := by
  obtain ⟨a, b2, x, s2, rfl, h1, h2, l⟩ := h
  have ha : (H0 a = none ∧ a ≠ r ∧ H' a = some (.lst [.int x, .ref b2])) ∨ SqT K H' a [.int x, .ref b2] := by
    rcases h1 with ⟨z1, z2, z3⟩ | z
    · refine .inl ⟨z1, z2, k _ _ (fun e => ?_) z3⟩
      rw [e, hb] at z3
      injection z3 with z3
      injection z3 with z3
      exact strs_no_ref z3
    · exact .inr (k.sqt hb z)
  rcases h2 with ⟨z1, z2, z3⟩ | z
  · by_cases e : b2 = b
    · subst e
      have es : s2 = ss := by
        rw [hb] at z3
        injection z3 with z3
        injection z3 with z3
        have inj : ∀ {a b : List Str}, a.map V.str = b.map V.str → a = b := fun {a b} h => by
          induction a generalizing b with
          | nil => cases b with
            | nil => rfl
            | cons _ _ => cases h
          | cons x r ih => cases b with
            | nil => cases h
            | cons y q =>
              have h1 := List.cons.inj h
              rw [V.str.inj h1.1, ih h1.2]
        exact (inj z3).symm
      refine ⟨a, b2, x, ss ++ [("zz" : Str)], rfl, ha, .inl ⟨z1, z2, ?_⟩, ?_⟩
      · rw [hb', List.map_append]
        rfl
      · rw [List.length_append, ← es]
        exact Nat.succ_le_succ l
    · exact ⟨a, b2, x, s2, rfl, ha, .inl ⟨z1, z2, k _ _ e z3⟩, Nat.le_succ_of_le l⟩
  · exact ⟨a, b2, x, s2, rfl, ha, .inr (k.sqt hb z), Nat.le_succ_of_le l⟩
theorem PassW.set {K : PySem.W.Frag} {H0 H H' : Hp} {r a b : Addr} {x y : Int} {m : Nat} {v : V} (h : PassW K H0 H r m v) (k : But a H H') (hb : H a = some (.lst [.int x, .ref b])) (hb' : H' a = some (.lst [.int y, .ref b])) : PassW K H0 H' r m v := by
  obtain ⟨a2, b2, x2, s2, rfl, h1, h2, l⟩ := h
  have h2' : (H0 b2 = none ∧ b2 ≠ r ∧ H' b2 = some (.lst (s2.map V.str))) ∨ SqT K H' b2 (s2.map V.str) := by
    rcases h2 with ⟨z1, z2, z3⟩ | z
    · refine .inl ⟨z1, z2, k _ _ (fun e => ?_) z3⟩
      rw [e, hb] at z3
      injection z3 with z3
      injection z3 with z3
      exact strs_no_ref z3.symm
    · exact .inr (k.sqt hb z)
  rcases h1 with ⟨z1, z2, z3⟩ | z
  · by_cases e : a2 = a
    · subst e
      rw [hb] at z3
      injection z3 with z3
      injection z3 with z3
      injection z3 with z4 z5
      injection z5 with z5
      injection z5 with z5
      subst z5
      exact ⟨a2, b, y, s2, rfl, .inl ⟨z1, z2, hb'⟩, h2', l⟩
    · exact ⟨a2, b2, x2, s2, rfl, .inl ⟨z1, z2, k _ _ e z3⟩, h2', l⟩
  · exact ⟨a2, b2, x2, s2, rfl, .inr (k.sqt hb z), h2', l⟩
end LC
/-! LcAct: f(lambda: ..), where what f does behind an exception hangs on its own names (HandS.Lambda's pe_act, pe_lamcall wish it for every standing of these). -/
namespace LC
open PySem PySem.Spec PyProof.Rows L2 LamX
section
variable {X : Cx} {pins : List (Addr × Obj)} {σ : L2.St} {H : Hp} {s : Shared}
theorem act_at {CXg : CXT} {Eg : XK} {Ng : List Str} {qg : Str} {sg : Scope} {g f cc : Addr} {cdg pm ctv : Value} {params : Arguments} {body : Expr} {scope : Scope} {k i : Nat} {a : Str} {pn : List (Addr × Obj)} {xe : Value → Shared → Prop} {W : WX} {E : XK} {tb : TE} {p1 p2 : Pos} {σ0 : L2.St}
    (In : Inv X pins σ H s) (L : LamS X.env.scope scope) (at_ : s.heap.get? f = some (PySem.W.kla_obj "<lambda>" (X.env.qual ++ "<lambda>") params body scope (cloFrom X.env.cells scope.names []) pm cc ctv)) (nf : H f = none) (nfr : f ∉ frs X.stack)
    (binds : bindArgs (PySem.W.kla_fn "<lambda>" (X.env.qual ++ "<lambda>") params body scope (cloFrom X.env.cells scope.names []) pm (.ref cc) ctv) ⟨[], []⟩ = pure [])
    (tk : Takes ((cxOf CXg X.prog X.w X.K X.mg X.base Ng qg sg g cdg X.A X.stack s H Eg).tr pn xe) W) (hW : ∀ cls d H', E cls d H' → W cls d σ0 H') (hr : Room (k + 1) (X.A.deeper (envOfC qg sg s.heap.objs.size g cdg)))
    (does : ∀ (A : Around) (outer : List Env) (s : Shared) (H : Hp), Room k (A.deeper (lamEnv X scope s.heap.objs.size f cc)) → PE (lamCx X A outer s H E scope f cc) body tb)
    (hN : Ng[i]? = some a) (hv : Vis sg a) (hd : (a == ("__debug__" : Str)) = false := by decide) (hcd : (a == ("__classdict__" : Str)) = false := by decide) :
    PE ((cxOf CXg X.prog X.w X.K X.mg X.base Ng qg sg g cdg X.A X.stack s H Eg).tr pn xe) (.Call (.Name a p1) [] [] p2)
      (fun σZ HZ Q => σZ = σ0 ∧ σZ[i]? = some (some (.ref f)) ∧ HZ cc = some (CodeO cc (X.env.qual ++ "<lambda>")) ∧ tb σ HZ Q) := by
  constructor
  rintro pinsZ sZ σZ HZ Q InZ ⟨rfl, slot, code, told⟩
  refine wpAny_Call_Name_kw (thn ((pe_var (pos := p1) (i := i) hN hv hd hcd).run pinsZ sZ σZ HZ (fun v H1 => v = .ref f ∧ H1 = HZ) InZ ⟨.ref f, slot, rfl, rfl⟩) fun u s1 ⟨v, H1, In1, rel, ev, eH⟩ => ?_)
  subst ev eH
  obtain rfl : u = Value.ref f := rel
  have still := In1.base.keep f _ at_ nf nfr (fun z => nomatch (show f ∈ ([] : List Addr) from z))
  have unc : Un (frs X.stack) [] H H1 s.heap s1.heap := In1.base
  obtain ⟨⟨oc, vs, t, g1, g2, g3⟩, _, _⟩ := In1.hok cc _ code
  refine PySem.W.callWith_F0 ⟨_, _, _, _, still⟩ ?_
  have ran : codeAny (model X.prog X.w) (X.A.deeper (envOfC qg sg s.heap.objs.size g cdg)) (.call (.ref f) ⟨[], []⟩) (CR (L2.CX X.prog X.w) (envOfC qg sg s.heap.objs.size g cdg :: X.stack) X.prog X.w H1 s1 Q E) s1 := by
    refine PySem.W.kla_callFunE hr.depth still rfl L.co L.gen rfl ⟨cc, oc, vs, t, rfl, g1, g2, g3⟩ ?_
    rw [binds]
    refine wpAny_pure (wpAny_newFunctionEnv (fun y hy => (L.own y hy).2) (fun y hy => absurd hy (by simp)) (fun h₁ hns hsb => ⟨In1.nolimit.fresh _ hsb, ?_⟩) L.kind)
    have kept : ∀ b o, s1.heap.get? b = some o → h₁.get? b = some o := fun b o e => hsb.extBut b o (Nat.ne_of_lt (Heap.lt_size e)) (Heap.get?_push_of_some _ e)
    have InL : Inv (lamCx X (X.A.deeper (envOfC qg sg s.heap.objs.size g cdg)) (envOfC qg sg s.heap.objs.size g cdg :: X.stack) s1 H1 E scope f cc) [] σ H1 { s1 with heap := h₁, toks := s1.toks + ([] : List (Str × Value)).length } :=
      lam_start2 In L In1.env0 hr.hd unc hns kept
    show codeAny _ _ (.expr body (lamEnv X scope s1.heap.objs.size f cc)) _ _
    refine PySem.W.kla_codeExpr (wpAny_mono ((does _ _ s1 H1 (hr.deeper _)).run [] _ _ H1 Q InL told) (fun v s2 out => ?_) fun _ _ bad => bad)
    obtain ⟨y, H2, In2, rel2, q2⟩ := out
    exact ⟨y, H2, In2.os, In2.bare, In2.base, In2.hok, rel2, q2⟩
  refine wpAny_call (codeAny_mono ran fun r s2 out => ?_)
  cases r with
  | error e => exact tk e s2 (XE.of_call (X := (cxOf CXg X.prog X.w X.K X.mg X.base Ng qg sg g cdg X.A X.stack s H Eg).tr pn xe) In1 hW out)
  | ok fl =>
    cases fl with
    | ret u => exact In1.after out
    | next => exact False.elim out
    | brk => exact False.elim out
    | cont => exact False.elim out
end
/-- the def that calls what it got, and looks at its own names behind an exception -/
def GivesAt (X : Cx) (Ng : List Str) (x : Str) (sg : Scope) (g : Addr) (cdg : Value) (bg : List Stmt) (a : Str) (q : Str) (TT : (XK → Hp → VK → Prop) → Hp → VK → Prop) : Prop :=
  ∀ (f cc : Addr) (s : Shared) (H : Hp) (Q : VK) (tl : XK → Hp → VK → Prop),
    (∀ (W : WX) (pn : List (Addr × Obj)) (xe : Value → Shared → Prop) (E : XK) (p1 p2 : Pos) (σ0 : L2.St), Takes ((cxOf C8.CX0 X.prog X.w X.K X.mg X.base Ng x sg g cdg X.A X.stack s H C8.E0).tr pn xe) W → (∀ cls d H', E cls d H' → W cls d σ0 H') →
      PE ((cxOf C8.CX0 X.prog X.w X.K X.mg X.base Ng x sg g cdg X.A X.stack s H C8.E0).tr pn xe) (.Call (.Name a p1) [] [] p2) (fun σZ HZ Q => σZ = σ0 ∧ σZ[0]? = some (some (.ref f)) ∧ HZ cc = some (CodeO cc q) ∧ tl E HZ Q)) →
    H cc = some (CodeO cc q) → TT tl H Q →
    ∃ t, PSs (cxOf C8.CX0 X.prog X.w X.K X.mg X.base Ng x sg g cdg X.A X.stack s H C8.E0).nox bg t ∧ t { nx := fun _ H' => Q .non H', rt := Q } (L2.start Ng [.ref f]) H
theorem pe_lamcallAt {X : Cx} {T : List (Addr × Str)} {TT : (XK → Hp → VK → Prop) → Hp → VK → Prop} {x a : Str} {g c P : Addr} {k : Nat} {pg : Arguments} {bg : List Stmt} {sg : Scope} {dV kV doc pm cdv ct oc : Value} {an od : Option Addr} {osl : Array (Option Value)} {Ng : List Str}
    {params : Arguments} {body : Expr} {scope : Scope} {t : XK → TE} {p lpos pos : Pos} (hg : Gl X x) (hm : X.mg x = some (.ref g)) (hk : PySem.W.keepIn X.K (.ref g) = true)
    (lk : X.K.lookup g = some ⟨oc, od, .func (PySem.W.fnOf x x pg bg sg dV kV doc pm an cdv ct), osl⟩) (hcg : PySem.W.codeIn X.K cdv x = true) (hb : L2.Binds X.K (PySem.W.fnOf x x pg bg sg dV kV doc pm an cdv ct) [a] []) (Sg : FnScope Ng [a] sg) (hNg : Ng[0]? = some a) (hva : Vis sg a)
    (hG : GivesAt X Ng x sg g cdv bg a (X.env.qual ++ "<lambda>") TT)
    (TB : TabB X.base X.mg c P) (hcode : X.env.code = .ref c) (hmT : (P, X.env.qual ++ "<lambda>") ∈ T) (hu : ∀ p ∈ T, p.1 = P → p.2 = X.env.qual ++ "<lambda>") (hr : Room (k + 2) X.A) (L : LamS X.env.scope scope) (hdef : defaultsOf params X.env = ([], []))
    (hbind : ∀ (q : Str) (cl : List (Str × Addr)) (pm cv ctv : Value), bindArgs (PySem.W.kla_fn "<lambda>" q params body scope cl pm cv ctv) ⟨[], []⟩ = pure [])
    (hbody : ∀ (A : Around) (outer : List Env) (s : Shared) (H : Hp) (E : XK) (f cc : Addr), Room k (A.deeper (lamEnv X scope s.heap.objs.size f cc)) → PE (lamCx X A outer s H E scope f cc) body (t E))
    (hdb : (x == ("__debug__" : Str)) = false := by decide) (hd : (a == ("__debug__" : Str)) = false := by decide) (hcd : (a == ("__classdict__" : Str)) = false := by decide) :
    PE X (.Call (.Name x p) [.Lambda params body scope lpos] [] pos) (tLam T TT t) := by
  constructor
  rintro pins s σ H Q In ⟨hT, want⟩
  refine wpAny_Call_Name_kw (ld_glob In hg hm (PySem.W.callWith_K (h₀ := X.base) In.ok.mod.kin hk ?_ (by rfl) (by rfl)) hdb)
  show wpAny _ _ (spliced ((false, eval (.Lambda params body scope lpos) X.env) :: backTo pos (starEach [] X.env))) _ _ s
  refine Calls.spliced_cons (lam_make2 In TB hcode hmT hu hT hdef (L.has In.ok) fun f cc pm' ctv H1 s1 In1 eN T1 at1 nf nfr code => Calls.spliced_nil ⟨In1.kIn, ?_⟩)
  have ran : codeAny (model X.prog X.w) X.A (.call (.ref g) ⟨[.ref f], []⟩) (CR C8.CX0 X.stack X.prog X.w H1 s1 Q C8.E0) s1 := by
    refine run_ofS (N := Ng) (ps := [a]) (us := [.ref f]) (vs := [.ref f]) lk hcg Sg hr In1.env0 (hb s1 [.ref f] In1.kIn rfl) (.cons rfl .nil) rfl fun room => ?_
    obtain ⟨t1, ht1, q1⟩ := hG f cc s1 H1 Q (fun E H' Q' => t E σ H' Q') (fun W pn xe E p1 p2 σ0 tk hW => act_at (i := 0) In1 L at1 nf nfr (hbind _ _ _ _ _) tk hW room (fun A outer s H room2 => hbody A outer s H E f cc room2) hNg hva hd hcd) code (want H1 eN T1)
    exact ⟨t1, ht1.nox, q1⟩
  refine wpAny_call (codeAny_mono ran fun r s2 out => ?_)
  cases r with
  | error e => exact (show False from out).elim
  | ok fl =>
    cases fl with
    | ret u => exact In1.after out
    | next => exact False.elim out
    | brk => exact False.elim out
    | cont => exact False.elim out
end LC
namespace LC
open PySem PySem.Spec PyProof.Rows L2 LamX
theorem pe_gcls {X : Cx} {x : Str} {pos : Pos} {C : Addr} (h : X.mg x = some (.ref C)) (hg : Gl X x := by rfl) (hd : (x == ("__debug__" : Str)) = false := by decide) : PE X (.Name x pos) (tC (.ref C)) := pe_glob hg h (show RelV (.ref C) (.ref C) from rfl) hd
/-- what the head says of the exception classes that are heard of -/
structure HeardF (K : PySem.W.Frag) (mg : Str → Option Value) (CL CS CM CN CB CT CW C2 : Addr) : Prop where
  n_ValueError : mg "ValueError" = none
  g_LeastError : mg "LeastError" = some (.ref CL)
  g_BadSum : mg "BadSum" = some (.ref CS)
  g_TooMany : mg "TooMany" = some (.ref CM)
  g_BadName : mg "BadName" = some (.ref CN)
  g_BadNumber : mg "BadNumber" = some (.ref CB)
  g_BadText : mg "BadText" = some (.ref CT)
  g_BadWork : mg "BadWork" = some (.ref CW)
  g_Twice : mg "Twice" = some (.ref C2)
  hS : HeldC K CS
  hM : HeldC K CM
  eS : PySem.W.exmOne K (.ref CS) (.ref CL) = some true
  eM : PySem.W.exmOne K (.ref CM) (.ref CL) = some true
  aS : PySem.W.kitAny K (.ref CS) [.ref CN, .ref CB, .ref CT, .ref CW, .ref C2] = some false
  aM : PySem.W.kitAny K (.ref CM) [.ref CN, .ref CB, .ref CT, .ref CW, .ref C2] = some false
  vS : PySem.W.kitOne K (.ref CS) (.type "ValueError") = some true
  vM : PySem.W.kitOne K (.ref CM) (.type "ValueError") = some true
  kSS : PySem.W.kitOne K (.ref CS) (.ref CS) = some true
  kSM : PySem.W.kitOne K (.ref CS) (.ref CM) = some false
  kMS : PySem.W.kitOne K (.ref CM) (.ref CS) = some false
  kMM : PySem.W.kitOne K (.ref CM) (.ref CM) = some true
  nS : PySem.W.findIn K (.ref CS) "at" = some none
  nM : PySem.W.findIn K (.ref CM) "most" = some none
/-- what is heard: an exception's word and field, a value in a list -/
def Eh (CS CM : Addr) (Q : VK) : XK := fun cls d H' => ∃ (word : Str) (v : V), Bad CS CM word v cls d H' ∧ ∀ (t : Addr) (H2 : Hp), Same H' H2 → H2 t = some (.tup [.str word, v]) → Q (.ref t) H2
def Qh (Q : VK) : VK := fun v H' => ∀ (l : Addr) (H2 : Hp), Same H' H2 → H2 l = some (.lst [v]) → Q (.ref l) H2
def TTh (CS CM : Addr) : (XK → Hp → VK → Prop) → Hp → VK → Prop := fun tl H Q => ∀ (H0 : Hp) (E' : XK) (Q' : VK), Same H H0 → (∀ cls d H', Eh CS CM Q cls d H' → E' cls d H') → (∀ v H', Qh Q v H' → Q' v H') → tl E' H0 Q'
abbrev s_heard : Stmt := topS 46
theorem sc_heard : FnScope ["ask", "caught", "found", "error"] ["ask"] (defScope s_heard) := ⟨rfl, rfl, rfl, by decide +kernel, rfl, by decide +kernel, by decide +kernel⟩
theorem heard_gives {X : Cx} {CL CS CM CN CB CT CW C2 g : Addr} {cdg : Value} {q : Str} (T : Txt X.mg) (F : HeardF X.K X.mg CL CS CM CN CB CT CW C2) : GivesAt X ["ask", "caught", "found", "error"] "_law_heard" (defScope s_heard) g cdg (defBody s_heard) "ask" q (TTh CS CM) := by
  have sc := sc_heard
  intro f cc s H Q tl act code want
  refine ⟨_, PSs.nox (pss_cons (ps_asg (pe_tup (pa_cons pe_non (pa_cons pe_non pa_nil))) (pg_tup rfl (pgs_cons (pg_name (i := 1) sc.nd rfl (.inl rfl)) (pgs_cons (pg_name (i := 2) sc.nd rfl (.inl rfl)) pgs_nil))))
(pss_cons (ps_try_held (i := 3) (c := .ref CL) (tb := fun W D σ H => ∃ (Ech : XK), (∀ cls d H2, Ech cls d H2 → W cls d σ H2) ∧ σ[0]? = some (some (.ref f)) ∧ H cc = some (CodeO cc q) ∧ tl Ech H fun v H1 => D.nx (σ.set 2 (some v)) H1) rfl rfl rfl sc.nd rfl rfl ⟨rfl, by decide, .inl F.g_LeastError⟩ L2.takes0 (fun W pn xe tk _ => ?tryb) (fun a ob cls d pn _ _ => (pss_one (ps_set (i := 1) sc.nd rfl (.inl rfl) (pv 3)))))
(pss_cons (ps_if (pt_cmpR op_isN (pv 1) pe_non (nomark _))
  (pss_one (ps_ret (pe_lst (pa_cons (pv 2) pa_nil))))
  pss_nil)
(pss_cons (ps_if (PW.pt (pw_or (pt_val (pe_callB call_isiTH (by rfl) T.n_isinstance (by decide +kernel) (pa_cons (pv 1) (pa_cons (pe_tup (pa_cons (pe_gcls F.g_BadName) (pa_cons (pe_gcls F.g_BadNumber) (pa_cons (pe_gcls F.g_BadText) (pa_cons (pe_gcls F.g_BadWork) (pa_cons (pe_gcls F.g_Twice) pa_nil)))))) pa_nil)))) (pw_or1 (pt_not (pt_val (pe_callB call_isiH (by rfl) T.n_isinstance (by decide +kernel) (pa_cons (pv 1) (pa_cons (pe_bty "ValueError" F.n_ValueError (by decide +kernel)) pa_nil))))))))
  (pss_one (ps_ret (pe_tup (pa_cons pe_str (pa_cons pe_non pa_nil)))))
  pss_nil)
(pss_cons (ps_if (pt_val (pe_callB call_isiH (by rfl) T.n_isinstance (by decide +kernel) (pa_cons (pv 1) (pa_cons (pe_gcls F.g_BadSum) pa_nil))))
  (pss_one (ps_ret (pe_ifExp (pt_val (pe_callB call_isiH (by rfl) T.n_isinstance (by decide +kernel) (pa_cons (pv 1) (pa_cons (pe_gcls F.g_TooMany) pa_nil)))) (pe_tup (pa_cons pe_str (pa_cons pe_non pa_nil))) (pe_tup (pa_cons pe_str (pa_cons (pe_heldF (pv 1)) pa_nil))))))
  pss_nil)
(pss_one (ps_ret (pe_ifExp (pt_val (pe_callB call_isiH (by rfl) T.n_isinstance (by decide +kernel) (pa_cons (pv 1) (pa_cons (pe_gcls F.g_TooMany) pa_nil)))) (pe_tup (pa_cons pe_str (pa_cons (pe_heldF (pv 1)) pa_nil))) (pe_tup (pa_cons pe_str (pa_cons pe_non pa_nil))))))))))), ?rest⟩
  case tryb =>
    constructor
    rintro pins s1 σ H1 D In ⟨Ech, hW, slot, code1, told⟩
    exact (pss_one (ps_set (i := 2) sc.nd rfl (.inl rfl) (act W pn xe Ech _ _ σ tk hW))).run pins s1 σ H1 D In ⟨rfl, slot, code1, told⟩
  case rest =>
    refine ⟨szn 2, fun tt ntt => ?_⟩
    generalize hH0 : upd H tt _ = H0
    obtain ⟨s0, e0⟩ := alloc_eq ntt hH0
    refine ⟨tt, _, rfl, .of e0, rfl, .non, [.non], rfl, .non, [], rfl, rfl, ?_⟩
    refine ⟨Eh CS CM Q, fun cls d H2 bad => ?_, rfl, s0 _ _ code, want H0 _ _ s0 (fun _ _ _ h => h) fun v H1 good => ?_⟩
    · obtain ⟨word, v, ⟨dd, rfl, kind⟩, said⟩ := bad
      have two : ∀ {K : PySem.W.Frag} {H3 : Hp} {a : Addr} {C : Addr} {fs : List (Str × V)}, H3 a = some (Held (.ref C) (some dd) a) → H3 dd = some (.xd fs) → HeldC K C → HeldV K H3 (.ref a) C fs := fun h1 h2 h3 => ⟨_, dd, rfl, h1, h2, h3⟩
      rcases kind with ⟨rfl, rfl, at_⟩ | ⟨rfl, rfl, at_⟩
      · refine ⟨true, F.eS, fun _ a na => ?_, fun z => nomatch z⟩
        refine ⟨.ref a, rfl, fun na2 => ?_⟩
        generalize hH3 : upd H2 a _ = H3
        obtain ⟨s3, e3⟩ := alloc_eq na2 hH3
        have hv := two e3 (s3 _ _ at_) F.hS
        refine ⟨.ref a, rfl, rfl, _, rfl, iteF ?_⟩
        refine ⟨.ref a, rfl, szn 5, fun ct nct => ?_⟩
        generalize hH4 : upd H3 ct _ = H4
        obtain ⟨s4, e4⟩ := alloc_eq nct hH4
        have hv4 := hv.same s4
        refine ⟨_, ct, _, CS, _, _, false, rfl, e4, .cons (.own _) (.cons (.own _) (.cons (.own _) (.cons (.own _) (.cons (.own _) .nil)))), hv4, F.aS, _, rfl, iteF ?_⟩
        refine ⟨.ref a, rfl, _, _, CS, _, _, true, rfl, .ty _, hv4, F.vS, _, rfl, iteF ?_⟩
        refine ⟨.ref a, rfl, _, _, CS, _, _, true, rfl, .own _, hv4, F.kSS, _, rfl, iteT ?_⟩
        refine ⟨.ref a, rfl, _, _, CS, _, _, false, rfl, .own _, hv4, F.kSM, _, rfl, iteF ?_⟩
        refine ⟨.ref a, rfl, CS, _, v, hv4, F.nS, rfl, szn 2, fun rt nrt => ?_⟩
        generalize hH5 : upd H4 rt _ = H5
        obtain ⟨s5, e5⟩ := alloc_eq nrt hH5
        exact said rt H5 ((s3.trans s4).trans s5) e5
      · refine ⟨true, F.eM, fun _ a na => ?_, fun z => nomatch z⟩
        refine ⟨.ref a, rfl, fun na2 => ?_⟩
        generalize hH3 : upd H2 a _ = H3
        obtain ⟨s3, e3⟩ := alloc_eq na2 hH3
        have hv := two e3 (s3 _ _ at_) F.hM
        refine ⟨.ref a, rfl, rfl, _, rfl, iteF ?_⟩
        refine ⟨.ref a, rfl, szn 5, fun ct nct => ?_⟩
        generalize hH4 : upd H3 ct _ = H4
        obtain ⟨s4, e4⟩ := alloc_eq nct hH4
        have hv4 := hv.same s4
        refine ⟨_, ct, _, CM, _, _, false, rfl, e4, .cons (.own _) (.cons (.own _) (.cons (.own _) (.cons (.own _) (.cons (.own _) .nil)))), hv4, F.aM, _, rfl, iteF ?_⟩
        refine ⟨.ref a, rfl, _, _, CM, _, _, true, rfl, .ty _, hv4, F.vM, _, rfl, iteF ?_⟩
        refine ⟨.ref a, rfl, _, _, CM, _, _, false, rfl, .own _, hv4, F.kMS, _, rfl, iteF ?_⟩
        refine ⟨.ref a, rfl, _, _, CM, _, _, true, rfl, .own _, hv4, F.kMM, _, rfl, iteT ?_⟩
        refine ⟨.ref a, rfl, CM, _, v, hv4, F.nM, rfl, szn 2, fun rt nrt => ?_⟩
        generalize hH5 : upd H4 rt _ = H5
        obtain ⟨s5, e5⟩ := alloc_eq nrt hH5
        exact said rt H5 ((s3.trans s4).trans s5) e5
    · refine ⟨.non, rfl, rfl, _, rfl, iteT ?_⟩
      refine ⟨v, rfl, szn 1, fun l nl => ?_⟩
      generalize hH3 : upd H1 l _ = H3
      obtain ⟨s3, e3⟩ := alloc_eq nl hH3
      exact good l H3 s3 e3
end LC
namespace LC
open PySem PySem.Spec PyProof.Rows L2 TL ClX
/-- what stands while the passed values are changed -/
structure MadeFr (K : PySem.W.Frag) (C p c x l r : Addr) (n : Nat) (us ws : List V) (ts : List Term) (H H' : Hp) : Prop where
  k : But p H H'
  pen : Pen H' p c (n + 8)
  sum : SumAt K C H' x ts
  hl : H' l = some (.lst us)
  hts : TermsV K H' us ts
  hr : H' r = some (.lst ws)
theorem MadeFr.mut {K : PySem.W.Frag} {C p c x l r q : Addr} {n : Nat} {us ws xs : List V} {ts : List Term} {H H1 H2 : Hp} (f : MadeFr K C p c x l r n us ws ts H H1) (nq : H q = none) (qr : q ≠ r) (hq : H1 q = some (.lst xs)) (kq : But q H1 H2) (qp : q ≠ p) (qc : q ≠ c) (ql : q ≠ l) : MadeFr K C p c x l r n us ws ts H H2 :=
  ⟨fun b o nb e => kq b o (ne_of_none e nq) (f.k b o nb e), f.pen.but kq qp qc, f.sum.but kq hq, kq _ _ (Ne.symm ql) f.hl, f.hts.but kq hq, kq _ _ (Ne.symm qr) f.hr⟩
section
variable {P : Program} {w : World} {K : PySem.W.Frag} {mg : Str → Option Value} {base : Heap}
def spMadeRight (K : PySem.W.Frag) : Sp := fun vs H Q _ => ∃ (p c : Addr) (n : Nat) (l : Addr) (us : List V) (ts : List Term), vs = [.ref p, .ref l] ∧ Pen H p c n ∧ n ≤ 80000 ∧ H l = some (.lst us) ∧ l ≠ p ∧ TermsV K H us ts ∧ Fine ts ∧
  ∀ (H' : Hp), But p H H' → Pen H' p c (n + 8) → Q (.bl true) H'
abbrev s_made_right : Stmt := topS 48
theorem sc_made_right : FnScope ["pen", "terms", "passed", "value", "one", "inner", "text", "is_flat", "due", "twin", "told", "factor", "names"] ["pen", "terms"] (defScope s_made_right) := ⟨rfl, rfl, rfl, by decide +kernel, rfl, by decide +kernel, by decide +kernel⟩
theorem ok_made_right {f C CS CM : Addr} {fd : FuncData} (T : Txt mg) (SK : SumKit P w K mg base C CS CM) (F : FnP K "_law_made_right" s_made_right f fd)
    (c__law_passed : Cal P w K mg base CX0 7 "_law_passed" ["pen", "terms"] (spPassed K)) (c__law_sum : Cal P w K mg base (L2.CX P w) 7 "_law_sum" ["terms"] (spSumG K C CS CM)) (c__law_text : Cal P w K mg base CX0 7 "_law_text" ["terms"] (spLawText K)) (c__law_unlike : Cal P w K mg base CX0 7 "_law_unlike" ["terms"] (spUnlike K)) :
    GOk P w K mg base CX0 8 f fd ["pen", "terms"] (spMadeRight K) := by
  have sc := sc_made_right
  have S := SK.S
  obtain ⟨pT, gT, fdT, PT, FT, BT⟩ := SK.terms
  obtain ⟨pN, gN, fdN, PN, FN, BN⟩ := SK.names
  obtain ⟨pF, gF, fdF, PF, FF, BF⟩ := SK.flat
  obtain ⟨fE, fdE, OE, FE, BE⟩ := SK.eq
  obtain ⟨fS, fdS, OS, FS, BS⟩ := SK.str
  obtain ⟨mc, pR, gR, fdR, gg, gV, rd, cm, FR, BR, KR, egv⟩ := SK.read
  refine g_of F sc (fun vs H Q E h => ?_) (fun cdv A outer s H vs Q E hg hr h => ?_)
  · obtain ⟨p, c, n, l, us, ts, rfl, _⟩ := h
    rfl
  · obtain ⟨p, c, n, l, us, ts, rfl, hP, hn, hl, lp, hts, hf, q⟩ := h
    refine ⟨_, PSs.nox (pss_cons (ps_set (i := 2) sc.nd rfl (.inl rfl) (pe_cal c__law_passed hr (by rfl) pass0 (pa_cons (pv 0) (pa_cons (pv 1) pa_nil))))
(pss_cons (ps_set (i := 3) sc.nd rfl (.inl rfl) (pe_cal c__law_sum hr (by rfl) passL (pa_cons (pv 2) pa_nil)))
(pss_cons (ps_for PassesOwn.never rfl (pi_list (pv 2)) (pg_name (i := 4) sc.nd rfl (.inl rfl))
  (Evl.pss_cut (ps_set (i := 5) sc.nd rfl (.inl rfl) (pe_ix (IxR.or ix_list ix_tup) (pv 4) pe_int (fun _ _ => rfl)))
  (Evl.pss_cut (ps_if (pt_val (pe_callB call_isi (by rfl) T.n_isinstance (by decide +kernel) (pa_cons (pv 5) (pa_cons (pe_bty "list" T.n_list (by decide +kernel)) pa_nil))))
    (pss_one (ps_expr (pe_bm PySem.F.plainAttrs_list PySem.F.slot_list_append PySem.F.type_list_append mt_append (pv 5) (pa_cons pe_str pa_nil))))
    pss_nil)
  (pss_one (ps_if (pt_val (pe_callB call_isi (by rfl) T.n_isinstance (by decide +kernel) (pa_cons (pv 4) (pa_cons (pe_bty "list" T.n_list (by decide +kernel)) pa_nil))))
    (pss_one (ps_asg pe_int (pg_sub (pv 4) pe_int set_list)))
    pss_nil)))))
(pss_cons (ps_par (i := 6) (j := 7) (by rfl) sc.nd rfl rfl (by decide) rfl rfl (pa_cons (pe_cal c__law_text hr (by rfl) pass0 (pa_cons (pv 1) pa_nil)) (pa_cons (pe_cmpR (op_eqD hr.units) (pe_lc (own := [("factor", 11), ("names", 12)]) (g := (gTup K 2 (gCons (gName 11) (gCons (gName 12) gNil)))) (te := (tC (.int 1))) (tt := (tTest (tOp (rI0 fun i j => .bl (decide (j < i))) (tCB (fun xs H Q => ∃ x n, xs = [x] ∧ LenV K x H n ∧ Q (.int n) H) (tCons (tVar 12) tNil)) (tC (.int 1))))) rfl sc.nd (pi_list (pv 1)) (blkOk_by (N := ["pen", "terms", "passed", "value", "one", "inner", "text", "is_flat", "due", "twin", "told", "factor", "names"]) (sc := defScope s_made_right) (by decide +kernel)) (fun _ _ _ _ _ => by exact (pg_tup rfl (pgs_cons (pg_name (i := 11) sc.nd rfl (.inl rfl)) (pgs_cons (pg_name (i := 12) sc.nd rfl (.inl rfl)) pgs_nil)))) (fun _ _ _ _ _ => by exact (pts_one (pt_cmpR op_gt (pe_callB call_len (by rfl) T.n_len (by decide +kernel) (pa_cons (pv 12) pa_nil)) pe_int (nomark _)))) (fun _ _ _ _ _ => by exact pe_int)) (pe_lst pa_nil) (nomark _)) pa_nil)) (by rfl))
(pss_cons (ps_set (i := 8) sc.nd rfl (.inl rfl) (pe_lst (pa_cons (pe_callTy call_tuple_of (by rfl) T.n_tuple (by decide +kernel) (pa_cons (pv 1) pa_nil)) (pa_cons (pe_callTy call_tuple_of (by rfl) T.n_tuple (by decide +kernel) (pa_cons (pe_cal c__law_unlike hr (by rfl) pass0 (pa_cons (pv 1) pa_nil)) pa_nil)) (pa_cons (pv 7) (pa_cons (pv 6) pa_nil))))))
(pss_cons (ps_set (i := 9) sc.nd rfl (.inl rfl) (pe_cmethK0 (pe_gcls S.g_Sum) rd cm FR hr KR passL (pk_cons (pv 6) pk_nil)))
(pss_cons (ps_for PassesOwn.never rfl (pi_tup (pe_tup (pa_cons (pv 3) (pa_cons (pv 9) pa_nil)))) (pg_name (i := 4) sc.nd rfl (.inl rfl))
  (pss_one (ps_if (pt_cmpR op_ne (pe_callB (call_reprD hg hr.units) (by rfl) T.n_repr (by decide +kernel) (pa_cons (pe_lst (pa_cons (pe_prop (pv 4) S.cl PT FT (hr.mono (by decide)) BT .nil pass0 (by rfl)) (pa_cons (pe_prop (pv 4) S.cl PN FN (hr.mono (by decide)) BN .nil pass0 (by rfl)) (pa_cons (pe_prop (pv 4) S.cl PF FF (hr.mono (by decide)) BF .nil pass0 (by rfl)) (pa_cons (pe_callTy (call_strO OS FS BS (hr.mono (by decide)) pass0) (by rfl) T.n_str (by decide +kernel) (pa_cons (pv 4) pa_nil)) pa_nil))))) pa_nil)) (pe_callB (call_reprD hg hr.units) (by rfl) T.n_repr (by decide +kernel) (pa_cons (pv 8) pa_nil)) (nomark _))
    (pss_one (ps_ret pe_bl))
    pss_nil)))
(pss_cons (ps_set (i := 10) sc.nd rfl (.inl rfl) (pe_lst (pa_cons (pe_cmpR (op_eqO OE FE BE (hr.mono (by decide)) pass0) (pv 3) (pv 9) (nomark _)) (pa_cons (pe_cmpR (op_neO OE FE BE (hr.mono (by decide)) pass0) (pv 3) (pv 9) (nomark _)) (pa_cons (pe_cmpR (op_eqO OE FE BE (hr.mono (by decide)) pass0) (pv 3) (pv 6) (nomark _)) (pa_cons (pe_cmpR (op_eqO OE FE BE (hr.mono (by decide)) pass0) (pv 3) (pe_callTy call_tuple_of (by rfl) T.n_tuple (by decide +kernel) (pa_cons (pv 1) pa_nil)) (nomark _)) (pa_cons (pe_cmpR (op_neO OE FE BE (hr.mono (by decide)) pass0) (pv 3) pe_int (nomark _)) (pa_cons (pe_cmpR (op_eqO OE FE BE (hr.mono (by decide)) pass0) (pv 9) (pv 1) (nomark _)) pa_nil))))))))
(pss_one (ps_ret (pe_cmpR op_eq (pe_callB (call_reprD hg hr.units) (by rfl) T.n_repr (by decide +kernel) (pa_cons (pv 10) pa_nil)) (pe_callB (call_reprD hg hr.units) (by rfl) T.n_repr (by decide +kernel) (pa_cons (pe_lst (pa_cons pe_bl (pa_cons pe_bl (pa_cons pe_bl (pa_cons pe_bl (pa_cons pe_bl (pa_cons pe_bl pa_nil))))))) pa_nil)) (nomark _)))))))))))), ?_⟩
    obtain ⟨px, hp0⟩ := hP.at_
    have p0 : H p ≠ none := fun z => by rw [hp0] at z; cases z
    refine ⟨.ref p, rfl, .ref l, rfl, p, c, n, l, us, ts, rfl, hP, by omega, hl, lp, hts, hf.2.1, fun r ws H1 hpv nr er k1 pen1 => ?_⟩
    have lw : ws.length = ts.length := hpv.length
    refine ⟨.ref r, rfl, r, ws, ts.map some, rfl, .of er, passes_args hpv hf.2.2.1, by have := hf.2.1; omega, ?_⟩
    rw [sumOut_fine hf]
    intro x H2 nx s2 sx
    have rp : r ≠ p := new_ne hp0 nr
    have rl : l ≠ r := ne_of_none hl nr
    have fr2 : MadeFr K C p c x l r n us ws ts H H2 := ⟨k1.trans (.same s2), pen1.same s2, sx, s2 _ _ (k1 _ _ lp hl), (hts.but k1 hp0).same s2, s2 _ _ er⟩
    have wref : ∃ a r, ws = V.ref a :: r := by
      cases ws with
      | nil =>
        have := hf.1
        rw [← lw] at this
        cases this
      | cons w0 wr =>
        obtain ⟨t0, _, a0, b0, e0, _⟩ := paired_get (i := 0) hpv rfl
        exact ⟨a0, wr, by rw [e0]⟩
    have pw2 : ∀ v ∈ ws, PassW K H H2 r (3 + 0) v := fun v hv => by
      obtain ⟨i, hi⟩ := List.getElem?_of_mem hv
      obtain ⟨t, ht, pv⟩ := paired_get hpv hi
      exact (pv.same s2).weak (hf.2.2.1 t (List.mem_of_getElem? ht)).2.2.1 fr2.hr wref
    have away : ∀ {q : Addr}, H q = none → q ≠ p ∧ q ≠ c ∧ q ≠ l := fun {q} nq => ⟨hP.newP nq, hP.newC nq, new_ne hl nq⟩
    refine ⟨.ref r, rfl, r, rfl, ⟨ws, .of fr2.hr⟩, for_list (K := K) (a := r) (xs := ws) (fun i σ H' => MadeFr K C p c x l r n us ws ts H H' ∧ (∀ v ∈ ws, PassW K H H' r (3 + i) v) ∧ ∃ b1 b2 : Option V, σ = [some (.ref p), some (.ref l), some (.ref r), some (.ref x), b1, b2, none, none, none, none, none, none, none]) ⟨fr2, pw2, none, none, rfl⟩ (fun i σ H' _ h => .of h.1.hr) ?_ ?_⟩
    · rintro i v σ H' hi ⟨fr, pw, b1, b2, rfl⟩
      have hv : v ∈ ws := List.mem_of_getElem? hi
      obtain ⟨a, b, y, ss, rfl, h1, h2, lss⟩ := pw v hv
      -- inner = one[1]
      refine ⟨fun σ' H5 => H5 = H' ∧ σ' = [some (.ref p), some (.ref l), some (.ref r), some (.ref x), some (.ref a), some (.ref b), none, none, none, none, none, none, none], ?_, ?_⟩
      · refine ⟨.ref a, rfl, ?_⟩
        rcases h1 with ⟨z1, z2, z3⟩ | z
        · exact .inl ⟨a, _, 1, .ref b, rfl, rfl, .of z3, rfl, rfl, rfl⟩
        · exact .inr ⟨a, _, 1, .ref b, rfl, rfl, z, rfl, rfl, rfl⟩
      rintro σ' H5 ⟨rfl, rfl⟩
      -- inner.append
      refine ⟨fun σ' H6 => MadeFr K C p c x l r n us ws ts H H6 ∧ (∀ v ∈ ws, PassW K H H6 r (3 + i + 1) v) ∧ σ' = [some (.ref p), some (.ref l), some (.ref r), some (.ref x), some (.ref a), some (.ref b), none, none, none, none, none, none, none], ?_, ?_⟩
      · rcases h2 with ⟨z1, z2, z3⟩ | z
        · refine ⟨.ref b, rfl, .ref b, .ty "list", .type "list", .type "list", true, rfl, .ty _, .base (.lst z3), kit_ty (by decide +kernel), _, rfl, iteT ?_⟩
          have l63 : ss.length ≤ 100 := by
            have := (List.getElem?_eq_some_iff.mp hi).1
            have := hf.2.1
            omega
          refine ⟨.ref b, rfl, .inl ⟨rfl, _, .inl (.inl z3)⟩, b, _, _, rfl, rfl, z3, sz_lt (by rw [List.length_map]; omega), ?_⟩
          generalize hH7 : upd H5 b _ = H7
          have k7 : But b H5 H7 := by
            rw [← hH7]
            exact .set
          have e7 : H7 b = some (.lst ((ss.map V.str) ++ [.str "zz"])) := by
            rw [← hH7]
            exact upd_same
          obtain ⟨w1, w2, w3⟩ := away z1
          exact ⟨fr.mut z1 z2 z3 k7 w1 w2 w3, fun v hv => (pw v hv).app k7 z3 e7, rfl⟩
        · refine ⟨.ref b, rfl, .ref b, .ty "list", .type "tuple", .type "list", false, rfl, .ty _, sqt_ty z, kit_ty (by decide +kernel), _, rfl, iteF ?_⟩
          refine ⟨fr, fun v hv => ?_, rfl⟩
          obtain ⟨a, b, y, ss, e, h1, h2, lss⟩ := pw v hv
          exact ⟨a, b, y, ss, e, h1, h2, Nat.le_succ_of_le lss⟩
      rintro σ' H6 ⟨fr6, pw6, rfl⟩
      obtain ⟨a2, b2, y2, ss2, ea, g1, g2, lss2⟩ := pw6 _ hv
      cases ea
      rcases g1 with ⟨z1, z2, z3⟩ | z
      · refine ⟨.ref a, rfl, .ref a, .ty "list", .type "list", .type "list", true, rfl, .ty _, .base (.lst z3), kit_ty (by decide +kernel), _, rfl, iteT ?_⟩
        refine ⟨.ref a, rfl, a, _, 0, 0, rfl, rfl, z3, rfl, ?_⟩
        generalize hH7 : upd H6 a _ = H7
        have k7 : But a H6 H7 := by
          rw [← hH7]
          exact .set
        have e7 : H7 a = some (.lst [.int 77, .ref b2]) := by
          rw [← hH7]
          exact upd_same
        obtain ⟨w1, w2, w3⟩ := away z1
        exact ⟨fr6.mut z1 z2 z3 k7 w1 w2 w3, fun v hv => (pw6 v hv).set k7 z3 e7, _, _, rfl⟩
      · refine ⟨.ref a, rfl, .ref a, .ty "list", .type "tuple", .type "list", false, rfl, .ty _, sqt_ty z, kit_ty (by decide +kernel), _, rfl, iteF ?_⟩
        exact ⟨fr6, pw6, _, _, rfl⟩
    rintro σ H3 ⟨⟨k3, pen3, sx3, hl3, hts3, hr3⟩, _, b1, b2, rfl⟩
    clear hpv fr2 pw2 er pen1 sx s2
    -- text, is_flat
    refine ⟨.ref l, rfl, l, us, ts, rfl, .of hl3, hts3, hf.2.1, hf.2.2.1, fun H4 s4 => ?_⟩
    have hl4 := s4 _ _ hl3
    have hts4 := hts3.same s4
    have lu : us.length = ts.length := hts.length
    refine ⟨.ref l, rfl, l, rfl, ⟨us, .of hl4⟩, fun D nD => ?_⟩
    refine lc_list (K := K) (a := l) (xs := us) (fun i H' => Same H4 H' ∧ ∃ m : Nat, m ≤ i ∧ H' D = some (.lst ((List.replicate m (1 : Int)).map V.int)) ∧ (m = 0 ↔ flatT (ts.take i) = true)) ⟨same_new nD, 0, Nat.le_refl _, upd_same, by simp [flatT]⟩ (fun i H' _ h => .of (h.1 _ _ hl4)) ?_ ?_
    · rintro i v H' hi ⟨s5, m, mi, hD, hm⟩
      obtain ⟨t, ht, ta, tb, rfl, g1, g2⟩ := paired_get hts4 hi
      refine ⟨ta, _, rfl, sqt_same s5 g1, rfl, .int t.1, [.ref tb], rfl, .ref tb, [], rfl, rfl, rfl, ?_⟩
      refine ⟨.ref tb, rfl, .ref tb, _, rfl, .inr ⟨_, sqt_same s5 g2, rfl⟩, _, 1, rfl, rfl, _, rfl, ?_⟩
      have fl : flatT (ts.take (i + 1)) = (flatT (ts.take i) && decide (t.2.length ≤ 1)) := by
        unfold flatT
        rw [take_next ht, List.all_append]
        simp
      have hil : i < us.length := (List.getElem?_eq_some_iff.mp hi).1
      refine iteD (fun e => ?_) (fun e => ?_)
      · rw [List.length_map] at e
        refine ⟨_, hD, sz_lt (by rw [List.length_map, List.length_replicate]; have := hf.2.1; omega), fun b o eb => ?_, m + 1, Nat.succ_le_succ mi, ?_, ?_⟩
        · rw [upd_ne (ne_of_none eb nD)]
          exact s5 _ _ eb
        · rw [upd_same]
          simp [List.replicate_succ']
        · rw [fl, decide_eq_false (by omega)]
          simp
      · rw [List.length_map] at e
        refine ⟨s5, m, Nat.le_succ_of_le mi, hD, ?_⟩
        rw [fl, decide_eq_true (by omega), Bool.and_true]
        exact hm
    · rintro H5 ⟨s5, m, mi, hD, hm⟩
      rw [lu, List.take_length] at hm
      refine ⟨szn 0, fun le nle => ?_⟩
      generalize hH6 : upd H5 le _ = H6
      obtain ⟨s6, e6⟩ := alloc_eq nle hH6
      refine ⟨_, _, .lst (.of (s6 _ _ hD)) (dpAll_ints _), .lst (.of e6) .nil, shaped_ints _, rfl, ?_⟩
      have ev : (PyData.list ((List.replicate m (1 : Int)).map PyData.int)).eqv (.list []) = flatT ts := by
        cases m with
        | zero => rw [hm.mp rfl]; rfl
        | succ k =>
          cases q : flatT ts with
          | true => exact absurd (hm.mpr q) (by simp)
          | false => rfl
      rw [ev]
      have s46 := (s5.trans s6)
      -- due
      refine ⟨_, _, rfl, ?_⟩
      refine ⟨.ref l, rfl, l, us, rfl, .inl ⟨.of (s46 _ _ hl4), fun t1 n1 => ?_⟩⟩
      generalize hH7 : upd H6 t1 _ = H7
      obtain ⟨s7, e7⟩ := alloc_eq n1 hH7
      have s47 := s46.trans s7
      refine ⟨.ref l, rfl, l, us, ts, rfl, .of (s47 _ _ hl4), hts4.same s47, by have := hf.2.1; omega, fun t ht => by have := (hf.2.2.1 t ht).2.2.1; omega, fun u1 H8 nu s8 eu => ?_⟩
      refine ⟨u1, _, rfl, .inl ⟨.of eu, fun t2 n2 => ?_⟩⟩
      generalize hH9 : upd H8 t2 _ = H9
      obtain ⟨s9, e9⟩ := alloc_eq n2 hH9
      refine ⟨.bl (flatT ts), rfl, .str (sumText ts), rfl, szn 4, fun dl ndl => ?_⟩
      generalize hHa : upd H9 dl _ = Ha
      obtain ⟨sa, ea⟩ := alloc_eq ndl hHa
      have s7a := (s8.trans s9).trans sa
      have s4a := s47.trans s7a
      -- twin
      refine ⟨rfl, .str (sumText ts), rfl, rfl, ?_⟩
      rw [egv]
      refine ⟨.str (sumText ts), rfl, .inr ⟨_, rfl, by have := sumText_short hf.2.1 hf.2.2.1; omega, ?_⟩⟩
      rw [readF_iff.mpr ⟨hf, rfl⟩]
      intro y Hb ny sb sy
      have sxb : SumAt K C Hb x ts := sx3.same ((s4.trans s4a).trans sb)
      have dD : ∀ {H' : Hp}, Same Hb H' → Dp K H' (.ref dl) (.list [termsD ts, .tuple ((unlike ts).map PyData.str), .bool (flatT ts), .str (sumText ts)]) := fun {H'} s' => by
        have tq := sb.trans s'
        refine .lst (.of (tq _ _ ea)) (.cons (.tup (.of (tq _ _ (s7a _ _ e7))) (dp_terms ((hts4.same s4a).same tq))) (.cons (.tup (.of (tq _ _ (sa _ _ e9))) (dpAll_strs _)) (.cons (.bl _) (.cons (.str _) .nil))))
      have shD : Shw (.list [termsD ts, .tuple ((unlike ts).map PyData.str), .bool (flatT ts), .str (sumText ts)]) 4 2000 := by
        have a := shw_terms hf.2.2.1
        have b := shw_names (unlike_names hf.2.2.1)
        have c := shw_text hf.2.1 hf.2.2.1
        have l4 := hf.2.1
        have l3 := hf.2.2.2
        exact (Shw.lst (ShwL.cons a (ShwL.cons (Shw.tup b) (ShwL.cons (Shw.bl _) (ShwL.cons c ShwL.nil))))).mono (by omega) (by omega)
      -- for one in (value, twin)
      refine ⟨.ref x, rfl, .ref y, rfl, szn 2, fun tp ntp => ?_⟩
      generalize hHc : upd Hb tp _ = Hc
      obtain ⟨sc0, ec⟩ := alloc_eq ntp hHc
      refine ⟨tp, rfl, ⟨_, .of ec⟩, for_it (walk_tup (K := K) (a := tp) (xs := [V.ref x, V.ref y])) (fun i σ H' => Same Hc H' ∧ ∃ o : Option V, σ = [some (.ref p), some (.ref l), some (.ref r), some (.ref x), o, b2, some (.str (sumText ts)), some (.bl (flatT ts)), some (.ref dl), some (.ref y), none, none, none]) ⟨.refl _, _, rfl⟩ (fun i σ H' _ h => .of (h.1 _ _ ec)) ?_ ?_⟩
      · rintro i v σ H2 H' hi ⟨sm, o, rfl⟩ ⟨rfl, hv⟩
        obtain ⟨z, rfl, sz⟩ : ∃ z, v = .ref z ∧ SumAt K C H' z ts := by
          match i, hv with
          | 0, hv => exact ⟨x, (Option.some.inj hv).symm, sxb.same (sc0.trans sm)⟩
          | 1, hv => exact ⟨y, (Option.some.inj hv).symm, sy.same (sc0.trans sm)⟩
        obtain ⟨dx, T0, N, vs0, i1, i2, i3, i4⟩ := id sz
        refine ⟨.ref z, rfl, z, dx, _, rfl, i1, z, dx, _, .ref T0, rfl, i1, sflds_terms _ _, .ref z, rfl, z, dx, _, rfl, i1, z, dx, _, .ref N, rfl, i1, sflds_names _ _, .ref z, rfl, z, dx, _, rfl, i1, z, ts, rfl, sz, by have := hf.2.1; omega, fun H5 s5 => ?_⟩
        refine ⟨.ref z, rfl, z, dx, _, rfl, s5 _ _ i1, z, ts, rfl, sz.same s5, hf, fun H6 s6 => ⟨_, rfl, ?_⟩⟩
        refine ⟨szn 4, fun q4 nq4 => ?_⟩
        generalize hH7 : upd H6 q4 _ = H7
        obtain ⟨s7, e7⟩ := alloc_eq nq4 hH7
        have s57 := (s5.trans s6).trans s7
        have dz : Dp K H7 (.ref q4) (.list [termsD ts, .tuple ((unlike ts).map PyData.str), .bool (flatT ts), .str (sumText ts)]) :=
          .lst (.of e7) (.cons (.tup (sqt_same s57 i2) (dp_terms (i3.same s57))) (.cons (.tup (sqt_same s57 i4) (dpAll_strs _)) (.cons (.bl _) (.cons (.str _) .nil))))
        refine ⟨q4, _, rfl, dz, shD.lay, shD.sh, Nat.le_trans shD.dp (by decide), shD.len (by decide), ?_⟩
        refine ⟨.ref dl, rfl, dl, _, rfl, dD ((sc0.trans sm).trans s57), shD.lay, shD.sh, Nat.le_trans shD.dp (by decide), shD.len (by decide), rfl, _, rfl, ?_⟩
        rw [decide_eq_true rfl]
        exact iteF ⟨sm.trans s57, _, rfl⟩
      rintro σ Hd ⟨sd, o, rfl⟩
      have sbd := sc0.trans sd
      have sxd := sxb.same sbd
      have syd := sy.same sbd
      obtain ⟨dx, T0, N, vs0, i1, _⟩ := id sxd
      obtain ⟨dy, T1, N1, vs1, j1, _⟩ := id syd
      have fin := hf.2.2.1
      -- told
      refine ⟨.ref x, rfl, .ref y, rfl, x, dx, _, .ref C, rfl, i1, sum_ty S SK.I syd, SK.nfs, x, .ref y, ts, rfl, sxd, fin, .inr ⟨y, ts, rfl, syd, fin, _, rfl, ?_⟩⟩
      rw [decide_eq_true rfl]
      refine ⟨.ref x, rfl, .ref y, rfl, x, dx, _, .ref C, rfl, i1, sum_ty S SK.I syd, SK.nfs, x, .ref y, ts, rfl, sxd, fin, .inr ⟨y, ts, rfl, syd, fin, _, rfl, ?_⟩⟩
      rw [decide_eq_true rfl]
      refine ⟨.ref x, rfl, .str (sumText ts), rfl, x, dx, _, .type "str", rfl, i1, .base (.str _), SK.nf _ (by decide), x, _, ts, rfl, sxd, fin, .inl ⟨"str", ⟨by decide, .base (.str _), fun z e => by cases e; have := sumText_short hf.2.1 fin; omega⟩, _, rfl, ?_⟩⟩
      have hld : Hd l = some (.lst us) := sbd _ _ (sb _ _ (s4a _ _ hl4))
      refine ⟨.ref x, rfl, .ref l, rfl, l, us, rfl, .inl ⟨.of hld, fun t3 n3 => ?_⟩⟩
      generalize hHe : upd Hd t3 _ = He
      obtain ⟨se, ee⟩ := alloc_eq n3 hHe
      have i1e := se _ _ i1
      have sxe := sxd.same se
      have t3ok : ValOk K He (.ref t3) "tuple" := ⟨by decide, .base (.tup ee), fun z e => nomatch e⟩
      refine ⟨x, dx, _, .type "tuple", rfl, i1e, .base (.tup ee), SK.nf _ (by decide), x, _, ts, rfl, sxe, fin, .inl ⟨"tuple", t3ok, _, rfl, ?_⟩⟩
      refine ⟨.ref x, rfl, x, dx, _, .type "int", rfl, i1e, .base (.int _), SK.nf _ (by decide), x, _, ts, rfl, sxe, fin, .inl ⟨"int", ⟨by decide, .base (.int _), fun z e => nomatch e⟩, _, rfl, ?_⟩⟩
      have lok : ValOk K He (.ref l) "list" := ⟨by decide, .base (.lst (se _ _ hld)), fun z e => nomatch e⟩
      refine ⟨.ref y, rfl, .ref l, rfl, y, dy, _, .type "list", rfl, se _ _ j1, lok.t, SK.nf _ (by decide), y, _, ts, rfl, syd.same se, fin, .inl ⟨"list", lok, _, rfl, ?_⟩⟩
      refine ⟨szn 6, fun t4 n4 => ?_⟩
      generalize hHf : upd He t4 _ = Hf
      obtain ⟨sf, ef⟩ := alloc_eq n4 hHf
      have shT : Shw (.list [.bool true, .bool false, .bool false, .bool false, .bool true, .bool false]) 1 6 := (Shw.lst (ShwL.cons (Shw.bl _) (ShwL.cons (Shw.bl _) (ShwL.cons (Shw.bl _) (ShwL.cons (Shw.bl _) (ShwL.cons (Shw.bl _) (ShwL.cons (Shw.bl _) ShwL.nil))))))).mono (by decide) (by decide)
      have dpT : ∀ {H : Hp} {a : Addr}, H a = some (.lst [.bl true, .bl false, .bl false, .bl false, .bl true, .bl false]) → Dp K H (.ref a) (.list [.bool true, .bool false, .bool false, .bool false, .bool true, .bool false]) := fun e => .lst (.of e) (.cons (.bl _) (.cons (.bl _) (.cons (.bl _) (.cons (.bl _) (.cons (.bl _) (.cons (.bl _) .nil))))))
      refine ⟨.ref t4, rfl, t4, _, rfl, dpT ef, shT.lay, shT.sh, Nat.le_trans shT.dp (by decide), shT.len (by decide), ?_⟩
      refine ⟨szn 6, fun t5 n5 => ?_⟩
      generalize hHg : upd Hf t5 _ = Hg
      obtain ⟨sg, eg⟩ := alloc_eq n5 hHg
      refine ⟨t5, _, rfl, dpT eg, shT.lay, shT.sh, Nat.le_trans shT.dp (by decide), shT.len (by decide), rfl, ?_⟩
      rw [decide_eq_true rfl]
      have sAll : Same H3 Hg := (((((s4.trans s4a).trans sb).trans sbd).trans se).trans sf).trans sg
      exact q Hg (k3.trans (.same sAll)) (pen3.same sAll)
end
end LC
/-! LcRev: t[::-1] of a tuple. -/
namespace LC
open PySem PySem.Spec PyProof.Rows L2
section
variable {prog : Program} {w : World} {A : Around} {E : Value → Shared → Prop} {s : Shared}
theorem adjust_back (n : Nat) : Builtin.Slice.sliceAdjust none none (-1) (n : Int) = ((n : Int) - 1, -1) := by
  unfold Builtin.Slice.sliceAdjust
  simp
theorem places_back (n : Nat) : Builtin.Slice.slicePlaces ((n : Int) - 1) (-1) (-1) = n := by
  unfold Builtin.Slice.slicePlaces
  have h1 : ¬ ((-1 : Int) > 0) := by decide
  simp only [h1, if_false]
  by_cases h : (n : Int) - 1 > -1
  · rw [if_pos h]
    have e : (- -1 : Int) = 1 := by decide
    rw [e, Int.ediv_one]
    omega
  · rw [if_neg h]
    omega
theorem applied_back {sl : Addr} {vl vu vs : Value} {n : Nat} {Q : Int × Int × Nat → Shared → Prop} (hs : s.heap.IsSliceOf sl vl vu vs) (pl : IsPart vl none) (pu : IsPart vu none) (ps : IsPart vs (some (-1)))
    (h : Q ((n : Int) - 1, -1, n) s) : wpAny (model prog w) A (Builtin.Slice.sliceApplied (.ref sl) (pure (n : Int))) Q E s := by
  obtain ⟨os, hos, hcs, hds⟩ := id hs
  unfold Builtin.Slice.sliceApplied Builtin.Slice.sliceFields
  refine wpAny_bind (wpAny_bind (wpAny_field hos hds (x := vl) rfl (wpAny_bind (wpAny_field hos hds (x := vu) rfl (wpAny_bind (wpAny_field hos hds (x := vs) rfl (wpAny_pure ?_)))))))
  refine wpAny_bind (HT.slicePart_ ps ?_)
  show wpAny _ _ (if ((-1 : Int) == 0) = true then _ else _) _ _ s
  rw [if_neg (by decide)]
  refine wpAny_bind (HT.slicePart_ pl (wpAny_bind (HT.slicePart_ pu (wpAny_bind (wpAny_pure ?_)))))
  show wpAny _ _ (match Builtin.Slice.sliceAdjust none none (-1) (n : Int) with | (lo, hi) => pure (lo, (-1 : Int), Builtin.Slice.slicePlaces lo hi (-1))) _ _ s
  rw [adjust_back n]
  show wpAny _ _ (pure ((n : Int) - 1, (-1 : Int), Builtin.Slice.slicePlaces ((n : Int) - 1) (-1) (-1))) _ _ s
  rw [places_back]
  exact wpAny_pure h
theorem fm_congr {α β : Type} {f g : α → Option β} : ∀ {l : List α}, (∀ x ∈ l, f x = g x) → l.filterMap f = l.filterMap g
  | [], _ => rfl
  | a :: r, h => by
    rw [List.filterMap_cons, List.filterMap_cons, h a (List.mem_cons_self ..), fm_congr (l := r) fun x hx => h x (List.mem_cons_of_mem _ hx)]
theorem pick_back (xs : Array Value) : ((List.range xs.size).filterMap fun (m : Nat) => xs[((xs.size : Int) - 1 + (m : Int) * -1).toNat]?).toArray = xs.toList.reverse.toArray := by
  have e : ((List.range xs.size).filterMap fun (m : Nat) => xs[((xs.size : Int) - 1 + (m : Int) * -1).toNat]?) = (List.range xs.size).reverse.filterMap (xs[·]?) := by
    rw [← PySem.W.krv_range, List.filterMap_map]
    refine fm_congr fun m hm => ?_
    have := List.mem_range.mp hm
    show _ = xs[xs.size - 1 - m]?
    have e2 : ((xs.size : Int) - 1 + (m : Int) * -1).toNat = xs.size - 1 - m := by omega
    rw [e2]
  rw [e, List.filterMap_reverse, PySem.W.krv_all]
theorem getItem_tuple_back {t sl : Addr} {items : Array Value} {vl vu vs : Value} {Q : Value → Shared → Prop} (ht : IsTup s.heap t items) (hs : s.heap.IsSliceOf sl vl vu vs) (pl : IsPart vl none) (pu : IsPart vu none) (ps : IsPart vs (some (-1)))
    (h : Q (.ref s.heap.objs.size) { s with heap := s.heap.push { cls := .type "tuple", data := .seq items.toList.reverse.toArray } })
    (hsz : items.size ≤ sizeLine) : wpAny (model prog w) A (getItem (.ref t) (.ref sl)) Q E s := by
  have htake : sizeOk (.seq items.toList.reverse.toArray) := by
    show items.toList.reverse.toArray.size ≤ sizeLine
    rw [List.size_toArray, List.length_reverse, Array.length_toList]
    exact hsz
  obtain ⟨os, hos, hcs, hds⟩ := id hs
  have hTs : s.TypeIs (.ref sl) "slice" := ⟨os, hos, hcs⟩
  unfold getItem
  try with_reducible refine wpAny_holding ?_
  first | refine wpAny_bind (wpAny_pure ?_) | skip
  refine wpAny_bind (wpAny_sequenceKey ht.typeIs (by decide) ?_)
  refine wpAny_bind (wpAny_callSpecial?_slot (name := Str.ofString "__getitem__") ht.typeIs PyProof.Rows.slot_tuple_getitem
    (wpAny_call_entry PyProof.Rows.slot_tuple_getitem ht.typeIs entry_tuple_getitem ?_ (args_tuple_getitem _ _)))
  show wpAny _ _ (Builtin.Tuple.tupleItemsOf (.ref t) >>= _) _ _ s
  refine wpAny_bind (tupleItemsOf_ ht ?_)
  refine wpAny_bind (wpAny_typeOf hTs ?_)
  rw [if_pos (by decide)]
  refine wpAny_bind (applied_back hs pl pu ps ?_)
  have hno : ¬ ((((items.size : Int) - 1) == 0 && (-1 : Int) == 1 && items.size == items.size) = true) := by
    intro q
    rw [Bool.and_eq_true, Bool.and_eq_true] at q
    exact absurd q.1.2 (by decide)
  show wpAny _ _ (if (((items.size : Int) - 1) == 0 && (-1 : Int) == 1 && items.size == items.size) = true then _ else _) _ _ s
  rw [if_neg hno, pick_back]
  first
    | exact wpAny_bind (m := Builtin.Tuple.tupleExact _) (wpAny_newObj_type (wpAny_pure ⟨_, rfl, wpAny_pure h⟩) htake)
    | exact wpAny_bind (wpAny_bind (m := Builtin.Tuple.tupleExact _) (wpAny_newObj_type (wpAny_pure (wpAny_pure ⟨_, rfl, wpAny_pure h⟩)) htake))
    | exact wpAny_bind (wpAny_bind (m := Builtin.Tuple.tupleExact _) (wpAny_newObj_type (wpAny_pure ⟨_, rfl, wpAny_pure h⟩) htake))
end
def tRevT (K : PySem.W.Frag) (te : TE) : TE := fun σ H Q => te σ H fun x H1 => ∃ a xs, x = .ref a ∧ SqT K H1 a xs ∧ ∀ p, H1 p = none → Q (.ref p) (upd H1 p (.tup xs.reverse))
theorem pe_revT {X : Cx} {te : TE} {e : Expr} {k : Nat} {p1 p2 p3 pos : Pos} (he : PE X e te) : PE X (.Subscript e (.Slice none none (some (.UnaryOp .USub (.Constant (.int 1) k p1) p2)) p3) pos) (tRevT X.K te) := by
  refine ⟨fun pins s σ H Q I h => ?_⟩
  refine Subscript_ (thn (he.run pins s σ H _ I h) fun v s1 ⟨x, H1, I1, r1, q1⟩ => ?_)
  obtain ⟨a, xs, ex, hx, q⟩ := q1
  subst ex
  cases r1
  have hst : PO X (some (.UnaryOp .USub (.Constant (.int 1) k p1) p2)) (tPart (tUn (rU fun i => .int (-i)) (tC (.int 1)))) := po_some (pe_un un_neg pe_int)
  refine wpAny_Slice (thn (po_none.run pins s1 σ H1 (fun o H2 => o = none ∧ H2 = H1) I1 ⟨rfl, rfl⟩) fun vl s2 ⟨l, H2, I2, pl, el, e2⟩ => ?_)
  subst el e2
  refine thn (po_none.run pins s2 σ H2 (fun o H3 => o = none ∧ H3 = H2) I2 ⟨rfl, rfl⟩) fun vu s3 ⟨u, H3, I3, pu, eu, e3⟩ => ?_
  subst eu e3
  refine thn (hst.run pins s3 σ H3 (fun o H4 => o = some (-1) ∧ H4 = H3) I3 ⟨1, rfl, -1, rfl, rfl, rfl⟩) fun vs s4 ⟨o, H4, I4, ps, eo, e4⟩ => ?_
  subst eo e4
  have I5 : Inv X pins σ H4 { s4 with heap := s4.heap.push { cls := .type "slice", data := .fields #[vl, vu, vs] } } := I4.kept (t' := s4.toks) fun b ob q => Heap.get?_push_of_some _ q
  obtain ⟨its, r, ht, hz⟩ := I5.tuple hx
  have hlen : its.toArray.size = xs.length := by rw [List.size_toArray]; exact r.length.symm
  show wpAny (model X.prog X.w) X.A (subscriptTail e (.Slice none none (some (.UnaryOp .USub (.Constant (.int 1) k p1) p2)) p3) (.ref a) (.ref s4.heap.objs.size)) (EP X pins σ Q) X.xe { s4 with heap := s4.heap.push { cls := .type "slice", data := .fields #[vl, vu, vs] } }
  refine tail_any (ops := [.ref a, .ref s4.heap.objs.size]) ht.typeIs (PyProof.Rows.slot_tuple_getitem.lookup) ?_ (by with_unfolding_all rfl)
  refine getItem_tuple_back ht (Heap.IsSliceOf.new _ vl vu vs) pl pu ps ?_ (by rw [hlen]; exact hz)
  refine ⟨.ref _, _, I5.laid (t' := s4.toks) (o := .tup xs.reverse) (fun b ob q => Heap.get?_push_of_some _ q) (Nat.le_refl _) ?_, rfl, q _ (I5.hok.fresh (Nat.le_refl _))⟩
  exact ⟨by rw [List.length_reverse]; exact hz, _, r.reverse, IsTup.new _ _⟩
end LC
/-! LcUnl: unlike names as a set; slices of lists. -/
namespace LC
open PySem PySem.Spec PyProof.Rows L2
theorem addN_mem {acc : List Str} {x z : Str} : z ∈ addN acc x ↔ z ∈ acc ∨ z = x := by
  unfold addN
  by_cases h : x ∈ acc
  · rw [if_pos h]
    constructor
    · exact .inl
    · rintro (a | a)
      · exact a
      · rw [a]; exact h
  · rw [if_neg h]
    simp
theorem addN_nodup {acc : List Str} {x : Str} (h : acc.Nodup) : (addN acc x).Nodup := by
  unfold addN
  by_cases m : x ∈ acc
  · rw [if_pos m]
    exact h
  · rw [if_neg m, List.nodup_append]
    refine ⟨h, by simp, fun a ha b hb e => ?_⟩
    rw [List.mem_singleton] at hb
    rw [e, hb] at ha
    exact m ha
theorem foldN_mem {z : Str} : ∀ (ws acc : List Str), z ∈ ws.foldl addN acc ↔ z ∈ acc ∨ z ∈ ws
  | [], acc => by simp
  | x :: r, acc => by
    show z ∈ r.foldl addN (addN acc x) ↔ _
    rw [foldN_mem r, addN_mem, List.mem_cons, or_assoc]
theorem foldN_nodup : ∀ (ws acc : List Str), acc.Nodup → (ws.foldl addN acc).Nodup
  | [], acc, h => h
  | x :: r, acc, h => foldN_nodup r _ (addN_nodup h)
theorem unlikeF_mem {z : Str} : ∀ (ts : List Term) (acc : List Str), z ∈ unlikeF acc ts ↔ z ∈ acc ∨ ∃ t ∈ ts, z ∈ t.2
  | [], acc => by simp [unlikeF]
  | t :: r, acc => by
    show z ∈ unlikeF (t.2.foldl addN acc) r ↔ _
    rw [unlikeF_mem r, foldN_mem]
    constructor
    · rintro ((a | a) | ⟨u, hu, hz⟩)
      · exact .inl a
      · exact .inr ⟨t, List.mem_cons_self .., a⟩
      · exact .inr ⟨u, List.mem_cons_of_mem _ hu, hz⟩
    · rintro (a | ⟨u, hu, hz⟩)
      · exact .inl (.inl a)
      · rcases List.mem_cons.mp hu with e | hu
        · rw [e] at hz
          exact .inl (.inr hz)
        · exact .inr ⟨u, hu, hz⟩
theorem unlikeF_nodup : ∀ (ts : List Term) (acc : List Str), acc.Nodup → (unlikeF acc ts).Nodup
  | [], acc, h => h
  | t :: r, acc, h => unlikeF_nodup r _ (foldN_nodup t.2 acc h)
theorem unlike_mem {z : Str} {ts : List Term} : z ∈ unlike ts ↔ ∃ t ∈ ts, z ∈ t.2 := by
  have e := unlikeF_mem (z := z) ts []
  unfold unlike
  rw [e]
  simp
theorem unlike_nodup (ts : List Term) : (unlike ts).Nodup := unlikeF_nodup ts [] List.nodup_nil
theorem unlike_le {ts : List Term} {ys : List Str} (h : ∀ t ∈ ts, ∀ z ∈ t.2, z ∈ ys) : (unlike ts).length ≤ ys.length :=
  List.Nodup.length_le_of_subset (unlike_nodup ts) fun z hz => by
    obtain ⟨t, ht, hz⟩ := unlike_mem.mp hz
    exact h t ht z hz
theorem cut_to {xs : List V} {k : Nat} (h : k ≤ xs.length) : cutV xs none (some (k : Int)) = xs.take k := by
  unfold cutV
  rw [HT.sIx_none, List.drop_zero, HT.sIx_nat, Nat.sub_zero, Nat.min_eq_left h]
theorem cut_from {xs : List V} {k : Nat} (h : k ≤ xs.length) : cutV xs (some (k : Int)) none = xs.drop k := by
  unfold cutV
  rw [HT.sIx_none, HT.sIx_nat, Nat.min_eq_left h]
  exact List.take_of_length_le (by rw [List.length_drop]; exact Nat.le_refl _)
end LC
namespace LC
open PySem PySem.Spec PyProof.Rows L2 TL ClX
/-- terms that are another row of good ones -/
def otherF (ts : List Term) (k : Nat) (w : Int) : List Term :=
  let t := ts.getD k (0, [])
  if w = 0 then ts.take k ++ [(if t.1 < 999999 then t.1 + 1 else 0, t.2)] ++ ts.drop (k + 1) else
  if w = 1 then ts.take k ++ [(t.1, t.2.reverse)] ++ ts.drop (k + 1) else
  if w = 2 then ts.reverse else
  if w = 3 ∧ 1 < ts.length then ts.take k ++ ts.drop (k + 1) else
  if w = 4 ∧ ts.length < 4 then ts ++ [(0, [])] else ts.take k ++ [(-t.1, t.2)] ++ ts.drop (k + 1)
theorem fine_sub {ts us : List Term} (h : Fine ts) (l1 : 1 ≤ us.length) (l4 : us.length ≤ 4) (tf : ∀ u ∈ us, TermFine u) (sub : ∀ u ∈ us, ∀ z ∈ u.2, ∃ t ∈ ts, z ∈ t.2) : Fine us :=
  ⟨l1, l4, tf, Nat.le_trans (unlike_le (ys := unlike ts) fun t ht z hz => unlike_mem.mpr (sub t ht z hz)) h.2.2.2⟩
theorem put_fine {ts : List Term} {k : Nat} {t u : Term} (h : Fine ts) (ht : ts[k]? = some t) (hu : TermFine u) (sub : ∀ z ∈ u.2, z ∈ t.2) : Fine (ts.take k ++ [u] ++ ts.drop (k + 1)) := by
  have lt := (List.getElem?_eq_some_iff.mp ht).1
  have len : (ts.take k ++ [u] ++ ts.drop (k + 1)).length = ts.length := by
    rw [List.length_append, List.length_append, List.length_take, List.length_drop]
    simp only [List.length_cons, List.length_nil]
    omega
  have mem : ∀ x ∈ ts.take k ++ [u] ++ ts.drop (k + 1), x ∈ ts ∨ x = u := fun x hx => by
    rcases List.mem_append.mp hx with hx | hx
    · rcases List.mem_append.mp hx with hx | hx
      · exact .inl (List.mem_of_mem_take hx)
      · exact .inr (List.mem_singleton.mp hx)
    · exact .inl (List.mem_of_mem_drop hx)
  refine fine_sub h (by rw [len]; exact h.1) (by rw [len]; exact h.2.1) (fun x hx => ?_) fun x hx z hz => ?_
  · rcases mem x hx with hx | e
    · exact h.2.2.1 x hx
    · rw [e]
      exact hu
  · rcases mem x hx with hx | e
    · exact ⟨x, hx, hz⟩
    · rw [e] at hz
      exact ⟨t, List.mem_of_getElem? ht, sub z hz⟩
theorem other_fine {ts : List Term} {k : Nat} (w : Int) (h : Fine ts) (hk : k < ts.length) : Fine (otherF ts k w) := by
  obtain ⟨t, ht⟩ : ∃ t, ts[k]? = some t := ⟨_, List.getElem?_eq_getElem hk⟩
  have e : ts.getD k (0, []) = t := by
    rw [List.getD_eq_getElem?_getD, ht]
    rfl
  obtain ⟨a, b, c, d⟩ := h.2.2.1 t (List.mem_of_getElem? ht)
  unfold otherF
  rw [e]
  simp only []
  split
  · exact put_fine h ht ⟨by show -999999 ≤ (if t.1 < 999999 then t.1 + 1 else 0); split <;> omega, by show (if t.1 < 999999 then t.1 + 1 else 0) ≤ 999999; split <;> omega, c, d⟩ fun z hz => hz
  · split
    · exact put_fine h ht ⟨a, b, by show t.2.reverse.length ≤ 3; rw [List.length_reverse]; exact c, fun x hx => d x (List.mem_reverse.mp hx)⟩ fun z hz => List.mem_reverse.mp hz
    · split
      · exact fine_sub h (by rw [List.length_reverse]; exact h.1) (by rw [List.length_reverse]; exact h.2.1) (fun u hu => h.2.2.1 u (List.mem_reverse.mp hu)) fun u hu z hz => ⟨u, List.mem_reverse.mp hu, hz⟩
      · split
        · rename_i q
          have mem : ∀ x ∈ ts.take k ++ ts.drop (k + 1), x ∈ ts := fun x hx => (List.mem_append.mp hx).elim (fun z => List.mem_of_mem_take z) fun z => List.mem_of_mem_drop z
          have len : (ts.take k ++ ts.drop (k + 1)).length = ts.length - 1 := by
            rw [List.length_append, List.length_take, List.length_drop]
            omega
          have l4 := h.2.1
          exact fine_sub h (by omega) (by omega) (fun u hu => h.2.2.1 u (mem u hu)) fun u hu z hz => ⟨u, mem u hu, hz⟩
        · split
          · rename_i q
            refine fine_sub h (by rw [List.length_append]; have := h.1; omega) (by rw [List.length_append]; simp only [List.length_cons, List.length_nil]; omega) (fun u hu => ?_) fun u hu z hz => ?_
            · rcases List.mem_append.mp hu with hu | hu
              · exact h.2.2.1 u hu
              · rw [List.mem_singleton.mp hu]
                exact ⟨by decide, by decide, by decide, fun x hx => nomatch hx⟩
            · rcases List.mem_append.mp hu with hu | hu
              · exact ⟨u, hu, hz⟩
              · rw [List.mem_singleton.mp hu] at hz
                cases hz
          · exact put_fine h ht ⟨by show -999999 ≤ -t.1; omega, by show -t.1 ≤ 999999; omega, c, d⟩ fun z hz => hz
theorem take_pairs {α β : Type} {F : α → β → Prop} : ∀ (k : Nat) {xs : List α} {ys : List β}, Paired F xs ys → Paired F (xs.take k) (ys.take k)
  | 0, _, _, _ => .nil
  | _ + 1, _, _, .nil => .nil
  | k + 1, _, _, .cons a r => .cons a (take_pairs k r)
theorem drop_pairs {α β : Type} {F : α → β → Prop} : ∀ (k : Nat) {xs : List α} {ys : List β}, Paired F xs ys → Paired F (xs.drop k) (ys.drop k)
  | 0, _, _, h => h
  | _ + 1, _, _, .nil => .nil
  | k + 1, _, _, .cons _ r => drop_pairs k r
theorem Paired.append {α β : Type} {F : α → β → Prop} : ∀ {xs xs2 : List α} {ys ys2 : List β}, Paired F xs ys → Paired F xs2 ys2 → Paired F (xs ++ xs2) (ys ++ ys2)
  | _, _, _, _, .nil, h => h
  | _, _, _, _, .cons a r, h => .cons a (Paired.append r h)
theorem rev_pairs {α β : Type} {F : α → β → Prop} : ∀ {xs : List α} {ys : List β}, Paired F xs ys → Paired F xs.reverse ys.reverse
  | _, _, .nil => .nil
  | _, _, .cons a r => by
    rw [List.reverse_cons, List.reverse_cons]
    exact Paired.append (rev_pairs r) (.cons a .nil)
section
variable {P : Program} {w : World} {K : PySem.W.Frag} {mg : Str → Option Value} {base : Heap}
def spOther (K : PySem.W.Frag) : Sp := fun vs H Q _ => ∃ (p c : Addr) (n : Nat) (l : Addr) (us : List V) (ts : List Term), vs = [.ref p, .ref l] ∧ Pen H p c n ∧ n ≤ 80000 ∧ H l = some (.lst us) ∧ l ≠ p ∧ TermsV K H us ts ∧ Fine ts ∧
  ∀ (r : Addr) (ws : List V) (ts' : List Term) (H' : Hp), Fine ts' → r ≠ p → H' r = some (.lst ws) → TermsV K H' ws ts' → But p H H' → Pen H' p c (n + 2) → Q (.ref r) H'
abbrev s_other : Stmt := topS 49
theorem sc_other : FnScope ["pen", "terms", "at", "way", "factor", "names"] ["pen", "terms"] (defScope s_other) := ⟨rfl, rfl, rfl, by decide +kernel, rfl, by decide +kernel, by decide +kernel⟩
theorem ok_other {f : Addr} {fd : FuncData} (T : Txt mg) (F : FnP K "_law_other" s_other f fd) (c__law_draw : Cal P w K mg base CX0 1 "_law_draw" ["pen", "many"] spDraw) : FnOk P w K mg base CX0 2 f fd ["pen", "terms"] (spOther K) := by
  have sc := sc_other
  refine F.ok sc (fun vs H Q E h => ?_) (fun cdv A outer s H vs Q E hr h => ?_)
  · obtain ⟨p, c, n, l, us, ts, rfl, _⟩ := h
    rfl
  · obtain ⟨p, c, n, l, us, ts, rfl, hP, hn, hl, lp, hts, hf, q⟩ := h
    refine ⟨_, PSs.nox (pss_cons (ps_par (i := 2) (j := 3) (by rfl) sc.nd rfl rfl (by decide) rfl rfl (pa_cons (pe_cal c__law_draw hr (by rfl) pass0 (pa_cons (pv 0) (pa_cons (pe_callB call_len (by rfl) T.n_len (by decide +kernel) (pa_cons (pv 1) pa_nil)) pa_nil))) (pa_cons (pe_cal c__law_draw hr (by rfl) pass0 (pa_cons (pv 0) (pa_cons pe_int pa_nil))) pa_nil)) (by rfl))
(pss_cons (ps_asg (pe_ix ix_list (pv 1) (pv 2) (fun _ _ => rfl)) (pg_tup rfl (pgs_cons (pg_name (i := 4) sc.nd rfl (.inl rfl)) (pgs_cons (pg_name (i := 5) sc.nd rfl (.inl rfl)) pgs_nil))))
(pss_cons (ps_if (pt_cmpR op_eq (pv 3) pe_int (nomark _))
  (pss_one (ps_ret (pe_op op_cat (pe_op op_cat (pe_slice sl_list (pv 1) po_none (po_some (pv 2))) (pe_lst (pa_cons (pe_tup (pa_cons (pe_ifExp (pt_cmpR op_lt (pv 4) pe_int (nomark _)) (pe_op op_add (pv 4) pe_int) pe_int) (pa_cons (pv 5) pa_nil))) pa_nil))) (pe_slice sl_list (pv 1) (po_some (pe_op op_add (pv 2) pe_int)) po_none))))
  pss_nil)
(pss_cons (ps_if (pt_cmpR op_eq (pv 3) pe_int (nomark _))
  (pss_one (ps_ret (pe_op op_cat (pe_op op_cat (pe_slice sl_list (pv 1) po_none (po_some (pv 2))) (pe_lst (pa_cons (pe_tup (pa_cons (pv 4) (pa_cons (pe_revT (pv 5)) pa_nil))) pa_nil))) (pe_slice sl_list (pv 1) (po_some (pe_op op_add (pv 2) pe_int)) po_none))))
  pss_nil)
(pss_cons (ps_if (pt_cmpR op_eq (pv 3) pe_int (nomark _))
  (pss_one (ps_ret (pe_revL (pv 1))))
  pss_nil)
(Evl.pss_cut (ps_if (PW.pt (pw_and (pt_cmpR op_eq (pv 3) pe_int (nomark _)) (pw_and1 (pt_cmpR op_gt (pe_callB call_len (by rfl) T.n_len (by decide +kernel) (pa_cons (pv 1) pa_nil)) pe_int (nomark _)))))
  (pss_one (ps_ret (pe_op op_cat (pe_slice sl_list (pv 1) po_none (po_some (pv 2))) (pe_slice sl_list (pv 1) (po_some (pe_op op_add (pv 2) pe_int)) po_none))))
  pss_nil)
(Evl.pss_cut (ps_if (PW.pt (pw_and (pt_cmpR op_eq (pv 3) pe_int (nomark _)) (pw_and1 (pt_cmpR op_lt (pe_callB call_len (by rfl) T.n_len (by decide +kernel) (pa_cons (pv 1) pa_nil)) pe_int (nomark _)))))
  (pss_one (ps_ret (pe_op op_cat (pv 1) (pe_lst (pa_cons (pe_tup (pa_cons pe_int (pa_cons (pe_tup pa_nil) pa_nil))) pa_nil)))))
  pss_nil)
(pss_one (ps_ret (pe_op op_cat (pe_op op_cat (pe_slice sl_list (pv 1) po_none (po_some (pv 2))) (pe_lst (pa_cons (pe_tup (pa_cons (pe_op op_sub pe_int (pv 4)) (pa_cons (pv 5) pa_nil))) pa_nil))) (pe_slice sl_list (pv 1) (po_some (pe_op op_add (pv 2) pe_int)) po_none))))))))))), ?_⟩
    obtain ⟨px, hp0⟩ := hP.at_
    have lu : us.length = ts.length := hts.length
    have l1 := hf.1
    have l4 := hf.2.1
    refine ⟨.ref p, rfl, .ref l, rfl, .ref l, _, rfl, .inl ⟨_, .of hl, rfl⟩, p, c, n, _, rfl, hP, by omega, by omega, small_pow (by omega) (by omega), fun d H1 d0 d1 k1 pen1 => ?_⟩
    refine ⟨.ref p, rfl, p, c, n + 1, 6, rfl, pen1, by omega, by decide, by decide, fun wy H2 w0 w1 k2 pen2 => ?_⟩
    refine ⟨_, _, rfl, ?_⟩
    have k12 := k1.trans k2
    have hl2 := k12 _ _ lp hl
    have hts2 : TermsV K H2 us ts := hts.but k12 hp0
    obtain ⟨k, rfl⟩ : ∃ k : Nat, d = (k : Int) := ⟨d.toNat, (Int.toNat_of_nonneg d0).symm⟩
    have hk : k < ts.length := by omega
    obtain ⟨t, ht⟩ : ∃ t, ts[k]? = some t := ⟨_, List.getElem?_eq_getElem hk⟩
    have egd : ts.getD k (0, []) = t := by
      rw [List.getD_eq_getElem?_getD, ht]
      rfl
    obtain ⟨v, hv⟩ : ∃ v, us[k]? = some v := ⟨_, List.getElem?_eq_getElem (by omega)⟩
    obtain ⟨t', ht', ta, tb, rfl, g1, g2⟩ := paired_get hts2 hv
    rw [ht] at ht'
    cases ht'
    obtain ⟨f0, f1, fl, fn⟩ := hf.2.2.1 t (List.mem_of_getElem? ht)
    have ct : cutV us none (some ((k : Nat) : Int)) = us.take k := cut_to (by omega)
    have cf : cutV us (some ((k : Int) + 1)) none = us.drop (k + 1) := cut_from (k := k + 1) (by omega)
    generalize hd : ((k : Nat) : Int) = d at *
    refine ⟨.ref l, rfl, .int d, rfl, l, _, d, .ref ta, rfl, rfl, .of hl2, by rw [← hd]; exact atI_nat hv, ta, _, rfl, g1, rfl, .int t.1, [.ref tb], rfl, .ref tb, [], rfl, rfl, ?_⟩
    refine ⟨.int wy, rfl, rfl, _, rfl, iteD (fun e0 => ?_) (fun e0 => ?_)⟩
    · -- way 0
      · refine ⟨.ref l, rfl, .int d, rfl, d, rfl, l, _, rfl, .of hl2, fun a na => ?_⟩
        rw [ct]
        generalize hH3 : upd H2 a _ = H3
        obtain ⟨s3, e3⟩ := alloc_eq na hH3
        have s34 := s3
        have e34 := e3
        refine ⟨.int t.1, rfl, t.1, 999999, rfl, rfl, _, rfl, iteD (fun lt => ?_) (fun lt => ?_)⟩
        · refine ⟨.int t.1, rfl, t.1, 1, rfl, rfl, .ref tb, rfl, szn 2, fun tt ntt => ?_⟩
          generalize hHa0 : upd H3 tt _ = Ha
          obtain ⟨sa0, ea0⟩ := alloc_eq ntt hHa0
          have s2a : Same H2 Ha := s34.trans sa0
          have ea3 := sa0 _ _ e34
          refine ⟨szn 1, fun lb nlb => ?_⟩
          have ef : (if t.1 < 999999 then t.1 + 1 else 0) = t.1 + 1 := if_pos lt
          have fo := other_fine 0 hf hk
          have eo : otherF ts k 0 = ts.take k ++ [(t.1 + 1, t.2)] ++ ts.drop (k + 1) := by
            unfold otherF
            rw [egd, if_pos rfl, ef]
          rw [eo] at fo
          have tq : TermV K Ha (.ref tt) (t.1 + 1, t.2) := ⟨tt, tb, rfl, .of ea0, sqt_same s2a g2⟩
          generalize hHb : upd Ha lb _ = Hb
          obtain ⟨sb, eb⟩ := alloc_eq nlb hHb
          refine ⟨a, lb, _, _, rfl, rfl, sb _ _ ea3, eb, sz_le (by rw [List.length_take]; simp only [List.length_cons, List.length_nil]; omega), fun r1 n1 => ?_⟩
          generalize hHc : upd Hb r1 _ = Hc
          obtain ⟨scc, ecc⟩ := alloc_eq n1 hHc
          have s2c : Same H2 Hc := (s2a.trans sb).trans scc
          refine ⟨.ref l, rfl, .int d, rfl, d, 1, rfl, rfl, _, rfl, l, _, rfl, .of (s2c _ _ hl2), fun c2 nc2 => ?_⟩
          rw [cf]
          generalize hHd : upd Hc c2 _ = Hd
          obtain ⟨sd, ed⟩ := alloc_eq nc2 hHd
          refine ⟨r1, c2, _, _, rfl, rfl, sd _ _ ecc, ed, sz_le (by rw [List.length_append, List.length_take, List.length_drop]; simp only [List.length_cons, List.length_nil]; omega), fun r2 n2 => ?_⟩
          generalize hHe : upd Hd r2 _ = He
          obtain ⟨se, ee⟩ := alloc_eq n2 hHe
          have sall := (s2c.trans sd).trans se
          have tae : Same Ha He := ((sb.trans scc).trans sd).trans se
          have tv : TermsV K He (us.take k ++ [.ref tt] ++ us.drop (k + 1)) (ts.take k ++ [(t.1 + 1, t.2)] ++ ts.drop (k + 1)) := by
            rw [List.append_assoc, List.append_assoc]
            exact LC.Paired.append (take_pairs k (hts2.same sall)) (.cons (tq.same tae) (drop_pairs (k + 1) (hts2.same sall)))
          refine q r2 _ _ He (fo) ?_ ee tv (k12.trans (.same sall)) (pen2.same sall)
          exact (pen2.same (s2c.trans sd)).newP n2
        · refine ⟨.ref tb, rfl, szn 2, fun tt ntt => ?_⟩
          generalize hHa0 : upd H3 tt _ = Ha
          obtain ⟨sa0, ea0⟩ := alloc_eq ntt hHa0
          have s2a : Same H2 Ha := s34.trans sa0
          have ea3 := sa0 _ _ e34
          refine ⟨szn 1, fun lb nlb => ?_⟩
          have ef : (if t.1 < 999999 then t.1 + 1 else 0) = 0 := if_neg lt
          have fo := other_fine 0 hf hk
          have eo : otherF ts k 0 = ts.take k ++ [(0, t.2)] ++ ts.drop (k + 1) := by
            unfold otherF
            rw [egd, if_pos rfl, ef]
          rw [eo] at fo
          have tq : TermV K Ha (.ref tt) (0, t.2) := ⟨tt, tb, rfl, .of ea0, sqt_same s2a g2⟩
          generalize hHb : upd Ha lb _ = Hb
          obtain ⟨sb, eb⟩ := alloc_eq nlb hHb
          refine ⟨a, lb, _, _, rfl, rfl, sb _ _ ea3, eb, sz_le (by rw [List.length_take]; simp only [List.length_cons, List.length_nil]; omega), fun r1 n1 => ?_⟩
          generalize hHc : upd Hb r1 _ = Hc
          obtain ⟨scc, ecc⟩ := alloc_eq n1 hHc
          have s2c : Same H2 Hc := (s2a.trans sb).trans scc
          refine ⟨.ref l, rfl, .int d, rfl, d, 1, rfl, rfl, _, rfl, l, _, rfl, .of (s2c _ _ hl2), fun c2 nc2 => ?_⟩
          rw [cf]
          generalize hHd : upd Hc c2 _ = Hd
          obtain ⟨sd, ed⟩ := alloc_eq nc2 hHd
          refine ⟨r1, c2, _, _, rfl, rfl, sd _ _ ecc, ed, sz_le (by rw [List.length_append, List.length_take, List.length_drop]; simp only [List.length_cons, List.length_nil]; omega), fun r2 n2 => ?_⟩
          generalize hHe : upd Hd r2 _ = He
          obtain ⟨se, ee⟩ := alloc_eq n2 hHe
          have sall := (s2c.trans sd).trans se
          have tae : Same Ha He := ((sb.trans scc).trans sd).trans se
          have tv : TermsV K He (us.take k ++ [.ref tt] ++ us.drop (k + 1)) (ts.take k ++ [(0, t.2)] ++ ts.drop (k + 1)) := by
            rw [List.append_assoc, List.append_assoc]
            exact LC.Paired.append (take_pairs k (hts2.same sall)) (.cons (tq.same tae) (drop_pairs (k + 1) (hts2.same sall)))
          refine q r2 _ _ He (fo) ?_ ee tv (k12.trans (.same sall)) (pen2.same sall)
          exact (pen2.same (s2c.trans sd)).newP n2
    refine ⟨.int wy, rfl, rfl, _, rfl, iteD (fun e1 => ?_) (fun e1 => ?_)⟩
    · -- way 1
      · refine ⟨.ref l, rfl, .int d, rfl, d, rfl, l, _, rfl, .of hl2, fun a na => ?_⟩
        rw [ct]
        generalize hH3 : upd H2 a _ = H3
        obtain ⟨s3, e3⟩ := alloc_eq na hH3
        refine ⟨.int t.1, rfl, .ref tb, rfl, tb, _, rfl, sqt_same s3 g2, fun rb nrb => ?_⟩
        generalize hH4 : upd H3 rb _ = H4
        obtain ⟨s4, e4⟩ := alloc_eq nrb hH4
        refine ⟨szn 2, fun tt ntt => ?_⟩
        generalize hHa0 : upd H4 tt _ = Ha
        obtain ⟨sa0, ea0⟩ := alloc_eq ntt hHa0
        have s2a : Same H2 Ha := (s3.trans s4).trans sa0
        have ea3 := sa0 _ _ (s4 _ _ e3)
        refine ⟨szn 1, fun lb nlb => ?_⟩
        have fo := other_fine 1 hf hk
        have eo : otherF ts k 1 = ts.take k ++ [(t.1, t.2.reverse)] ++ ts.drop (k + 1) := by
          unfold otherF
          rw [egd, if_neg (by decide), if_pos rfl]
        rw [eo] at fo
        have er : (t.2.map V.str).reverse = t.2.reverse.map V.str := List.map_reverse.symm
        rw [er] at e4
        have tq : TermV K Ha (.ref tt) (t.1, t.2.reverse) := ⟨tt, rb, rfl, .of ea0, .of (sa0 _ _ e4)⟩
        generalize hHb : upd Ha lb _ = Hb
        obtain ⟨sb, eb⟩ := alloc_eq nlb hHb
        refine ⟨a, lb, _, _, rfl, rfl, sb _ _ ea3, eb, sz_le (by rw [List.length_take]; simp only [List.length_cons, List.length_nil]; omega), fun r1 n1 => ?_⟩
        generalize hHc : upd Hb r1 _ = Hc
        obtain ⟨scc, ecc⟩ := alloc_eq n1 hHc
        have s2c : Same H2 Hc := (s2a.trans sb).trans scc
        refine ⟨.ref l, rfl, .int d, rfl, d, 1, rfl, rfl, _, rfl, l, _, rfl, .of (s2c _ _ hl2), fun c2 nc2 => ?_⟩
        rw [cf]
        generalize hHd : upd Hc c2 _ = Hd
        obtain ⟨sd, ed⟩ := alloc_eq nc2 hHd
        refine ⟨r1, c2, _, _, rfl, rfl, sd _ _ ecc, ed, sz_le (by rw [List.length_append, List.length_take, List.length_drop]; simp only [List.length_cons, List.length_nil]; omega), fun r2 n2 => ?_⟩
        generalize hHe : upd Hd r2 _ = He
        obtain ⟨se, ee⟩ := alloc_eq n2 hHe
        have sall := (s2c.trans sd).trans se
        have tae : Same Ha He := ((sb.trans scc).trans sd).trans se
        have tv : TermsV K He (us.take k ++ [.ref tt] ++ us.drop (k + 1)) (ts.take k ++ [(t.1, t.2.reverse)] ++ ts.drop (k + 1)) := by
          rw [List.append_assoc, List.append_assoc]
          exact LC.Paired.append (take_pairs k (hts2.same sall)) (.cons (tq.same tae) (drop_pairs (k + 1) (hts2.same sall)))
        refine q r2 _ _ He (fo) ?_ ee tv (k12.trans (.same sall)) (pen2.same sall)
        exact (pen2.same (s2c.trans sd)).newP n2
    refine ⟨.int wy, rfl, rfl, _, rfl, iteD (fun e2 => ?_) (fun e2 => ?_)⟩
    · refine ⟨.ref l, rfl, l, us, rfl, .of hl2, fun r2 n2 => ?_⟩
      generalize hHe : upd H2 r2 _ = He
      obtain ⟨se, ee⟩ := alloc_eq n2 hHe
      have fo := other_fine 2 hf hk
      have eo : otherF ts k 2 = ts.reverse := rfl
      rw [eo] at fo
      exact q r2 _ _ He fo (pen2.newP n2) ee (rev_pairs (hts2.same se)) (k12.trans (.same se)) (pen2.same se)
    refine ⟨fun σ' H5 => H2 = H5 ∧ σ' = [some (.ref p), some (.ref l), some (.int d), some (.int wy), some (.int t.1), some (.ref tb)], ?_, ?_⟩
    · refine ⟨.int wy, rfl, rfl, _, rfl, iteD (fun e3 => ?_) (fun e3 => ?_)⟩
      · refine ⟨.ref l, rfl, .ref l, _, rfl, .inl ⟨_, .of hl2, rfl⟩, _, 1, rfl, rfl, _, rfl, iteD (fun l2 => ?_) (fun l2 => ?_)⟩
        · skip
          refine ⟨.ref l, rfl, .int d, rfl, d, rfl, l, _, rfl, .of hl2, fun a na => ?_⟩
          rw [ct]
          generalize hH3 : upd H2 a _ = H3
          obtain ⟨s3, e3⟩ := alloc_eq na hH3
          refine ⟨.ref l, rfl, .int d, rfl, d, 1, rfl, rfl, _, rfl, l, _, rfl, .of (s3 _ _ hl2), fun c2 nc2 => ?_⟩
          rw [cf]
          generalize hHd : upd H3 c2 _ = Hd
          obtain ⟨sd, ed⟩ := alloc_eq nc2 hHd
          refine ⟨a, c2, _, _, rfl, rfl, sd _ _ e3, ed, sz_le (by rw [List.length_take, List.length_drop]; omega), fun r2 n2 => ?_⟩
          generalize hHe : upd Hd r2 _ = He
          obtain ⟨se, ee⟩ := alloc_eq n2 hHe
          have sall := (s3.trans sd).trans se
          have fo := other_fine 3 hf hk
          have eo : otherF ts k 3 = ts.take k ++ ts.drop (k + 1) := by
            unfold otherF
            rw [if_neg (by decide), if_neg (by decide), if_neg (by decide), if_pos ⟨rfl, by omega⟩]
          rw [eo] at fo
          exact q r2 _ _ He fo ((pen2.same (s3.trans sd)).newP n2) ee (LC.Paired.append (take_pairs k (hts2.same sall)) (drop_pairs (k + 1) (hts2.same sall))) (k12.trans (.same sall)) (pen2.same sall)
        · exact ⟨rfl, rfl⟩
      · exact ⟨rfl, rfl⟩
    rintro σ' H5 ⟨rfl, rfl⟩
    refine ⟨fun σ' H6 => H2 = H6 ∧ σ' = [some (.ref p), some (.ref l), some (.int d), some (.int wy), some (.int t.1), some (.ref tb)], ?_, ?_⟩
    · refine ⟨.int wy, rfl, rfl, _, rfl, iteD (fun e3 => ?_) (fun e3 => ?_)⟩
      · refine ⟨.ref l, rfl, .ref l, _, rfl, .inl ⟨_, .of hl2, rfl⟩, _, 4, rfl, rfl, _, rfl, iteD (fun l2 => ?_) (fun l2 => ?_)⟩
        · skip
          refine ⟨.ref l, rfl, szn 0, fun et net => ?_⟩
          generalize hH3 : upd H2 et _ = H3
          obtain ⟨s3, e3⟩ := alloc_eq net hH3
          refine ⟨szn 2, fun tt ntt => ?_⟩
          generalize hHa0 : upd H3 tt _ = Ha
          obtain ⟨sa0, ea0⟩ := alloc_eq ntt hHa0
          refine ⟨szn 1, fun lb nlb => ?_⟩
          generalize hHb : upd Ha lb _ = Hb
          obtain ⟨sb, eb⟩ := alloc_eq nlb hHb
          refine ⟨l, lb, _, _, rfl, rfl, sb _ _ (sa0 _ _ (s3 _ _ hl2)), eb, sz_le (by simp only [List.length_cons, List.length_nil]; omega), fun r2 n2 => ?_⟩
          generalize hHe : upd Hb r2 _ = He
          obtain ⟨se, ee⟩ := alloc_eq n2 hHe
          have sall := ((s3.trans sa0).trans sb).trans se
          have fo := other_fine 4 hf hk
          have eo : otherF ts k 4 = ts ++ [(0, [])] := by
            unfold otherF
            rw [if_neg (by decide), if_neg (by decide), if_neg (by decide), if_neg (fun z => absurd z.1 (by decide)), if_pos ⟨rfl, by omega⟩]
          rw [eo] at fo
          have tq : TermV K He (.ref tt) ((0 : Int), []) := ⟨tt, et, rfl, .of (se _ _ (sb _ _ ea0)), .of (se _ _ (sb _ _ (sa0 _ _ e3)))⟩
          exact q r2 _ _ He fo ((pen2.same ((s3.trans sa0).trans sb)).newP n2) ee (LC.Paired.append (hts2.same sall) (.cons tq .nil)) (k12.trans (.same sall)) (pen2.same sall)
        · exact ⟨rfl, rfl⟩
      · exact ⟨rfl, rfl⟩
    rintro σ' H6 ⟨rfl, rfl⟩
    · · refine ⟨.ref l, rfl, .int d, rfl, d, rfl, l, _, rfl, .of hl2, fun a na => ?_⟩
        rw [ct]
        generalize hH3 : upd H2 a _ = H3
        obtain ⟨s3, e3⟩ := alloc_eq na hH3
        refine ⟨.int t.1, rfl, 0, t.1, rfl, rfl, .ref tb, rfl, szn 2, fun tt ntt => ?_⟩
        generalize hHa0 : upd H3 tt _ = Ha
        obtain ⟨sa0, ea0⟩ := alloc_eq ntt hHa0
        have s2a : Same H2 Ha := s3.trans sa0
        have ea3 := sa0 _ _ e3
        refine ⟨szn 1, fun lb nlb => ?_⟩
        have e0 : (0 : Int) - t.1 = -t.1 := by omega
        have ea0 : Ha tt = some (.tup [.int (0 - t.1), .ref tb]) := ea0
        rw [e0] at ea0
        have fo := other_fine 5 hf hk
        have eo : otherF ts k 5 = ts.take k ++ [(-t.1, t.2)] ++ ts.drop (k + 1) := by
          unfold otherF
          rw [egd, if_neg (by decide), if_neg (by decide), if_neg (by decide), if_neg (fun z => absurd z.1 (by decide)), if_neg (fun z => absurd z.1 (by decide))]
        rw [eo] at fo
        have tq : TermV K Ha (.ref tt) (-t.1, t.2) := ⟨tt, tb, rfl, .of ea0, sqt_same s2a g2⟩
        generalize hHb : upd Ha lb _ = Hb
        obtain ⟨sb, eb⟩ := alloc_eq nlb hHb
        refine ⟨a, lb, _, _, rfl, rfl, sb _ _ ea3, eb, sz_le (by rw [List.length_take]; simp only [List.length_cons, List.length_nil]; omega), fun r1 n1 => ?_⟩
        generalize hHc : upd Hb r1 _ = Hc
        obtain ⟨scc, ecc⟩ := alloc_eq n1 hHc
        have s2c : Same H2 Hc := (s2a.trans sb).trans scc
        refine ⟨.ref l, rfl, .int d, rfl, d, 1, rfl, rfl, _, rfl, l, _, rfl, .of (s2c _ _ hl2), fun c2 nc2 => ?_⟩
        rw [cf]
        generalize hHd : upd Hc c2 _ = Hd
        obtain ⟨sd, ed⟩ := alloc_eq nc2 hHd
        refine ⟨r1, c2, _, _, rfl, rfl, sd _ _ ecc, ed, sz_le (by rw [List.length_append, List.length_take, List.length_drop]; simp only [List.length_cons, List.length_nil]; omega), fun r2 n2 => ?_⟩
        generalize hHe : upd Hd r2 _ = He
        obtain ⟨se, ee⟩ := alloc_eq n2 hHe
        have sall := (s2c.trans sd).trans se
        have tae : Same Ha He := ((sb.trans scc).trans sd).trans se
        have tv : TermsV K He (us.take k ++ [.ref tt] ++ us.drop (k + 1)) (ts.take k ++ [(-t.1, t.2)] ++ ts.drop (k + 1)) := by
          rw [List.append_assoc, List.append_assoc]
          exact LC.Paired.append (take_pairs k (hts2.same sall)) (.cons (tq.same tae) (drop_pairs (k + 1) (hts2.same sall)))
        refine q r2 _ _ He (fo) ?_ ee tv (k12.trans (.same sall)) (pen2.same sall)
        exact (pen2.same (s2c.trans sd)).newP n2
end
end LC
/-! LcLit: values that are written out. -/
namespace LC
open PySem PySem.Spec PyProof.Rows L2
/-- data, written out -/
inductive Lit
  | non | bl (b : Bool) | int (i : Int) | str (z : Str) | lst (xs : List Lit) | tup (xs : List Lit)
mutual
def Lit.t : Lit → TE
  | .non => tC .non
  | .bl b => tC (.bl b)
  | .int i => tC (.int i)
  | .str z => tC (.str z)
  | .lst xs => tLst (Lit.ts xs)
  | .tup xs => tTup (Lit.ts xs)
def Lit.ts : List Lit → TA
  | [] => tNil
  | x :: xs => tCons (Lit.t x) (Lit.ts xs)
end
theorem But.sqlN {K : PySem.W.Frag} {p a : Addr} {H H' : Hp} {xs : List V} (e : But p H H') (n : a ≠ p) (h : SqL K H a xs) : SqL K H' a xs := by
  rcases h with (h | ⟨o, h⟩) | h
  · exact .inl (.inl (e _ _ n h))
  · exact .inl (.inr ⟨o, e _ _ n h⟩)
  · exact .inr h
mutual
/-- a value is this data; lists were not there in H0 -/
inductive Is (K : PySem.W.Frag) (H0 H : Hp) : V → Lit → Prop
  | non : Is K H0 H .non .non
  | bl (b : Bool) : Is K H0 H (.bl b) (.bl b)
  | int (i : Int) : Is K H0 H (.int i) (.int i)
  | str (z : Str) : Is K H0 H (.str z) (.str z)
  | lst {a : Addr} {vs : List V} {ds : List Lit} : H0 a = none → SqL K H a vs → IsAll K H0 H vs ds → Is K H0 H (.ref a) (.lst ds)
  | tup {a : Addr} {vs : List V} {ds : List Lit} : SqT K H a vs → IsAll K H0 H vs ds → Is K H0 H (.ref a) (.tup ds)
inductive IsAll (K : PySem.W.Frag) (H0 H : Hp) : List V → List Lit → Prop
  | nil : IsAll K H0 H [] []
  | cons {v : V} {vs : List V} {d : Lit} {ds : List Lit} : Is K H0 H v d → IsAll K H0 H vs ds → IsAll K H0 H (v :: vs) (d :: ds)
end
mutual
theorem Is.same {K : PySem.W.Frag} {H0 H H' : Hp} (s : Same H H') : ∀ {d : Lit} {v : V}, Is K H0 H v d → Is K H0 H' v d
  | .non, _, .non => .non
  | .bl b, _, .bl _ => .bl b
  | .int i, _, .int _ => .int i
  | .str z, _, .str _ => .str z
  | .lst ds, _, .lst n q r => .lst n (sql_same s q) (IsAll.same s r)
  | .tup ds, _, .tup q r => .tup (sqt_same s q) (IsAll.same s r)
theorem IsAll.same {K : PySem.W.Frag} {H0 H H' : Hp} (s : Same H H') : ∀ {ds : List Lit} {vs : List V}, IsAll K H0 H vs ds → IsAll K H0 H' vs ds
  | [], _, .nil => .nil
  | _ :: _, _, .cons a r => .cons (Is.same s a) (IsAll.same s r)
end
mutual
theorem Is.but {K : PySem.W.Frag} {H0 H H' : Hp} {p : Addr} {u : HO} (k : But p H H') (hp : H p = some u) (nt : NT u) (n0 : H0 p ≠ none) : ∀ {d : Lit} {v : V}, Is K H0 H v d → Is K H0 H' v d
  | .non, _, .non => .non
  | .bl b, _, .bl _ => .bl b
  | .int i, _, .int _ => .int i
  | .str z, _, .str _ => .str z
  | .lst ds, _, .lst (a := a) n q r => .lst n (k.sqlN (fun e => n0 (by rw [← e]; exact n)) q) (IsAll.but k hp nt n0 r)
  | .tup ds, _, .tup q r => .tup (k.sqtN hp nt q) (IsAll.but k hp nt n0 r)
theorem IsAll.but {K : PySem.W.Frag} {H0 H H' : Hp} {p : Addr} {u : HO} (k : But p H H') (hp : H p = some u) (nt : NT u) (n0 : H0 p ≠ none) : ∀ {ds : List Lit} {vs : List V}, IsAll K H0 H vs ds → IsAll K H0 H' vs ds
  | [], _, .nil => .nil
  | _ :: _, _, .cons a r => .cons (Is.but k hp nt n0 a) (IsAll.but k hp nt n0 r)
end
theorem IsAll.len {K : PySem.W.Frag} {H0 H : Hp} : ∀ {ds : List Lit} {vs : List V}, IsAll K H0 H vs ds → vs.length = ds.length
  | [], _, .nil => rfl
  | _ :: _, _, .cons _ r => congrArg Nat.succ r.len
mutual
/-- few in each row -/
def Lit.few : Lit → Bool
  | .lst xs => decide (xs.length ≤ 1000) && Lit.fews xs
  | .tup xs => decide (xs.length ≤ 1000) && Lit.fews xs
  | .str z => decide (z.length ≤ 100000)
  | _ => true
def Lit.fews : List Lit → Bool
  | [] => true
  | x :: xs => Lit.few x && Lit.fews xs
end
theorem fresh_of {H0 H1 : Hp} {p : Addr} (s : Same H0 H1) (n : H1 p = none) : H0 p = none := by
  cases z : H0 p with
  | none => rfl
  | some o =>
    rw [s _ _ z] at n
    cases n
mutual
/-- what the writing leaves -/
theorem lit_t {K : PySem.W.Frag} {H0 : Hp} : ∀ (d : Lit), d.few = true → ∀ {σ : L2.St} {H : Hp} {Q : VK}, Same H0 H → (∀ (v : V) (H' : Hp), Same H H' → Is K H0 H' v d → Q v H') → d.t σ H Q
  | .non, _, σ, H, Q, _, q => q _ H (Same.refl H) .non
  | .bl b, _, σ, H, Q, _, q => q _ H (Same.refl H) (.bl b)
  | .int i, _, σ, H, Q, _, q => q _ H (Same.refl H) (.int i)
  | .str z, _, σ, H, Q, _, q => q _ H (Same.refl H) (.str z)
  | .lst xs, f, σ, H, Q, s0, q => by
    have f : (decide (xs.length ≤ 1000) && Lit.fews xs) = true := f
    rw [Bool.and_eq_true, decide_eq_true_eq] at f
    show Lit.ts xs σ H _
    refine lit_ts (K := K) (H0 := H0) xs f.2 s0 fun vs H1 s1 h1 => ⟨sz_le (by rw [h1.len]; omega), fun p np => ?_⟩
    exact q _ _ (s1.trans (same_new np)) (.lst (fresh_of (s0.trans s1) np) (.of upd_same) (h1.same (same_new np)))
  | .tup xs, f, σ, H, Q, s0, q => by
    have f : (decide (xs.length ≤ 1000) && Lit.fews xs) = true := f
    rw [Bool.and_eq_true, decide_eq_true_eq] at f
    show Lit.ts xs σ H _
    refine lit_ts (K := K) (H0 := H0) xs f.2 s0 fun vs H1 s1 h1 => ⟨sz_le (by rw [h1.len]; omega), fun p np => ?_⟩
    exact q _ _ (s1.trans (same_new np)) (.tup (.of upd_same) (h1.same (same_new np)))
theorem lit_ts {K : PySem.W.Frag} {H0 : Hp} : ∀ (ds : List Lit), Lit.fews ds = true → ∀ {σ : L2.St} {H : Hp} {Q : List V → Hp → Prop}, Same H0 H → (∀ (vs : List V) (H' : Hp), Same H H' → IsAll K H0 H' vs ds → Q vs H') → Lit.ts ds σ H Q
  | [], _, σ, H, Q, _, q => q _ H (Same.refl H) .nil
  | d :: ds, f, σ, H, Q, s0, q => by
    have f : (Lit.few d && Lit.fews ds) = true := f
    rw [Bool.and_eq_true] at f
    show Lit.t d σ H _
    refine lit_t (K := K) (H0 := H0) d f.1 s0 fun v H1 s1 h1 => ?_
    show Lit.ts ds σ H1 _
    refine lit_ts (K := K) (H0 := H0) ds f.2 (s0.trans s1) fun vs H2 s2 h2 => q _ H2 (s1.trans s2) (.cons (h1.same s2) h2)
end
/-- a new list of such -/
theorem lit_lst {K : PySem.W.Frag} {H0 : Hp} (ds : List Lit) (f : Lit.fews ds = true) (few : ds.length ≤ 1000) {σ : L2.St} {H : Hp} {Q : VK} (s0 : Same H0 H) (q : ∀ (l : Addr) (vs : List V) (H' : Hp), H l = none → Same H H' → H' l = some (.lst vs) → IsAll K H0 H' vs ds → Q (.ref l) H') : (Lit.lst ds).t σ H Q := by
  show Lit.ts ds σ H _
  refine lit_ts (K := K) (H0 := H0) ds f s0 fun vs H1 s1 h1 => ⟨sz_le (by rw [h1.len]; omega), fun p np => ?_⟩
  refine q p vs _ ?_ (s1.trans (same_new np)) upd_same (h1.same (same_new np))
  cases z : H p with
  | none => rfl
  | some o =>
    rw [s1 _ _ z] at np
    cases np
/-! ### kinds -/
def Lit.kind : Lit → String
  | .non => "NoneType"
  | .bl _ => "bool"
  | .int _ => "int"
  | .str _ => "str"
  | .lst _ => "list"
  | .tup _ => "tuple"
theorem Is.ok {K : PySem.W.Frag} {H0 H : Hp} {v : V} {d : Lit} (h : Is K H0 H v d) (f : d.few = true) : ValOk K H v d.kind := by
  cases h with
  | non => exact ⟨(by decide : "NoneType" ∈ kinds), .base .non, fun z e => nomatch e⟩
  | bl b => exact ⟨(by decide : "bool" ∈ kinds), .base (.bl b), fun z e => nomatch e⟩
  | int i => exact ⟨(by decide : "int" ∈ kinds), .base (.int i), fun z e => nomatch e⟩
  | str z => exact ⟨(by decide : "str" ∈ kinds), .base (.str z), fun y e => by cases e; exact of_decide_eq_true f⟩
  | lst _ q _ => exact ⟨(by decide : "list" ∈ kinds), sql_ty q, fun z e => nomatch e⟩
  | tup q _ => exact ⟨(by decide : "tuple" ∈ kinds), sqt_ty q, fun z e => nomatch e⟩
def Lit.seq : Lit → Option (List Lit)
  | .lst xs => some xs
  | .tup xs => some xs
  | _ => none
theorem Is.seq {K : PySem.W.Frag} {H0 H : Hp} {v : V} {d : Lit} {xs : List Lit} (h : Is K H0 H v d) (e : d.seq = some xs) : ∃ vs, SeqOf K H v vs ∧ IsAll K H0 H vs xs := by
  cases h with
  | lst _ q r => cases e; exact ⟨_, ⟨_, rfl, .inl q⟩, r⟩
  | tup q r => cases e; exact ⟨_, ⟨_, rfl, .inr q⟩, r⟩
  | _ => cases e
theorem kind_seq {d : Lit} (h : d.seq = none) : (d.kind == "tuple" || d.kind == "list") = false := by
  cases d with
  | lst _ => cases h
  | tup _ => cases h
  | non => exact (by decide : (("NoneType" : String) == "tuple" || ("NoneType" : String) == "list") = false)
  | bl _ => exact (by decide : (("bool" : String) == "tuple" || ("bool" : String) == "list") = false)
  | int _ => exact (by decide : (("int" : String) == "tuple" || ("int" : String) == "list") = false)
  | str _ => exact (by decide : (("str" : String) == "tuple" || ("str" : String) == "list") = false)
/-! ### terms -/
def Lit.nameB : Lit → Bool
  | .str z => LC.nameB z
  | _ => false
def Lit.within : Lit → Bool
  | .int i => decide (-999999 ≤ i) && decide (i ≤ 999999)
  | _ => false
theorem Is.within {K : PySem.W.Frag} {H0 H : Hp} {v : V} {d : Lit} (h : Is K H0 H v d) : withinB (-999999) 999999 v = d.within := by
  cases h <;> rfl
theorem Is.nameB {K : PySem.W.Frag} {H0 H : Hp} {v : V} {d : Lit} (h : Is K H0 H v d) : isNameB v = d.nameB := by
  cases h <;> rfl
theorem IsAll.names {K : PySem.W.Frag} {H0 H : Hp} : ∀ {ds : List Lit} {vs : List V}, IsAll K H0 H vs ds → vs.all isNameB = ds.all Lit.nameB
  | [], _, .nil => rfl
  | _ :: _, _, .cons a r => by
    rw [List.all_cons, List.all_cons, a.nameB, r.names]
/-- whether it is a term -/
def Lit.term (d : Lit) : Bool := match d.seq with
  | some [x, y] => x.within && match y.seq with
    | some zs => decide (zs.length ≤ 3) && zs.all Lit.nameB
    | none => false
  | _ => false
theorem IsAll.oks {K : PySem.W.Frag} {H0 H : Hp} : ∀ {ds : List Lit} {vs : List V}, IsAll K H0 H vs ds → Lit.fews ds = true → ∀ v ∈ vs, ∃ m, ValOk K H v m
  | [], _, .nil, _, v, hv => nomatch hv
  | d :: ds, _, .cons a r, f, v, hv => by
    have f : (Lit.few d && Lit.fews ds) = true := f
    rw [Bool.and_eq_true] at f
    rcases List.mem_cons.mp hv with e | hv
    · rw [e]
      exact ⟨_, a.ok f.1⟩
    · exact IsAll.oks r f.2 v hv
theorem fews_seq {d : Lit} {xs : List Lit} (f : d.few = true) (e : d.seq = some xs) : Lit.fews xs = true := by
  cases d with
  | lst ys =>
    cases e
    have f : (decide (xs.length ≤ 1000) && Lit.fews xs) = true := f
    rw [Bool.and_eq_true] at f
    exact f.2
  | tup ys =>
    cases e
    have f : (decide (xs.length ≤ 1000) && Lit.fews xs) = true := f
    rw [Bool.and_eq_true] at f
    exact f.2
  | _ => cases e
def Lit.inner (y : Lit) : Bool := match y.seq with
  | some zs => decide (zs.length ≤ 3) && zs.all Lit.nameB
  | none => false
theorem term_two {x y : Lit} {d : Lit} (e : d.seq = some [x, y]) : d.term = (x.within && y.inner) := by
  unfold Lit.term
  rw [e]
  rfl
theorem term_none {d : Lit} (e : d.seq = none) : d.term = false := by
  unfold Lit.term
  rw [e]
theorem term_other {d : Lit} {xs : List Lit} (e : d.seq = some xs) (n : xs.length ≠ 2) : d.term = false := by
  unfold Lit.term
  rw [e]
  rcases xs with _ | ⟨a, _ | ⟨b, _ | ⟨c, r⟩⟩⟩
  · rfl
  · rfl
  · exact absurd rfl n
  · rfl
theorem inner_none {y : Lit} (e : y.seq = none) : y.inner = false := by
  unfold Lit.inner
  rw [e]
theorem inner_some {y : Lit} {zs : List Lit} (e : y.seq = some zs) : y.inner = (decide (zs.length ≤ 3) && zs.all Lit.nameB) := by
  unfold Lit.inner
  rw [e]
theorem IsAll.two {K : PySem.W.Frag} {H0 H : Hp} {vs : List V} {x y : Lit} (h : IsAll K H0 H vs [x, y]) : ∃ a b, vs = [a, b] ∧ Is K H0 H a x ∧ Is K H0 H b y := by
  cases h with
  | cons h1 r =>
    cases r with
    | cons h2 r =>
      cases r
      exact ⟨_, _, rfl, h1, h2⟩
theorem fews_two {x y : Lit} (f : Lit.fews [x, y] = true) : x.few = true ∧ y.few = true := by
  have f : (x.few && (y.few && true)) = true := f
  rw [Bool.and_true, Bool.and_eq_true] at f
  exact f
theorem Is.arg {K : PySem.W.Frag} {H0 H : Hp} {v : V} {d : Lit} (h : Is K H0 H v d) (f : d.few = true) : ArgT K H v d.term := by
  cases e : d.seq with
  | none =>
    rw [term_none e]
    exact .other (h.ok f) (kind_seq e)
  | some xs =>
    obtain ⟨vs, sq, al⟩ := h.seq e
    have fx := fews_seq f e
    have hl := al.len
    by_cases l2 : xs.length = 2
    · obtain ⟨x, y, rfl⟩ : ∃ x y, xs = [x, y] := by
        rcases xs with _ | ⟨a, _ | ⟨b, _ | ⟨c, r⟩⟩⟩
        · cases l2
        · cases l2
        · exact ⟨_, _, rfl⟩
        · simp at l2
      obtain ⟨vx, vy, rfl, hx, hy⟩ := al.two
      obtain ⟨f1, f2⟩ := fews_two fx
      rw [term_two e]
      cases ew : x.within with
      | false => exact .factor sq (hx.ok f1) (by rw [hx.within, ew])
      | true =>
        have w : withinB (-999999) 999999 vx = true := by rw [hx.within, ew]
        rw [Bool.true_and]
        cases es : y.seq with
        | none =>
          rw [inner_none es]
          exact .parts sq (hx.ok f1) w (hy.ok f2) (kind_seq es)
        | some zs =>
          obtain ⟨ws, sq2, al2⟩ := hy.seq es
          rw [inner_some es]
          by_cases l3 : zs.length ≤ 3
          · rw [decide_eq_true l3, Bool.true_and, ← al2.names]
            exact .names sq (hx.ok f1) w sq2 (by rw [al2.len]; exact l3) (al2.oks (fews_seq f2 es))
          · rw [decide_eq_false l3, Bool.false_and]
            exact .long sq (hx.ok f1) w sq2 (by rw [al2.len]; omega)
    · rw [term_other e l2]
      exact .size sq (by rw [hl]; exact l2)
theorem IsAll.get {K : PySem.W.Frag} {H0 H : Hp} : ∀ {ds : List Lit} {vs : List V}, IsAll K H0 H vs ds → ∀ v ∈ vs, ∃ d ∈ ds, Is K H0 H v d
  | [], _, .nil, v, hv => nomatch hv
  | d :: ds, _, .cons a r, v, hv => by
    rcases List.mem_cons.mp hv with e | hv
    · exact ⟨d, List.mem_cons_self .., by rw [e]; exact a⟩
    · obtain ⟨x, hx, q⟩ := r.get v hv
      exact ⟨x, List.mem_cons_of_mem _ hx, q⟩
/-- none of them is a term -/
theorem IsAll.none {K : PySem.W.Frag} {H0 H : Hp} {ds : List Lit} {vs : List V} (h : IsAll K H0 H vs ds) (f : Lit.fews ds = true) (n : ds.all (fun d => !d.term) = true) : ∀ v ∈ vs, ArgT K H v false := by
  have key : ∀ {ds : List Lit} {d : Lit}, Lit.fews ds = true → d ∈ ds → d.few = true := by
    intro ds
    induction ds with
    | nil => intro d _ h; cases h
    | cons x r ih =>
      intro d f hd
      have f : (Lit.few x && Lit.fews r) = true := f
      rw [Bool.and_eq_true] at f
      rcases List.mem_cons.mp hd with e | hd
      · rw [e]
        exact f.1
      · exact ih f.2 hd
  intro v hv
  obtain ⟨d, hd, q⟩ := h.get v hv
  have z := q.arg (key f hd)
  have e : d.term = false := by
    have := List.all_eq_true.mp n d hd
    simpa using this
  rw [e] at z
  exact z
end LC
/-! LcTab: heaps with tables of code objects, which lambdas write. -/
namespace LC
open PySem PySem.Spec PyProof.Rows L2 LamX
/-- all but p and the tables are kept -/
def ButT (p : Addr) (H H' : Hp) : Prop := ∀ b o, b ≠ p → H b = some o → (∀ ps, o ≠ .tbl ps) → H' b = some o
theorem But.t {p : Addr} {H H' : Hp} (k : But p H H') : ButT p H H' := fun b o n e _ => k b o n e
theorem ButT.of {p : Addr} {H H' : Hp} (s : Same H H') : ButT p H H' := fun b o _ e _ => s b o e
theorem ButT.ext {p : Addr} {H H' : Hp} (s : ExtN H H') : ButT p H H' := fun b o _ e n => s b o e n
theorem ButT.trans {p : Addr} {H H1 H2 : Hp} (a : ButT p H H1) (b : ButT p H1 H2) : ButT p H H2 := fun c o n e t => b c o n (a c o n e t) t
theorem ButT.refl {p : Addr} {H : Hp} : ButT p H H := fun _ _ _ e _ => e
theorem ButT.lst {p a : Addr} {H H' : Hp} {xs : List V} (k : ButT p H H') (n : a ≠ p) (h : H a = some (.lst xs)) : H' a = some (.lst xs) := k _ _ n h fun _ z => nomatch z
theorem ButT.sqtN {K : PySem.W.Frag} {p a : Addr} {H H' : Hp} {xs : List V} {u : HO} (e : ButT p H H') (hp : H p = some u) (nt : NT u) (h : SqT K H a xs) : SqT K H' a xs := by
  rcases h with (h | ⟨o, h⟩) | h
  · exact .inl (.inl (e _ _ (ne_of h hp (fun z => by rw [← z] at nt; exact nt)) h fun _ z => nomatch z))
  · exact .inl (.inr ⟨o, e _ _ (ne_of h hp (fun z => by rw [← z] at nt; exact nt)) h fun _ z => nomatch z⟩)
  · exact .inr h
theorem ButT.sqlN {K : PySem.W.Frag} {p a : Addr} {H H' : Hp} {xs : List V} (e : ButT p H H') (n : a ≠ p) (h : SqL K H a xs) : SqL K H' a xs := by
  rcases h with (h | ⟨o, h⟩) | h
  · exact .inl (.inl (e _ _ n h fun _ z => nomatch z))
  · exact .inl (.inr ⟨o, e _ _ n h fun _ z => nomatch z⟩)
  · exact .inr h
theorem TermV.butT {K : PySem.W.Frag} {H H' : Hp} {q : Addr} {xs : List V} {v : V} {t : Term} (h : TermV K H v t) (k : ButT q H H') (hq : H q = some (.lst xs)) : TermV K H' v t := by
  obtain ⟨a, b, e, h1, h2⟩ := h
  exact ⟨a, b, e, k.sqtN hq trivial h1, k.sqtN hq trivial h2⟩
theorem TermsV.butT {K : PySem.W.Frag} {H H' : Hp} {q : Addr} {xs : List V} : ∀ {vs : List V} {ts : List Term}, TermsV K H vs ts → ButT q H H' → H q = some (.lst xs) → TermsV K H' vs ts
  | _, _, .nil, _, _ => .nil
  | _, _, .cons a r, k, h => .cons (a.butT k h) (TermsV.butT r k h)
mutual
theorem Is.butT {K : PySem.W.Frag} {H0 H H' : Hp} {p : Addr} {u : HO} (k : ButT p H H') (hp : H p = some u) (nt : NT u) (n0 : H0 p ≠ none) : ∀ {d : Lit} {v : V}, Is K H0 H v d → Is K H0 H' v d
  | .non, _, .non => .non
  | .bl b, _, .bl _ => .bl b
  | .int i, _, .int _ => .int i
  | .str z, _, .str _ => .str z
  | .lst ds, _, .lst (a := a) n q r => .lst n (k.sqlN (fun e => n0 (by rw [← e]; exact n)) q) (IsAll.butT k hp nt n0 r)
  | .tup ds, _, .tup q r => .tup (k.sqtN hp nt q) (IsAll.butT k hp nt n0 r)
theorem IsAll.butT {K : PySem.W.Frag} {H0 H H' : Hp} {p : Addr} {u : HO} (k : ButT p H H') (hp : H p = some u) (nt : NT u) (n0 : H0 p ≠ none) : ∀ {ds : List Lit} {vs : List V}, IsAll K H0 H vs ds → IsAll K H0 H' vs ds
  | [], _, .nil => .nil
  | _ :: _, _, .cons a r => .cons (Is.butT k hp nt n0 a) (IsAll.butT k hp nt n0 r)
end
theorem Pen.ext {H H' : Hp} {p c : Addr} {n : Nat} (h : Pen H p c n) (s : ExtN H H') : Pen H' p c n := by
  obtain ⟨ns, i, g, h1, h2, h3, h4, h5⟩ := h.ex
  exact ⟨ns, i, g, s _ _ h1 (fun _ z => nomatch z), s _ _ h2 (fun _ z => nomatch z), h3, h4, h5⟩
theorem Tabs.but {T : List (Addr × Str)} {H H' : Hp} {p : Addr} {xs : List V} (t : Tabs T H) (k : But p H H') (hp : H p = some (.lst xs)) : Tabs T H' := fun q hq => by
  obtain ⟨ps, h1, h2, h3⟩ := t q hq
  refine ⟨ps, k _ _ (ne_of h1 hp (fun z => nomatch z)) h1, h2, fun pos cv hc => ?_⟩
  obtain ⟨c, e1, e2⟩ := h3 pos cv hc
  refine ⟨c, e1, k _ _ (ne_of e2 hp (fun z => ?_)) e2⟩
  unfold CodeO at z
  cases z
theorem Tabs.same {T : List (Addr × Str)} {H H' : Hp} (t : Tabs T H) (s : Same H H') : Tabs T H' := t.ext s
/-- a promise of a def whose code object is known -/
theorem g_ofC {P : Program} {w : World} {K : PySem.W.Frag} {mg : Str → Option Value} {base : Heap} {CX : CXT} {k : Nat} {f : Addr} {fd : FuncData} {x qual : Str} {params : Arguments} {body : List Stmt} {scope : Scope} {dvs : List V} {kws : List (Str × V)} {N ps : List Str} {sp : Sp} {cd : Value}
    (F : FunD K x qual params body scope dvs kws f fd) (hcode : fd.code = cd) (S : FnScope N ps scope) (ar : ∀ vs H Q E, sp vs H Q E → vs.length = ps.length)
    (hb : ∀ (A : Around) (out : List Env) (s : Shared) (H : Hp) (vs : List V) (Q : VK) (E : XK), A.guards = some [] → Room k (A.deeper (envOfC qual scope s.heap.objs.size f cd)) → sp vs H Q E →
      ∃ t, PSs (cxOf CX P w K mg base N qual scope f cd A out s H E) body t ∧ t { nx := fun _ H' => Q .non H', rt := Q } (start N vs) H) : GOk P w K mg base CX (k + 1) f fd ps sp := by
  refine g_ofE F S ar fun cdv A out s H vs Q E hc hg hr h => ?_
  rw [hcode] at hc
  subst hc
  exact hb A out s H vs Q E hg hr h
end LC
namespace LC
open PySem PySem.Spec PyProof.Rows L2 TL ClX LamX
def NoTerm (K : PySem.W.Frag) (p : Addr) (H : Hp) (vs : List V) : Prop := ∀ v ∈ vs, ∀ H', ButT p H H' → ArgT K H' v false
theorem NoTerm.same {K : PySem.W.Frag} {p : Addr} {H H' : Hp} {vs : List V} (h : NoTerm K p H vs) (s : Same H H') : NoTerm K p H' vs := fun v hv H2 k => h v hv H2 ((ButT.of s).trans k)
theorem NoTerm.append {K : PySem.W.Frag} {p : Addr} {H : Hp} {vs ws : List V} (h : NoTerm K p H vs) (h2 : NoTerm K p H ws) : NoTerm K p H (vs ++ ws) := fun v hv => (List.mem_append.mp hv).elim (h v) (h2 v)
theorem NoTerm.cons {K : PySem.W.Frag} {p : Addr} {H : Hp} {v : V} {vs : List V} (h : ∀ H', ButT p H H' → ArgT K H' v false) (h2 : NoTerm K p H vs) : NoTerm K p H (v :: vs) := fun u hu => (List.mem_cons.mp hu).elim (fun e => by rw [e]; exact h) (h2 u)
theorem NoTerm.nil {K : PySem.W.Frag} {p : Addr} {H : Hp} : NoTerm K p H [] := fun _ h => nomatch h
/-- where the pen stands -/
structure PenAt (H0 H : Hp) (p : Addr) : Prop where
  h : ∃ xs : List V, H p = some (.lst xs)
  n : H0 p ≠ none
theorem PenAt.same {H0 H H' : Hp} {p : Addr} (a : PenAt H0 H p) (s : Same H H') : PenAt H0 H' p := ⟨by obtain ⟨xs, e⟩ := a.h; exact ⟨xs, s _ _ e⟩, a.n⟩
theorem Is.noT {K : PySem.W.Frag} {H0 H : Hp} {p : Addr} {v : V} {d : Lit} (h : Is K H0 H v d) (a : PenAt H0 H p) (f : d.few = true) (n : d.term = false) : ∀ H', ButT p H H' → ArgT K H' v false := fun H' k => by
  obtain ⟨xs, e⟩ := a.h
  have z := (Is.butT k e trivial a.n h).arg f
  rw [n] at z
  exact z
theorem IsAll.noTerm {K : PySem.W.Frag} {H0 H : Hp} {p : Addr} {ds : List Lit} {vs : List V} (h : IsAll K H0 H vs ds) (a : PenAt H0 H p) (f : Lit.fews ds = true) (n : ds.all (fun d => !d.term) = true) : NoTerm K p H vs := fun v hv H' k => by
  obtain ⟨xs, e⟩ := a.h
  exact (IsAll.butT k e trivial a.n h).none f n v hv
section
variable {P : Program} {w : World} {K : PySem.W.Frag} {mg : Str → Option Value} {base : Heap}
def spOddTerm (K : PySem.W.Frag) : Sp := fun vs H Q _ => ∃ (p c : Addr) (n : Nat), vs = [.ref p] ∧ Pen H p c n ∧ n ≤ 90000 ∧ ∀ (v : V) (H' : Hp), (∀ H2, ButT p H' H2 → ArgT K H2 v false) → But p H H' → Pen H' p c (n + 1) → Q v H'
abbrev s_odd_term : Stmt := topS 50
theorem sc_odd_term : FnScope ["pen", "some"] ["pen"] (defScope s_odd_term) := ⟨rfl, rfl, rfl, by decide +kernel, rfl, by decide +kernel, by decide +kernel⟩
theorem ok_odd_term {f : Addr} {fd : FuncData} (T : Txt mg) (F : FnP K "_law_odd_term" s_odd_term f fd) (c__law_pick : Cal P w K mg base CX0 2 "_law_pick" ["pen", "some"] spPick) : FnOk P w K mg base CX0 3 f fd ["pen"] (spOddTerm K) := by
  have sc := sc_odd_term
  refine F.ok sc (fun vs H Q E h => ?_) (fun cdv A outer s H vs Q E hr h => ?_)
  · obtain ⟨p, c, n, rfl, _⟩ := h
    rfl
  · obtain ⟨p, c, n, rfl, hP, hn, q⟩ := h
    refine ⟨_, PSs.nox (Evl.pss_cut (ps_set (i := 1) sc.nd rfl (.inl rfl) (pe_lst (pa_cons pe_non (pa_cons pe_int (pa_cons pe_str (pa_cons pe_str (pa_cons (pe_tup pa_nil) (pa_cons (pe_tup (pa_cons pe_int pa_nil)) (pa_cons (pe_tup (pa_cons pe_int (pa_cons (pe_tup pa_nil) (pa_cons pe_int pa_nil)))) (pa_cons (pe_tup (pa_cons pe_bl (pa_cons (pe_tup pa_nil) pa_nil))) (pa_cons (pe_tup (pa_cons pe_bl (pa_cons (pe_tup (pa_cons pe_str pa_nil)) pa_nil))) (pa_cons (pe_tup (pa_cons pe_str (pa_cons (pe_tup pa_nil) pa_nil))) (pa_cons (pe_tup (pa_cons pe_non (pa_cons (pe_tup pa_nil) pa_nil))) (pa_cons (pe_tup (pa_cons pe_int (pa_cons (pe_tup pa_nil) pa_nil))) pa_nil))))))))))))))
(Evl.pss_cut (ps_set (i := 1) sc.nd rfl (.inl rfl) (pe_op op_cat (pv 1) (pe_lst (pa_cons (pe_tup (pa_cons (pe_un un_neg pe_int) (pa_cons (pe_tup pa_nil) pa_nil))) (pa_cons (pe_tup (pa_cons (pe_op op_pow pe_int pe_int) (pa_cons (pe_tup (pa_cons pe_str pa_nil)) pa_nil))) (pa_cons (pe_tup (pa_cons pe_int (pa_cons pe_str pa_nil))) (pa_cons (pe_tup (pa_cons pe_int (pa_cons pe_non pa_nil))) (pa_cons (pe_tup (pa_cons pe_int (pa_cons (pe_disp (pps_cons pe_str pe_int pps_nil) rfl rfl (List.cons_ne_nil _ _) (Nat.le_of_ble_eq_true rfl)) pa_nil))) (pa_cons (pe_tup (pa_cons pe_int (pa_cons (pe_tup (pa_cons pe_str (pa_cons pe_str (pa_cons pe_str (pa_cons pe_str pa_nil))))) pa_nil))) pa_nil)))))))))
(Evl.pss_cut (ps_set (i := 1) sc.nd rfl (.inl rfl) (pe_op op_cat (pv 1) (pe_lst (pa_cons (pe_tup (pa_cons pe_int (pa_cons (pe_tup (pa_cons pe_str pa_nil)) pa_nil))) (pa_cons (pe_tup (pa_cons pe_int (pa_cons (pe_tup (pa_cons pe_str pa_nil)) pa_nil))) (pa_cons (pe_tup (pa_cons pe_int (pa_cons (pe_tup (pa_cons pe_str pa_nil)) pa_nil))) (pa_cons (pe_tup (pa_cons pe_int (pa_cons (pe_tup (pa_cons pe_str pa_nil)) pa_nil))) (pa_cons (pe_tup (pa_cons pe_int (pa_cons (pe_tup (pa_cons pe_str pa_nil)) pa_nil))) (pa_cons (pe_tup (pa_cons pe_int (pa_cons (pe_tup (pa_cons pe_non pa_nil)) pa_nil))) (pa_cons (pe_tup (pa_cons pe_int (pa_cons (pe_tup (pa_cons pe_int pa_nil)) pa_nil))) (pa_cons pe_dnewK pa_nil)))))))))))
(pss_one (ps_ret (pe_cal c__law_pick hr (by rfl) pass0 (pa_cons (pv 0) (pa_cons (pe_op op_cat (pv 1) (pe_lst (pa_cons (pe_lst (pa_cons pe_int (pa_cons (pe_lst (pa_cons pe_str (pa_cons pe_str pa_nil))) pa_nil))) (pa_cons (pe_tup (pa_cons (pe_tup pa_nil) (pa_cons pe_int pa_nil))) (pa_cons (pe_lst (pa_cons (pe_lst (pa_cons pe_int pa_nil)) (pa_cons (pe_lst pa_nil) pa_nil))) (pa_cons (pe_tup (pa_cons pe_int (pa_cons (pe_tup (pa_cons (pe_tup (pa_cons pe_str pa_nil)) pa_nil)) pa_nil))) (pa_cons pe_str (pa_cons (pe_lst (pa_cons pe_int (pa_cons (pe_lst (pa_cons pe_bl pa_nil)) pa_nil))) pa_nil)))))))) pa_nil)))))))), ?_⟩
    have pa : PenAt H H p := ⟨by obtain ⟨xs, e⟩ := hP.at_; exact ⟨xs, e⟩, fun z => by obtain ⟨xs, e⟩ := hP.at_; rw [e] at z; cases z⟩
    refine ⟨fun σ' H1 => Same H H1 ∧ ∃ (l : Addr) (vs : List V), H1 l = some (.lst vs) ∧ l ≠ p ∧ vs.length = 12 ∧ NoTerm K p H1 vs ∧ σ' = [some (.ref p), some (.ref l)], ?_, ?_⟩
    · refine lit_lst (K := K) (H0 := H) [.non, .int 5, .str "a", .str "", .tup [], .tup [.int 1], .tup [.int 1, .tup [], .int 0], .tup [.bl true, .tup []], .tup [.bl false, .tup [.str "a"]], .tup [.str "1", .tup []], .tup [.non, .tup []], .tup [.int 1000000, .tup []]] (by decide +kernel) (by decide) (Same.refl H) fun l vs H1 nl s1 e1 h1 => ?_
      exact ⟨s1, l, vs, e1, hP.newP nl, h1.len, h1.noTerm (pa.same s1) (by decide +kernel) (by decide +kernel), rfl⟩
    rintro σ' H1 ⟨s1, l, vs, e1, lp, l12, nt, rfl⟩
    refine ⟨fun σ' H2 => Same H H2 ∧ ∃ (l : Addr) (vs : List V), H2 l = some (.lst vs) ∧ l ≠ p ∧ vs.length = 18 ∧ NoTerm K p H2 vs ∧ σ' = [some (.ref p), some (.ref l)], ?_, ?_⟩
    · refine ⟨.ref l, rfl, 1000000, rfl, szn 0, fun a1 n1 => ?_⟩
      generalize hHa : upd H1 a1 _ = Ha
      obtain ⟨sa, ea⟩ := alloc_eq n1 hHa
      refine ⟨szn 2, fun a2 n2 => ?_⟩
      generalize hHb : upd Ha a2 _ = Hb
      obtain ⟨sb, eb⟩ := alloc_eq n2 hHb
      refine ⟨10, 59, rfl, rfl, ⟨by decide, by decide, by decide⟩, szn 1, fun a3 n3 => ?_⟩
      generalize hHc : upd Hb a3 _ = Hc
      obtain ⟨scc, ecc⟩ := alloc_eq n3 hHc
      refine ⟨szn 2, fun a4 n4 => ?_⟩
      generalize hHd : upd Hc a4 _ = Hd
      obtain ⟨sd, ed⟩ := alloc_eq n4 hHd
      have t1d : Same H1 Hd := ((sa.trans sb).trans scc).trans sd
      refine lit_t (K := K) (H0 := H) (.tup [.int 1, .str "a"]) (by decide +kernel) (s1.trans t1d) fun v5 H5 s5 i5 => ?_
      refine lit_t (K := K) (H0 := H) (.tup [.int 1, .non]) (by decide +kernel) ((s1.trans t1d).trans s5) fun v6 H6 s6 i6 => ?_
      refine fun d nd => ⟨upd_same, [(.inr "a", .int 1)], rfl, by decide, ?_⟩
      generalize hH7 : upd (upd H6 d _) d _ = H7
      have s7 : Same H6 H7 := fun b o e => by
        rw [← hH7, upd_ne (ne_of_none e nd), upd_ne (ne_of_none e nd)]
        exact e
      have e7 : ∃ kvs, H7 d = some (.dK kvs) := ⟨_, by rw [← hH7]; exact upd_same⟩
      refine ⟨szn 2, fun a7 n7 => ?_⟩
      generalize hH8 : upd H7 a7 _ = H8
      obtain ⟨s8, e8⟩ := alloc_eq n7 hH8
      have s58 := ((s5.trans s6).trans s7).trans s8
      have s18 : Same H H8 := (s1.trans t1d).trans s58
      refine lit_t (K := K) (H0 := H) (.tup [.int 1, .tup [.str "a", .str "b", .str "a", .str "b"]]) (by decide +kernel) s18 fun v9 H9 s9 i9 => ?_
      refine ⟨szn 6, fun lb nlb => ?_⟩
      generalize hH10 : upd H9 lb _ = H10
      obtain ⟨s10, e10⟩ := alloc_eq nlb hH10
      have t810 := s9.trans s10
      have td10 : Same Hd H10 := s58.trans t810
      refine ⟨l, lb, vs, _, rfl, rfl, td10 _ _ (t1d _ _ e1), e10, sz_le (by rw [l12]; show 12 + 6 ≤ 100000; decide), fun r nr => ?_⟩
      generalize hH11 : upd H10 r _ = H11
      obtain ⟨s11, e11⟩ := alloc_eq nr hH11
      have s1_11 : Same H H11 := (s18.trans t810).trans s11
      have td11 := td10.trans s11
      have t811 := t810.trans s11
      have pa11 := pa.same s1_11
      obtain ⟨kvs, e7⟩ := e7
      have w1 : Is K H H11 (.ref a2) (.tup [.int (-1000000), .tup []]) := .tup (.of (td11 _ _ (sd _ _ (scc _ _ eb)))) (.cons (.int _) (.cons (.tup (.of (td11 _ _ (sd _ _ (scc _ _ (sb _ _ ea))))) .nil) .nil))
      have w2 : Is K H H11 (.ref a4) (.tup [.int (10 ^ (59 : Int).toNat), .tup [.str "a"]]) := .tup (.of (td11 _ _ ed)) (.cons (.int _) (.cons (.tup (.of (td11 _ _ (sd _ _ ecc))) (.cons (.str _) .nil)) .nil))
      have w5 : ∀ H', ButT p H11 H' → ArgT K H' (.ref a7) false := fun H' k => by
        have f7 := k _ _ (fun z => by obtain ⟨xs, e⟩ := pa11.h; rw [← z, t811 _ _ e8] at e; cases e) (t811 _ _ e8) (fun _ z => nomatch z)
        have fd := k _ _ (fun z => by obtain ⟨xs, e⟩ := pa11.h; rw [← z, t811 _ _ (s8 _ _ e7)] at e; cases e) (t811 _ _ (s8 _ _ e7)) (fun _ z => nomatch z)
        exact .parts (n := "int") (m := "dict") ⟨a7, rfl, .inr (.of f7)⟩ ⟨(by decide : "int" ∈ kinds), .base (.int 1), fun z e => nomatch e⟩ (by decide) ⟨(by decide : "dict" ∈ kinds), .base (.dK fd), fun z e => nomatch e⟩ (by decide)
      refine ⟨s1_11, r, _, e11, ?_, by rw [List.length_append, l12]; rfl, ?_, rfl⟩
      · obtain ⟨xs, e⟩ := (pa.same (s18.trans t810)).h
        exact new_ne e nr
      · refine (nt.same (t1d.trans td11)).append ?_
        exact .cons (w1.noT pa11 (by decide +kernel) (by decide +kernel)) (.cons (w2.noT pa11 (by decide +kernel) (by decide +kernel)) (.cons ((i5.same (((s6.trans s7).trans s8).trans t811)).noT pa11 (by decide +kernel) (by decide +kernel)) (.cons ((i6.same ((s7.trans s8).trans t811)).noT pa11 (by decide +kernel) (by decide +kernel)) (.cons w5 (.cons ((i9.same (s10.trans s11)).noT pa11 (by decide +kernel) (by decide +kernel)) .nil)))))
    rintro σ' H2 ⟨s2, l2, vs2, e2, lp2, l18, nt2, rfl⟩
    refine ⟨fun σ' H3 => Same H H3 ∧ ∃ (l : Addr) (vs : List V), H3 l = some (.lst vs) ∧ l ≠ p ∧ vs.length = 26 ∧ NoTerm K p H3 vs ∧ σ' = [some (.ref p), some (.ref l)], ?_, ?_⟩
    · refine ⟨.ref l2, rfl, ?_⟩
      refine lit_t (K := K) (H0 := H) (.tup [.int 1, .tup [.str "A"]]) (by decide +kernel) s2 fun v1 H3 t1 i1 => ?_
      refine lit_t (K := K) (H0 := H) (.tup [.int 1, .tup [.str "abcdefg"]]) (by decide +kernel) (s2.trans t1) fun v2 H4 t2 i2 => ?_
      refine lit_t (K := K) (H0 := H) (.tup [.int 1, .tup [.str ""]]) (by decide +kernel) ((s2.trans t1).trans t2) fun v3 H5 t3 i3 => ?_
      refine lit_t (K := K) (H0 := H) (.tup [.int 1, .tup [.str "a1"]]) (by decide +kernel) (((s2.trans t1).trans t2).trans t3) fun v4 H6 t4 i4 => ?_
      refine lit_t (K := K) (H0 := H) (.tup [.int 1, .tup [.str "a\n"]]) (by decide +kernel) ((((s2.trans t1).trans t2).trans t3).trans t4) fun v5 H7 t5 i5 => ?_
      refine lit_t (K := K) (H0 := H) (.tup [.int 1, .tup [.non]]) (by decide +kernel) (((((s2.trans t1).trans t2).trans t3).trans t4).trans t5) fun v6 H8 t6 i6 => ?_
      refine lit_t (K := K) (H0 := H) (.tup [.int 1, .tup [.int 1]]) (by decide +kernel) ((((((s2.trans t1).trans t2).trans t3).trans t4).trans t5).trans t6) fun v7 H9 t7 i7 => ?_
      refine fun d nd => ?_
      generalize hHd : upd H9 d _ = Hd
      obtain ⟨sd, ed⟩ := alloc_eq nd hHd
      refine ⟨szn 8, fun lb nlb => ?_⟩
      generalize hHe : upd Hd lb _ = He
      obtain ⟨se, ee⟩ := alloc_eq nlb hHe
      have u8 := sd.trans se
      have u7 := t7.trans u8
      have u6 := t6.trans u7
      have u5 := t5.trans u6
      have u4 := t4.trans u5
      have u3 := t3.trans u4
      have u2 := t2.trans u3
      have u1 := t1.trans u2
      refine ⟨l2, lb, vs2, _, rfl, rfl, u1 _ _ e2, ee, sz_le (by rw [l18]; show 18 + 8 ≤ 100000; decide), fun r nr => ?_⟩
      generalize hHf : upd He r _ = Hf
      obtain ⟨sf, ef⟩ := alloc_eq nr hHf
      have paf := pa.same ((s2.trans u1).trans sf)
      have wd : ∀ H', ButT p Hf H' → ArgT K H' (.ref d) false := fun H' k => by
        have edf := sf _ _ (se _ _ ed)
        have fd := k _ _ (fun z => by obtain ⟨xs, e⟩ := paf.h; rw [← z, edf] at e; cases e) edf (fun _ z => nomatch z)
        exact .other (n := "dict") ⟨(by decide : "dict" ∈ kinds), .base (.dK fd), fun z e => nomatch e⟩ (by decide)
      refine ⟨(s2.trans u1).trans sf, r, _, ef, ?_, by rw [List.length_append, l18]; rfl, ?_, rfl⟩
      · obtain ⟨xs, e⟩ := (pa.same (s2.trans u1)).h
        exact new_ne e nr
      · refine (nt2.same (u1.trans sf)).append ?_
        exact .cons ((i1.same (u2.trans sf)).noT paf (by decide +kernel) (by decide +kernel)) (.cons ((i2.same (u3.trans sf)).noT paf (by decide +kernel) (by decide +kernel)) (.cons ((i3.same (u4.trans sf)).noT paf (by decide +kernel) (by decide +kernel)) (.cons ((i4.same (u5.trans sf)).noT paf (by decide +kernel) (by decide +kernel)) (.cons ((i5.same (u6.trans sf)).noT paf (by decide +kernel) (by decide +kernel)) (.cons ((i6.same (u7.trans sf)).noT paf (by decide +kernel) (by decide +kernel)) (.cons ((i7.same (u8.trans sf)).noT paf (by decide +kernel) (by decide +kernel)) (.cons wd .nil)))))))
    rintro σ' H3 ⟨s3, l3, vs3, e3, lp3, l26, nt3, rfl⟩
    refine ⟨.ref p, rfl, .ref l3, rfl, ?_⟩
    refine lit_t (K := K) (H0 := H) (.lst [.int 1, .lst [.str "a", .str " "]]) (by decide +kernel) s3 fun v1 H4 t1 i1 => ?_
    refine lit_t (K := K) (H0 := H) (.tup [.tup [], .int 1]) (by decide +kernel) (s3.trans t1) fun v2 H5 t2 i2 => ?_
    refine lit_t (K := K) (H0 := H) (.lst [.lst [.int 1], .lst []]) (by decide +kernel) ((s3.trans t1).trans t2) fun v3 H6 t3 i3 => ?_
    refine lit_t (K := K) (H0 := H) (.tup [.int 1, .tup [.tup [.str "a"]]]) (by decide +kernel) (((s3.trans t1).trans t2).trans t3) fun v4 H7 t4 i4 => ?_
    refine lit_t (K := K) (H0 := H) (.str "1a") (by decide +kernel) ((((s3.trans t1).trans t2).trans t3).trans t4) fun v5 H8 t5 i5 => ?_
    refine lit_t (K := K) (H0 := H) (.lst [.int 1, .lst [.bl true]]) (by decide +kernel) (((((s3.trans t1).trans t2).trans t3).trans t4).trans t5) fun v6 H9 t6 i6 => ?_
    refine ⟨szn 6, fun lb nlb => ?_⟩
    generalize hHe : upd H9 lb _ = He
    obtain ⟨se, ee⟩ := alloc_eq nlb hHe
    have u6 := t6.trans se
    have u5 := t5.trans u6
    have u4 := t4.trans u5
    have u3 := t3.trans u4
    have u2 := t2.trans u3
    have u1 := t1.trans u2
    refine ⟨l3, lb, vs3, _, rfl, rfl, u1 _ _ e3, ee, sz_le (by rw [l26]; show 26 + 6 ≤ 100000; decide), fun r nr => ?_⟩
    generalize hHf : upd He r _ = Hf
    obtain ⟨sf, ef⟩ := alloc_eq nr hHf
    have paf := pa.same ((s3.trans u1).trans sf)
    have all := (s3.trans u1).trans sf
    have nt5 : NoTerm K p Hf (vs3 ++ [v1, v2, v3, v4, v5, v6]) := by
      refine (nt3.same (u1.trans sf)).append ?_
      exact .cons ((i1.same (u2.trans sf)).noT paf (by decide +kernel) (by decide +kernel)) (.cons ((i2.same (u3.trans sf)).noT paf (by decide +kernel) (by decide +kernel)) (.cons ((i3.same (u4.trans sf)).noT paf (by decide +kernel) (by decide +kernel)) (.cons ((i4.same (u5.trans sf)).noT paf (by decide +kernel) (by decide +kernel)) (.cons ((i5.same (u6.trans sf)).noT paf (by decide +kernel) (by decide +kernel)) (.cons ((i6.same (se.trans sf)).noT paf (by decide +kernel) (by decide +kernel)) .nil)))))
    have rp : r ≠ p := (hP.same (s3.trans u1)).newP nr
    exact ⟨p, c, n, r, _, rfl, hP.same all, by omega, ef, rp, by rw [List.length_append, l26]; omega, by rw [List.length_append, l26]; show 26 + 6 ≤ 1000; decide, fun v H6 hv k6 pen6 => q v H6 (fun H2 k => nt5 v hv H2 (k6.t.trans k)) ((But.same all).trans k6) pen6⟩
end
end LC
namespace LC
open PySem PySem.Spec PyProof.Rows L2 TL LamX
/-- _law_heard, as it is called -/
structure HeardD (P : Program) (w : World) (K : PySem.W.Frag) (mg : Str → Option Value) (CS CM : Addr) : Prop where
  ex : ∃ (CL CN CB CT CW C2 g : Addr) (fd : FuncData), HeardF K mg CL CS CM CN CB CT CW C2 ∧ FnP K "_law_heard" s_heard g fd ∧ mg "_law_heard" = some (.ref g) ∧ Binds K fd ["ask"] []
/-- a def that makes lambdas: its code object, the table there -/
structure Mkr (K : PySem.W.Frag) (mg : Str → Option Value) (base : Heap) (T : List (Addr × Str)) (c P : Addr) (q : Str) : Prop where
  B : TabB base mg c P
  m : (P, q) ∈ T
  u : ∀ p ∈ T, p.1 = P → p.2 = q
theorem pe_heard {X : Cx} {Tb : List (Addr × Str)} {c Pt CS CM : Addr} {k : Nat} {params : Arguments} {body : Expr} {scope : Scope} {t : XK → TE} {p lpos pos : Pos} (T : Txt X.mg) (D : HeardD X.prog X.w X.K X.mg CS CM) (Mk : Mkr X.K X.mg X.base Tb c Pt (X.env.qual ++ "<lambda>")) (hg : Gl X "_law_heard")
    (hcode : X.env.code = .ref c) (hr : Room (k + 2) X.A) (L : LamS X.env.scope scope) (hdef : defaultsOf params X.env = ([], []))
    (hbind : ∀ (q : Str) (cl : List (Str × Addr)) (pm cv ctv : Value), bindArgs (PySem.W.kla_fn "<lambda>" q params body scope cl pm cv ctv) ⟨[], []⟩ = pure [])
    (hbody : ∀ (A : Around) (outer : List Env) (s : Shared) (H : Hp) (E : XK) (f cc : Addr), Room k (A.deeper (lamEnv X scope s.heap.objs.size f cc)) → PE (lamCx X A outer s H E scope f cc) body (t E)) :
    PE X (.Call (.Name "_law_heard" p) [.Lambda params body scope lpos] [] pos) (tLam Tb (TTh CS CM) t) := by
  obtain ⟨CL, CN, CB, CT, CW, C2, g, fd, HF, F, hm, hb⟩ := D.ex
  have kp := F.kp
  obtain ⟨oc, od, dV, kV, doc, pm, an, cdv, ct, osl, rfl, lk, hcd, hD, hK⟩ := F.ex
  exact pe_lamcallAt hg hm kp lk hcd hb sc_heard rfl (.inl rfl) (heard_gives T HF) Mk.B hcode Mk.m Mk.u hr L hdef hbind hbody
end LC
/-! LcTwo: what is heard of sums that are refused, gathered in two lists. -/
namespace LC
open PySem PySem.Spec PyProof.Rows L2 TL ClX LamX
theorem sumOut_many {os : List (Option Term)} (h : 4 < os.length) : sumOut os = .error ("many", .int 4) := by
  unfold sumOut
  rw [if_neg (fun e => by rw [e] at h; exact absurd h (by decide)), if_pos h]
theorem sumOut_at {a : List Term} {r : List (Option Term)} (h : a.length + 1 + r.length ≤ 4) : sumOut (a.map some ++ none :: r) = .error ("sum", .int (a.length : Nat)) := by
  unfold sumOut
  rw [if_neg (fun e => by simp at e), if_neg (by rw [List.length_append, List.length_map, List.length_cons]; omega), first_bad (i := a.length) (by rw [List.getElem?_append_right (by rw [List.length_map]; exact Nat.le_refl _), List.length_map, Nat.sub_self]; rfl) fun o ho => ?_]
  rw [List.take_append_of_le_length (by rw [List.length_map]; exact Nat.le_refl _), List.take_of_length_le (by rw [List.length_map]; exact Nat.le_refl _)] at ho
  obtain ⟨t, _, rfl⟩ := List.mem_map.mp ho
  rfl
theorem sumOut_wide {ts : List Term} (h1 : 1 ≤ ts.length) (h4 : ts.length ≤ 4) (h : 3 < (unlike ts).length) : sumOut (ts.map some) = .error ("many", .int 3) := by
  unfold sumOut
  rw [if_neg (fun w => by rw [List.map_eq_nil_iff.mp w] at h1; exact absurd h1 (by decide)), if_neg (by rw [List.length_map]; omega), noNone]
  show (if 3 < (unlike ((ts.map some).filterMap id)).length then _ else _) = _
  rw [somes, if_pos h]
theorem heard_sum {Tb : List (Addr × Str)} {CS CM C : Addr} {K : PySem.W.Frag} {σ : L2.St} {H : Hp} {Q : VK} {ta : TA} {os : List (Option Term)} {word : Str} {v : V} (hT : Tabs Tb H) (so : sumOut os = .error (word, v))
    (ha : ∀ (H0 : Hp) (R : List V → Hp → Prop), ExtN H H0 → (∀ (b : Addr) (us : List V) (H2 : Hp), Same H0 H2 → SqL K H2 b us → Paired (ArgO K H2) us os → us.length ≤ 5 → R [.ref b] H2) → ta σ H0 R)
    (q : ∀ (t : Addr) (H2 : Hp), ExtN H H2 → Tabs Tb H2 → H2 t = some (.tup [.str word, v]) → Q (.ref t) H2) : tLam Tb (TTh CS CM) (fun E => tCal (spSumG K C CS CM) E ta) σ H Q := by
  refine ⟨hT, fun H1 e1 T1 H0 E' Q' s0 hE hQ => ha H0 _ (e1.trans (ExtN.of s0)) fun b us H2 s2 hb hp l5 => ⟨b, us, os, rfl, hb, hp, l5, ?_⟩⟩
  rw [so]
  exact fun cls d H3 s3 bad => hE cls d H3 ⟨word, v, bad, fun t H4 s4 e4 => q t H4 (e1.trans (ExtN.of (((s0.trans s2).trans s3).trans s4))) (Tabs.ext T1 (((s0.trans s2).trans s3).trans s4)) e4⟩
theorem heard_none {Tb : List (Addr × Str)} {CS CM C : Addr} {K : PySem.W.Frag} {σ : L2.St} {H : Hp} {Q : VK} (hT : Tabs Tb H)
    (q : ∀ (t : Addr) (H2 : Hp), ExtN H H2 → Tabs Tb H2 → H2 t = some (.tup [.str "sum", .non]) → Q (.ref t) H2) : tLam Tb (TTh CS CM) (fun E => StX.tMakeR C (fun vs H Q E => ∃ ws rest, vs = ws ++ rest ∧ ws.length = 1 ∧ rest.length ≤ sizeLine ∧ ∀ p, H p = none → spInitG K C CS CM (ws ++ [V.ref p]) (upd H p (.tup rest)) Q E) E tNil) σ H Q := by
  refine ⟨hT, fun H1 e1 T1 H0 E' Q' s0 hE hQ => mk_sumG (us := []) (os := []) .nil (by decide) ?_⟩
  have so : sumOut [] = .error ("sum", .non) := rfl
  rw [so]
  exact fun cls d H3 s3 bad => hE cls d H3 ⟨"sum", .non, bad, fun t H4 s4 e4 => q t H4 (e1.trans (ExtN.of ((s0.trans s3).trans s4))) (Tabs.ext T1 ((s0.trans s3).trans s4)) e4⟩
/-- a word, and a place if there is one -/
abbrev WP := Str × Option Int
def WP.v (d : WP) : V := match d.2 with
  | none => .non
  | some i => .int i
def WP.d (d : WP) : PyData := .tuple [.str d.1, match d.2 with
  | none => .none
  | some i => .int i]
def Two (K : PySem.W.Frag) (H : Hp) (v : V) (d : WP) : Prop := ∃ a, v = .ref a ∧ SqT K H a [.str d.1, d.v]
theorem Two.same {K : PySem.W.Frag} {H H' : Hp} {v : V} {d : WP} (h : Two K H v d) (s : Same H H') : Two K H' v d := by
  obtain ⟨a, e, q⟩ := h
  exact ⟨a, e, sqt_same s q⟩
theorem Two.butT {K : PySem.W.Frag} {p : Addr} {H H' : Hp} {v : V} {d : WP} {xs : List V} (h : Two K H v d) (k : ButT p H H') (hp : H p = some (.lst xs)) : Two K H' v d := by
  obtain ⟨a, e, q⟩ := h
  exact ⟨a, e, k.sqtN hp trivial q⟩
theorem twos_butT {K : PySem.W.Frag} {p : Addr} {H H' : Hp} {xs : List V} (k : ButT p H H') (hp : H p = some (.lst xs)) : ∀ {vs : List V} {ds : List WP}, Paired (Two K H) vs ds → Paired (Two K H') vs ds
  | _, _, .nil => .nil
  | _, _, .cons a r => .cons (a.butT k hp) (twos_butT k hp r)
theorem Two.dp {K : PySem.W.Frag} {H : Hp} {v : V} {d : WP} (h : Two K H v d) : Dp K H v d.d := by
  obtain ⟨a, rfl, q⟩ := h
  obtain ⟨w, o⟩ := d
  cases o with
  | none => exact .tup q (.cons (.str _) (.cons .non .nil))
  | some i => exact .tup q (.cons (.str _) (.cons (.int _) .nil))
theorem twos_dp {K : PySem.W.Frag} {H : Hp} : ∀ {vs : List V} {ds : List WP}, Paired (Two K H) vs ds → DpAll K H vs (ds.map WP.d)
  | _, _, .nil => .nil
  | _, _, .cons a r => .cons a.dp (twos_dp r)
def Lst2 (K : PySem.W.Frag) (H : Hp) (a : Addr) (ds : List WP) : Prop := ∃ vs, H a = some (.lst vs) ∧ Paired (Two K H) vs ds
theorem cut_take {xs : List V} (k : Nat) : cutV xs none (some (k : Int)) = xs.take k := by
  by_cases h : k ≤ xs.length
  · exact cut_to h
  · unfold cutV
    rw [HT.sIx_none, List.drop_zero, HT.sIx_nat, Nat.sub_zero, List.take_of_length_le (show xs.length ≤ k by omega), List.take_of_length_le (show xs.length ≤ min k xs.length by omega)]
theorem none_back {H H' : Hp} {a : Addr} (s : Same H H') (n : H' a = none) : H a = none := by
  cases e : H a with
  | none => rfl
  | some o => rw [s _ _ e] at n; cases n
/-- nothing but perhaps a table -/
def Free (H : Hp) (a : Addr) : Prop := ∀ o, H a = some o → ∃ ps, o = .tbl ps
theorem Free.of {H : Hp} {a : Addr} (n : H a = none) : Free H a := fun o e => by rw [n] at e; cases e
theorem Free.back {p : Addr} {H H' : Hp} {a : Addr} (k : ButT p H H') (n : Free H' a) (ap : a ≠ p) : Free H a := fun o e => by
  by_cases t : ∃ ps, o = .tbl ps
  · exact t
  · exact n o (k _ _ ap e fun ps z => t ⟨ps, z⟩)
abbrev wpS (i : Int) : WP := (("sum" : Str), some i)
abbrev wpM (i : Int) : WP := (("many" : Str), some i)
abbrev wpN : WP := (("sum" : Str), none)
theorem wpS_shw {i : Int} (h : i.natAbs ≤ 10) : Shw (wpS i).d 1 300 := (Shw.tup (ShwL.cons (Shw.str (z := "sum") (by decide)) (ShwL.cons (Shw.int (Nat.lt_of_le_of_lt h (Nat.lt_of_lt_of_le (by decide : 10 < 2 ^ 4) (Nat.pow_le_pow_right (by decide) (by decide))))) ShwL.nil))).mono (by decide) (by decide)
theorem wpM_shw {i : Int} (h : i.natAbs ≤ 10) : Shw (wpM i).d 1 300 := (Shw.tup (ShwL.cons (Shw.str (z := "many") (by decide)) (ShwL.cons (Shw.int (Nat.lt_of_le_of_lt h (Nat.lt_of_lt_of_le (by decide : 10 < 2 ^ 4) (Nat.pow_le_pow_right (by decide) (by decide))))) ShwL.nil))).mono (by decide) (by decide)
theorem wpN_shw : Shw wpN.d 1 300 := (Shw.tup (ShwL.cons (Shw.str (z := "sum") (by decide)) (ShwL.cons Shw.non ShwL.nil))).mono (by decide) (by decide)
structure Both (K : PySem.W.Frag) (Tb : List (Addr × Str)) (p c tl dl : Addr) (m : Nat) (H0 H : Hp) (d1 d2 : List WP) : Prop where
  k : ButT p H0 H
  pen : Pen H p c m
  tabs : Tabs Tb H
  ta : Lst2 K H tl d1
  da : Lst2 K H dl d2
  n1 : tl ≠ dl
  n2 : tl ≠ p
  n3 : dl ≠ p
  n4 : tl ≠ c
  n5 : dl ≠ c
  n6 : Free H0 tl
  n7 : Free H0 dl
section
variable {K : PySem.W.Frag} {Tb : List (Addr × Str)} {p c tl dl : Addr} {m : Nat} {H0 H H' : Hp} {d1 d2 : List WP}
theorem Both.butT (B : Both K Tb p c tl dl m H0 H d1 d2) {m' : Nat} (k : ButT p H H') (pen : Pen H' p c m') (t : Tabs Tb H') : Both K Tb p c tl dl m' H0 H' d1 d2 := by
  obtain ⟨px, hp⟩ := B.pen.at_
  obtain ⟨vs, e, r⟩ := B.ta
  obtain ⟨ws, e2, r2⟩ := B.da
  exact ⟨B.k.trans k, pen, t, ⟨vs, k.lst B.n2 e, twos_butT k hp r⟩, ⟨ws, k.lst B.n3 e2, twos_butT k hp r2⟩, B.n1, B.n2, B.n3, B.n4, B.n5, B.n6, B.n7⟩
theorem Both.ext (B : Both K Tb p c tl dl m H0 H d1 d2) (e : ExtN H H') (t : Tabs Tb H') : Both K Tb p c tl dl m H0 H' d1 d2 := B.butT (ButT.ext e) (B.pen.ext e) t
theorem Both.same (B : Both K Tb p c tl dl m H0 H d1 d2) (s : Same H H') : Both K Tb p c tl dl m H0 H' d1 d2 := B.ext (ExtN.of s) (Tabs.ext B.tabs s)
theorem ButT.put {p q : Addr} {H0 H H' : Hp} (a : ButT p H0 H) (n : Free H0 q) (b : But q H H') : ButT p H0 H' := fun c o nc e t => b c o (fun z => by rw [z] at e; obtain ⟨ps, e2⟩ := n o e; exact t ps e2) (a c o nc e t)
theorem twos_put {q : Addr} {xs : List V} (k : But q H H') (hq : H q = some (.lst xs)) : ∀ {vs : List V} {ds : List WP}, Paired (Two K H) vs ds → Paired (Two K H') vs ds
  | _, _, .nil => .nil
  | _, _, .cons ⟨a, e, q⟩ r => .cons ⟨a, e, k.sqt hq q⟩ (twos_put k hq r)
theorem put_but {q : Addr} {o : HO} (e : upd H q o = H') : But q H H' ∧ H' q = some o := by
  rw [← e]
  exact ⟨.set, upd_same⟩
theorem Both.add1 (B : Both K Tb p c tl dl m H0 H d1 d2) {vs : List V} {v : V} {d : WP} (e : H tl = some (.lst vs)) (hv : Two K H v d) (hu : upd H tl (.lst (vs ++ [v])) = H') : Both K Tb p c tl dl m H0 H' (d1 ++ [d]) d2 := by
  obtain ⟨k, e'⟩ := put_but hu
  obtain ⟨xs, e1, r1⟩ := B.ta
  obtain ⟨ws, e2, r2⟩ := B.da
  rw [e] at e1
  cases e1
  exact ⟨B.k.put B.n6 k, B.pen.but k B.n2 B.n4, LC.Tabs.but B.tabs k e, ⟨_, e', Paired.append (twos_put k e r1) (twos_put k e (.cons hv .nil))⟩, ⟨ws, k _ _ B.n1.symm e2, twos_put k e r2⟩, B.n1, B.n2, B.n3, B.n4, B.n5, B.n6, B.n7⟩
theorem Both.add2 (B : Both K Tb p c tl dl m H0 H d1 d2) {vs : List V} {v : V} {d : WP} (e : H dl = some (.lst vs)) (hv : Two K H v d) (hu : upd H dl (.lst (vs ++ [v])) = H') : Both K Tb p c tl dl m H0 H' d1 (d2 ++ [d]) := by
  obtain ⟨k, e'⟩ := put_but hu
  obtain ⟨xs, e1, r1⟩ := B.ta
  obtain ⟨ws, e2, r2⟩ := B.da
  rw [e] at e2
  cases e2
  exact ⟨B.k.put B.n7 k, B.pen.but k B.n3 B.n5, LC.Tabs.but B.tabs k e, ⟨xs, k _ _ B.n1 e1, twos_put k e r1⟩, ⟨_, e', Paired.append (twos_put k e r2) (twos_put k e (.cons hv .nil))⟩, B.n1, B.n2, B.n3, B.n4, B.n5, B.n6, B.n7⟩
end
theorem wide_unlike {a b c d : Str} {f g : Int} (h : [a, b, c, d].Nodup) : (unlike [(f, [a, b, c]), (g, [d, a])]).length = 4 := by
  simp only [List.nodup_cons, List.mem_cons, List.not_mem_nil, or_false, not_or, List.nodup_nil, not_false_eq_true, and_true] at h
  obtain ⟨⟨ab, ac, ad⟩, ⟨bc, bd⟩, cd⟩ := h
  simp [unlike, unlikeF, addN, Ne.symm ab, Ne.symm ac, Ne.symm ad, Ne.symm bc, Ne.symm bd, Ne.symm cd, ab, ac, ad, bc, bd, cd]
end LC
namespace LC
open PySem PySem.Spec PyProof.Rows L2 TL
/-! the law's own reading: words that are numbers, that are names -/
def numD (z : Str) : Str := if cutS z none (some 1) = "-" ∧ z ≠ "-0" then cutS z (some 1) none else z
def signsOf (p : Nat → Bool) (z : Str) : List Str := (z.cps.toList.filter p).map fun c => ⟨#[c]⟩
theorem signs_take {p : Nat → Bool} {z : Str} {i c : Nat} (h : z.cps.toList[i]? = some c) : ((z.cps.toList.take (i + 1)).filter p) = (z.cps.toList.take i).filter p ++ (if p c = true then [c] else []) := by
  rw [take_next h, List.filter_append]
  congr 1
  rw [List.filter_cons]
  rfl
theorem shaped_strs {zs : List Str} (h : ∀ z ∈ zs, PyData.strOk z = true) : SeqAt.shaped (.list (zs.map PyData.str)) = true := by
  have lay : ∀ zs : List Str, (∀ z ∈ zs, PyData.strOk z = true) → PyData.canLayAll0 (zs.map PyData.str) = true ∧ PyData.depthAll (zs.map PyData.str) = 0 := by
    intro zs
    induction zs with
    | nil => exact fun _ => ⟨rfl, rfl⟩
    | cons a r ih =>
      intro h
      obtain ⟨i1, i2⟩ := ih fun z hz => h z (List.mem_cons_of_mem _ hz)
      refine ⟨?_, ?_⟩
      · show (PyData.strOk a && PyData.canLayAll0 (r.map PyData.str)) = true
        rw [h a (List.mem_cons_self ..), i1]
        rfl
      · show max 0 (PyData.depthAll (r.map PyData.str)) = 0
        rw [i2]
        rfl
  obtain ⟨a, b⟩ := lay zs h
  unfold SeqAt.shaped
  have c : (PyData.list (zs.map PyData.str)).canLay0 = true := a
  have d : (PyData.list (zs.map PyData.str)).depth = 1 := by
    show PyData.depthAll (zs.map PyData.str) + 1 = 1
    rw [b]
  rw [c, d]
  rfl
theorem eqv_nil (zs : List Str) : PyData.eqv (.list (zs.map PyData.str)) (.list []) = zs.isEmpty := by
  cases zs <;> rfl
theorem signs_empty {p : Nat → Bool} {z : Str} : (signsOf p z).isEmpty = z.cps.toList.all fun c => !p c := by
  unfold signsOf
  rw [List.isEmpty_map]
  induction z.cps.toList with
  | nil => rfl
  | cons c r ih =>
    rw [List.filter_cons, List.all_cons, ← ih]
    cases p c <;> rfl
theorem sign_ok {p : Nat → Bool} {z : Str} (h : asciiB z = true) : ∀ x ∈ signsOf p z, PyData.strOk x = true := fun x hx => by
  obtain ⟨c, hc, rfl⟩ := List.mem_map.mp hx
  have q := of_decide_eq_true (List.all_eq_true.mp h c ((List.mem_filter.mp hc).1))
  show (#[c] : Array Nat).all (fun c => decide (c < 0x110000)) = true
  simp
  omega
theorem numD_ascii {z : Str} (h : asciiB z = true) : asciiB (numD z) = true := by
  unfold numD
  split
  · refine List.all_eq_true.mpr fun c hc => List.all_eq_true.mp h c ?_
    have e : c ∈ tl (cutS z (some 1) none) := hc
    rw [tl_cut1] at e
    exact List.mem_of_mem_drop e
  · exact h
theorem numD_len (z : Str) : (numD z).length ≤ z.length := by
  unfold numD
  split
  · exact cutS_len z
  · exact Nat.le_refl _
def lawNumB (z : Str) : Bool := decB (numD z) 6
def spLawNum : Sp := fun vs H Q _ => ∃ z : Str, vs = [.str z] ∧ asciiB z = true ∧ z.length ≤ 1000 ∧ ∀ H', Same H H' → Q (.bl (lawNumB z)) H'
def spLawName : Sp := fun vs H Q _ => ∃ z : Str, vs = [.str z] ∧ asciiB z = true ∧ z.length ≤ 1000 ∧ ∀ H', Same H H' → Q (.bl (nameB z)) H'
section
variable {P : Program} {w : World} {K : PySem.W.Frag} {mg : Str → Option Value} {base : Heap}
abbrev s_is_number : Stmt := topS 52
theorem sc_is_number : FnScope ["word", "digits", "sign"] ["word"] (defScope s_is_number) := ⟨rfl, rfl, rfl, by decide +kernel, rfl, by decide +kernel, by decide +kernel⟩
theorem ok_law_num {f : Addr} {fd : FuncData} (T : Txt mg) (F : FnP K "_law_is_number" s_is_number f fd) : FnOk P w K mg base CX0 1 f fd ["word"] spLawNum := by
  have sc := sc_is_number
  refine F.ok sc (fun vs H Q E h => ?_) (fun cdv A outer s H vs Q E hr h => ?_)
  · obtain ⟨z, rfl, _⟩ := h
    rfl
  · obtain ⟨z, rfl, as, lz, q⟩ := h
    refine ⟨_, PSs.nox (Evl.pss_cut (ps_set (i := 1) sc.nd rfl (.inl rfl) (pe_ifExp (PW.pt (pw_and (pt_cmpR op_eq (pe_slice sl_str (pv 0) po_none (po_some pe_int)) pe_str (nomark _)) (pw_and1 (pt_cmpR op_ne (pv 0) pe_str (nomark _))))) (pe_slice sl_str (pv 0) (po_some pe_int) po_none) (pv 0)))
(pss_cons (ps_if (PW.pt (pw_or (pt_not (pt_chain op_le op_le pe_int (pe_callB call_len (by rfl) T.n_len (by decide +kernel) (pa_cons (pv 1) pa_nil)) pe_int)) (pw_or1 (pt_cmpR (op_neD hr.units) (pe_lc (own := [("sign", 2)]) (g := (gName 2)) (te := (tVar 2)) (tt := (tTest (tOp (fun x y H Q => ∃ (c : Nat) (z : Str), x = .str ⟨#[c]⟩ ∧ y = .str z ∧ Q (.bl (!decide (c ∈ z.cps.toList))) H) (tVar 2) (tC (.str "0123456789"))))) rfl sc.nd (pi_str (pv 1)) (blkOk_by (N := ["word", "digits", "sign"]) (sc := defScope s_is_number) (by decide +kernel)) (fun _ _ _ _ _ => by exact (pg_name (i := 2) sc.nd rfl (.inl rfl))) (fun _ _ _ _ _ => by exact (pts_one (pt_cmpR op_notIn_sign (pv 2) pe_str (by rfl)))) (fun _ _ _ _ _ => by exact (pv 2))) (pe_lst pa_nil) (nomark _)))))
  (pss_one (ps_ret pe_bl))
  pss_nil)
(pss_one (ps_ret (pe_or (pe_cmpR op_eq (pv 1) pe_str (nomark _)) (pe_one (pe_cmpR op_ne (pe_ix ix_str (pv 1) pe_int (fun _ _ => rfl)) pe_str (nomark _)))))))), ?_⟩
    refine ⟨fun σ' H2 => H = H2 ∧ σ' = [some (.str z), some (.str (numD z)), none], ?_, ?_⟩
    · refine ⟨.str z, rfl, 1, rfl, z, rfl, sz_le (by omega), rfl, _, rfl, ?_⟩
      by_cases e1 : cutS z none (some 1) = "-"
      · rw [decide_eq_true (congrArg V.str e1)]
        refine ⟨.str z, rfl, rfl, _, rfl, ?_⟩
        refine iteND (fun e2 => ?_) (fun e2 => ?_)
        · refine ⟨.str z, rfl, 1, rfl, z, rfl, sz_le (by omega), rfl, ?_⟩
          have e : numD z = cutS z (some 1) none := if_pos ⟨e1, fun w => e2 (congrArg V.str w)⟩
          rw [e]
          rfl
        · refine ⟨.str z, rfl, rfl, ?_⟩
          have e : numD z = z := if_neg fun w => w.2 (V.str.inj e2)
          rw [e]
          rfl
      · rw [decide_eq_false (fun w => e1 (V.str.inj w))]
        refine ⟨.str z, rfl, rfl, ?_⟩
        have e : numD z = z := if_neg fun w => e1 w.1
        rw [e]
        rfl
    rintro σ' H2 ⟨rfl, rfl⟩
    have ad := numD_ascii as
    have ld := Nat.le_trans (numD_len z) lz
    have no : ∀ {b : Bool} {H'}, Same H H' → decB (numD z) 6 = b → Q (.bl b) H' := fun {b H'} s e => by
      rw [← e]
      exact q H' s
    unfold lawNumB at q
    generalize numD z = y at *
    refine ⟨.str y, rfl, .str y, _, rfl, ⟨sz_le (by omega), rfl⟩, 1, _, rfl, rfl, _, rfl, iteD (fun e1 => ?_) (fun e1 => ?_)⟩
    · refine ⟨y.length, 6, rfl, rfl, _, rfl, iteND (fun e2 => ?_) (fun e2 => ?_)⟩
      · refine no (.refl _) ?_
        unfold decB
        rw [decide_eq_false (show ¬ y.length ≤ 6 by omega), Bool.and_false, Bool.false_and, Bool.false_and]
      · refine ⟨.str y, rfl, y, rfl, fun D nD => ?_⟩
        refine lc_it walk_str (fun i H' => Same H H' ∧ H' D = some (.lst ((((y.cps.toList.take i).filter fun c => !digB c).map fun c => (⟨#[c]⟩ : Str)).map V.str))) ⟨same_new nD, upd_same⟩ (fun _ _ _ _ => True.intro) ?_ ?_
        · rintro i x H' H2 hi ⟨sm, hD⟩ ⟨rfl, c, hc, rfl⟩
          have hc2 : y.cps.toList[i]? = some c := by simpa using hc
          refine ⟨rfl, ?_⟩
          refine ⟨_, rfl, c, _, rfl, rfl, _, rfl, ?_⟩
          rw [digits_dec]
          cases hb : digB c with
          | true =>
            refine iteF ⟨sm, ?_⟩
            rw [signs_take hc2, hb]
            simpa using hD
          | false =>
            refine iteT ⟨_, rfl, _, hD, ?_, fun b o e => ?_, ?_⟩
            · rw [List.length_map, List.length_map]
              have := List.length_filter_le (fun c => !digB c) (y.cps.toList.take i)
              rw [List.length_take] at this
              have : y.cps.toList.length = y.length := rfl
              exact sz_lt (by omega)
            · rw [upd_ne (ne_of_none e nD)]
              exact sm b o e
            · rw [upd_same, signs_take hc2, hb]
              simp
        · rintro H' ⟨sm, hD⟩
          have e4 : y.cps.toList.take y.cps.size = y.cps.toList := List.take_of_length_le (Nat.le_refl _)
          rw [e4] at hD
          refine ⟨szn 0, fun le nle => ?_⟩
          generalize hH6 : upd H' le _ = H6
          obtain ⟨s6, e6⟩ := alloc_eq nle hH6
          refine ⟨_, _, .lst (.of (s6 _ _ hD)) (dpAll_strs _), .lst (.of e6) .nil, shaped_strs (sign_ok ad), rfl, ?_⟩
          have ev : PyData.eqv (.list ((signsOf (fun c => !digB c) y).map PyData.str)) (.list []) = y.cps.toList.all digB := by
            rw [eqv_nil, signs_empty]
            simp
          have ev2 : PyData.eqv (.list ((((y.cps.toList.filter fun c => !digB c).map fun c => (⟨#[c]⟩ : Str))).map PyData.str)) (.list []) = y.cps.toList.all digB := ev
          rw [ev2]
          have sm6 := sm.trans s6
          cases ha : y.cps.toList.all digB with
          | false =>
            refine ⟨_, rfl, iteT (no sm6 ?_)⟩
            unfold decB
            rw [ha, Bool.and_false, Bool.false_and]
          | true =>
            refine ⟨_, rfl, iteF ?_⟩
            have z1 : decB y 6 = (decide (y = "0") || !decide (y.cps.toList.head? = some 48)) := by
              unfold decB
              rw [ha, decide_eq_true (show 1 ≤ y.length by omega), decide_eq_true (show y.length ≤ 6 by omega)]
              rfl
            rw [z1] at no
            refine ⟨.str y, rfl, rfl, _, rfl, ?_⟩
            refine iteD (fun hz0 => ?_) (fun hz0 => ?_)
            · refine no sm6 ?_
              rw [decide_eq_true (V.str.inj hz0), Bool.true_or]
            · rw [decide_eq_false (fun w => hz0 (congrArg V.str w)), Bool.false_or] at no
              obtain ⟨c, r, hl⟩ : ∃ c r, y.cps.toList = c :: r := by
                have hlen : y.cps.toList.length = y.length := rfl
                cases h : y.cps.toList with
                | nil =>
                  rw [h] at hlen
                  have : y.length = 0 := hlen.symm
                  omega
                | cons c r => exact ⟨c, r, rfl⟩
              refine ⟨.str y, rfl, y, 0, c, rfl, rfl, sz_le (by omega), by rw [hl]; exact atI_nat (j := 0) rfl, rfl, no sm6 ?_⟩
              rw [hl, List.head?_cons]
              congr 1
              refine decide_eq_decide.mpr ⟨fun h => ?_, fun h => ?_⟩
              · rw [Option.some.inj h]
                rfl
              · have w : (⟨#[c]⟩ : Str) = "0" := V.str.inj h
                have w2 := congrArg (fun s : Str => s.cps.toList) w
                have w3 : [c] = [48] := w2
                rw [List.cons.inj w3 |>.1]
    · refine ⟨_, rfl, no (.refl _) ?_⟩
      unfold decB
      rw [decide_eq_false (show ¬ 1 ≤ y.length by omega), Bool.false_and, Bool.false_and, Bool.false_and]
abbrev s_law_is_name : Stmt := topS 53
theorem sc_law_is_name : FnScope ["word", "sign"] ["word"] (defScope s_law_is_name) := ⟨rfl, rfl, rfl, by decide +kernel, rfl, by decide +kernel, by decide +kernel⟩
theorem ok_law_name {f : Addr} {fd : FuncData} (T : Txt mg) (F : FnP K "_law_is_name" s_law_is_name f fd) : FnOk P w K mg base CX0 1 f fd ["word"] spLawName := by
  have sc := sc_law_is_name
  refine F.ok sc (fun vs H Q E h => ?_) (fun cdv A outer s H vs Q E hr h => ?_)
  · obtain ⟨z, rfl, _⟩ := h
    rfl
  · obtain ⟨z, rfl, as, lz, q⟩ := h
    refine ⟨_, PSs.nox (pss_one (ps_ret (pe_and (pe_chain op_le op_le pe_int (pe_callB call_len (by rfl) T.n_len (by decide +kernel) (pa_cons (pv 0) pa_nil)) pe_int) (pe_one (pe_cmpR (op_eqD hr.units) (pe_lc (own := [("sign", 1)]) (g := (gName 1)) (te := (tVar 1)) (tt := (tTest (tOp (fun x y H Q => ∃ (c : Nat) (z : Str), x = .str ⟨#[c]⟩ ∧ y = .str z ∧ Q (.bl (!decide (c ∈ z.cps.toList))) H) (tVar 1) (tC (.str "abcdefghijklmnopqrstuvwxyz"))))) rfl sc.nd (pi_str (pv 0)) (blkOk_by (N := ["word", "sign"]) (sc := defScope s_law_is_name) (by decide +kernel)) (fun _ _ _ _ _ => by exact (pg_name (i := 1) sc.nd rfl (.inl rfl))) (fun _ _ _ _ _ => by exact (pts_one (pt_cmpR op_notIn_sign (pv 1) pe_str (by rfl)))) (fun _ _ _ _ _ => by exact (pv 1))) (pe_lst pa_nil) (nomark _)))))), ?_⟩
    have no : ∀ {b : Bool} {H'}, Same H H' → nameB z = b → Q (.bl b) H' := fun {b H'} s e => by
      rw [← e]
      exact q H' s
    refine ⟨.str z, rfl, .str z, _, rfl, ⟨sz_le (by omega), rfl⟩, 1, _, rfl, rfl, _, rfl, iteD (fun e1 => ?_) (fun e1 => ?_)⟩
    · refine ⟨z.length, 6, rfl, rfl, _, rfl, iteD (fun e2 => ?_) (fun e2 => ?_)⟩
      · refine ⟨.str z, rfl, z, rfl, fun D nD => ?_⟩
        refine lc_it walk_str (fun i H' => Same H H' ∧ H' D = some (.lst ((((z.cps.toList.take i).filter fun c => !(decide (97 ≤ c) && decide (c ≤ 122))).map fun c => (⟨#[c]⟩ : Str)).map V.str))) ⟨same_new nD, upd_same⟩ (fun _ _ _ _ => True.intro) ?_ ?_
        · rintro i x H' H2 hi ⟨sm, hD⟩ ⟨rfl, c, hc, rfl⟩
          have hc2 : z.cps.toList[i]? = some c := by simpa using hc
          refine ⟨rfl, ?_⟩
          refine ⟨_, rfl, c, _, rfl, rfl, _, rfl, ?_⟩
          rw [letters_dec]
          cases hb : (decide (97 ≤ c) && decide (c ≤ 122)) with
          | true =>
            refine iteF ⟨sm, ?_⟩
            rw [signs_take hc2, hb]
            simpa using hD
          | false =>
            refine iteT ⟨_, rfl, _, hD, ?_, fun b o e => ?_, ?_⟩
            · rw [List.length_map, List.length_map]
              have := List.length_filter_le (fun c => !(decide (97 ≤ c) && decide (c ≤ 122))) (z.cps.toList.take i)
              rw [List.length_take] at this
              have : z.cps.toList.length = z.length := rfl
              exact sz_lt (by omega)
            · rw [upd_ne (ne_of_none e nD)]
              exact sm b o e
            · rw [upd_same, signs_take hc2, hb]
              simp
        · rintro H' ⟨sm, hD⟩
          have e4 : z.cps.toList.take z.cps.size = z.cps.toList := List.take_of_length_le (Nat.le_refl _)
          rw [e4] at hD
          refine ⟨szn 0, fun le nle => ?_⟩
          generalize hH6 : upd H' le _ = H6
          obtain ⟨s6, e6⟩ := alloc_eq nle hH6
          refine ⟨_, _, .lst (.of (s6 _ _ hD)) (dpAll_strs _), .lst (.of e6) .nil, shaped_strs (sign_ok as), rfl, ?_⟩
          have ev : PyData.eqv (.list ((signsOf (fun c => !(decide (97 ≤ c) && decide (c ≤ 122))) z).map PyData.str)) (.list []) = z.cps.toList.all fun c => decide (97 ≤ c) && decide (c ≤ 122) := by
            rw [eqv_nil, signs_empty]
            simp only [Bool.not_not]
          have ev2 : PyData.eqv (.list ((((z.cps.toList.filter fun c => !(decide (97 ≤ c) && decide (c ≤ 122))).map fun c => (⟨#[c]⟩ : Str))).map PyData.str)) (.list []) = z.cps.toList.all fun c => decide (97 ≤ c) && decide (c ≤ 122) := ev
          rw [ev2]
          refine no (sm.trans s6) ?_
          unfold nameB
          rw [decide_eq_true (show 1 ≤ z.length by omega), decide_eq_true (show z.length ≤ 6 by omega), Bool.true_and, Bool.true_and]
      · refine no (.refl _) ?_
        unfold nameB
        rw [decide_eq_false (show ¬ z.length ≤ 6 by omega), Bool.and_false, Bool.false_and]
    · refine ⟨_, rfl, no (.refl _) ?_⟩
      unfold nameB
      rw [decide_eq_false (show ¬ 1 ≤ z.length by omega), Bool.false_and, Bool.false_and]
end
end LC
/-! LcStep: xs[::2] and xs[1::2] of a list. -/
namespace LC
open PySem PySem.Spec PyProof.Rows L2
def evL {α : Type} : List α → List α
  | [] => []
  | [a] => [a]
  | a :: _ :: r => a :: evL r
theorem evL_len {α : Type} : ∀ l : List α, (evL l).length ≤ l.length
  | [] => Nat.le_refl _
  | [_] => Nat.le_refl _
  | _ :: b :: r => by
    show (evL r).length + 1 ≤ r.length + 1 + 1
    have := evL_len r
    omega
theorem evL_map {α β : Type} (f : α → β) : ∀ l : List α, evL (l.map f) = (evL l).map f
  | [] => rfl
  | [_] => rfl
  | a :: b :: r => by
    show f a :: evL (r.map f) = f a :: (evL r).map f
    rw [evL_map f r]
theorem pick_ev : ∀ (l : List Value), (List.range ((l.length + 1) / 2)).filterMap (fun k => l[2 * k]?) = evL l
  | [] => rfl
  | [_] => by
    have e : ((0 : Nat) + 1 + 1) / 2 = 1 := by decide
    simp only [List.length_cons, List.length_nil, e]
    rfl
  | a :: b :: r => by
    have e : ((a :: b :: r).length + 1) / 2 = (r.length + 1) / 2 + 1 := by
      simp only [List.length_cons]
      omega
    rw [e, List.range_succ_eq_map, List.filterMap_cons]
    show a :: List.filterMap _ ((List.range ((r.length + 1) / 2)).map Nat.succ) = a :: evL r
    rw [List.filterMap_map]
    congr 1
    rw [← pick_ev r]
    rfl
def stepE {α : Type} (o : Option Int) (xs : List α) : List α := match o with
  | none => evL xs
  | some _ => evL (xs.drop 1)
theorem pick_two (its : List Value) {o : Option Int} (h : o = none ∨ o = some 1) : slicePick its.toArray o none (some 2) = (stepE o its).toArray := by
  have key : ∀ (st : Nat), st ≤ its.length → sliceRange (st : Int) (its.length : Int) 2 = (List.range (((its.drop st).length + 1) / 2)).map fun k => st + 2 * k := fun st hst => by
    unfold sliceRange
    rw [List.length_drop]
    have c : (if (2 : Int) > 0 then (if (st : Int) < (its.length : Int) then ((its.length : Int) - (st : Int) + 2 - 1) / 2 else 0) else (if (st : Int) > (its.length : Int) then ((st : Int) - (its.length : Int) - 2 - 1) / (-2) else 0)).toNat = (its.length - st + 1) / 2 := by
      rw [if_pos (by decide)]
      split
      · omega
      · have : its.length = st := by omega
        rw [this]
        simp
    show (List.range (if (2 : Int) > 0 then (if (st : Int) < (its.length : Int) then ((its.length : Int) - (st : Int) + 2 - 1) / 2 else 0) else (if (st : Int) > (its.length : Int) then ((st : Int) - (its.length : Int) - 2 - 1) / (-2) else 0)).toNat).map _ = _
    rw [c]
    refine List.map_congr_left fun k _ => ?_
    omega
  have fin : ∀ st : Nat, ((List.range (((its.drop st).length + 1) / 2)).map fun k => st + 2 * k).filterMap (its.toArray[·]?) = evL (its.drop st) := fun st => by
    rw [← pick_ev (its.drop st), List.filterMap_map]
    congr 1
    funext k
    show its.toArray[st + 2 * k]? = (its.drop st)[2 * k]?
    rw [List.getElem?_drop, List.getElem?_toArray]
  unfold slicePick
  rcases h with rfl | rfl
  · have b : sliceBounds none none (some 2) its.toArray.size = (((0 : Nat) : Int), (its.length : Int), 2) := by
      unfold sliceBounds
      simp
    rw [b]
    show ((sliceRange ((0 : Nat) : Int) (its.length : Int) 2).filterMap (its.toArray[·]?)).toArray = (evL its).toArray
    rw [key 0 (Nat.zero_le _), fin 0]
    rfl
  · cases its with
    | nil => rfl
    | cons a r =>
      have b : sliceBounds (some 1) none (some 2) (a :: r).toArray.size = (((1 : Nat) : Int), ((a :: r).length : Int), 2) := by
        unfold sliceBounds
        simp only [List.size_toArray, List.length_cons]
        simp
        omega
      rw [b]
      show ((sliceRange ((1 : Nat) : Int) ((a :: r).length : Int) 2).filterMap ((a :: r).toArray[·]?)).toArray = (evL ((a :: r).drop 1)).toArray
      rw [key 1 (by simp), fin 1]
theorem vals_ev : ∀ {xs : List V} {its : List Value}, Vals xs its → Vals (evL xs) (evL its)
  | _, _, .nil => .nil
  | _, _, .cons a .nil => .cons a .nil
  | _, _, .cons a (.cons _ r) => .cons a (vals_ev r)
theorem vals_step {o : Option Int} {xs : List V} {its : List Value} (r : Vals xs its) : Vals (stepE o xs) (stepE o its) := by
  cases o with
  | none => exact vals_ev r
  | some _ =>
    cases r with
    | nil => exact .nil
    | cons a r => exact vals_ev r
theorem stepE_len {α : Type} (o : Option Int) (xs : List α) : (stepE o xs).length ≤ xs.length := by
  cases o with
  | none => exact evL_len xs
  | some _ => exact Nat.le_trans (evL_len _) (by rw [List.length_drop]; omega)
def tStep (K : PySem.W.Frag) (te : TE) (tl : TO) : TE := fun σ H Q => te σ H fun x H1 => tl σ H1 fun o H2 => ∃ a xs, x = .ref a ∧ SqL K H2 a xs ∧ (o = none ∨ o = some 1) ∧ ∀ p, H2 p = none → Q (.ref p) (upd H2 p (.lst (stepE o xs)))
theorem pe_step {X : Cx} {te : TE} {tl : TO} {e : Expr} {lo : Option Expr} {k : Nat} {p1 p3 pos : Pos} (he : PE X e te) (hl : PO X lo tl) : PE X (.Subscript e (.Slice lo none (some (.Constant (.int 2) k p1)) p3) pos) (tStep X.K te tl) := by
  refine ⟨fun pins s σ H Q I h => ?_⟩
  refine Subscript_ (thn (he.run pins s σ H _ I h) fun v s1 ⟨x, H1, I1, r1, q1⟩ => ?_)
  have hst : PO X (some (.Constant (.int 2) k p1)) (tPart (tC (.int 2))) := po_some pe_int
  refine wpAny_Slice (thn (hl.run pins s1 σ H1 _ I1 q1) fun vl s2 ⟨l, H2, I2, pl, q2⟩ => ?_)
  obtain ⟨a, xs, ex, hx, ho, q⟩ := q2
  subst ex
  cases r1
  refine thn (po_none.run pins s2 σ H2 (fun o H3 => o = none ∧ H3 = H2) I2 ⟨rfl, rfl⟩) fun vu s3 ⟨u, H3, I3, pu, eu, e3⟩ => ?_
  subst eu e3
  refine thn (hst.run pins s3 σ H3 (fun o H4 => o = some 2 ∧ H4 = H3) I3 ⟨2, rfl, rfl, rfl⟩) fun vs s4 ⟨o, H4, I4, ps, eo, e4⟩ => ?_
  subst eo e4
  have I5 : Inv X pins σ H4 { s4 with heap := s4.heap.push { cls := .type "slice", data := .fields #[vl, vu, vs] } } := I4.kept (t' := s4.toks) fun b ob q => Heap.get?_push_of_some _ q
  obtain ⟨its, r, ht, hz⟩ := I5.list hx
  have hlen := r.length
  show wpAny (model X.prog X.w) X.A (subscriptTail e (.Slice lo none (some (.Constant (.int 2) k p1)) p3) (.ref a) (.ref s4.heap.objs.size)) (EP X pins σ Q) X.xe { s4 with heap := s4.heap.push { cls := .type "slice", data := .fields #[vl, vu, vs] } }
  refine tail_any (ops := [.ref a, .ref s4.heap.objs.size]) ht.isList.typeIs (PySem.slot_list_getitem.lookup) ?_ (by with_unfolding_all rfl)
  refine wpAny_getItem_list_slice ht.isList (Heap.IsSliceOf.new _ vl vu vs) pl pu ps (by decide) ?_ (by rw [List.size_toArray]; omega)
  rw [pick_two its ho]
  refine ⟨.ref _, _, I5.laid (t' := s4.toks) (o := .lst (stepE l xs)) (fun b ob q => Heap.get?_push_of_some _ q) (Nat.le_refl _) ?_, rfl, q _ (I5.hok.fresh (Nat.le_refl _))⟩
  exact ⟨Nat.le_trans (stepE_len l xs) hz, _, 0, vals_step r, Heap.get?_push_size _ rfl⟩
end LC
/-! LcOwnRead: what the law's own reader answers. -/
namespace LC
open PySem PySem.Spec PyProof.Rows L2 TL
theorem tl_cutTo1 (z : Str) : tl (cutS z none (some 1)) = (tl z).take 1 := by
  show (tl z |>.drop (HT.sIx z.length 0 none)).take (HT.sIx z.length z.length (some 1) - HT.sIx z.length 0 none) = _
  have hl : z.length = (tl z).length := len_tl z
  have e0 : HT.sIx z.length 0 none = 0 := rfl
  rw [e0, List.drop_zero, Nat.sub_zero]
  by_cases h : z.length = 0
  · have e : tl z = [] := List.length_eq_zero_iff.mp (by omega)
    rw [e]
    simp
  · have e1 : HT.sIx z.length z.length (some 1) = 1 := by
      simp [HT.sIx]
      omega
    rw [e1]
theorem cutTo_minus {z : Str} : cutS z none (some 1) = "-" ↔ (tl z).head? = some 45 := by
  have e : tl ("-" : Str) = [45] := by decide +kernel
  constructor
  · intro h
    have h2 := congrArg tl h
    rw [tl_cutTo1, e] at h2
    cases q : tl z with
    | nil => rw [q] at h2; cases h2
    | cons c r =>
      rw [q] at h2
      have h3 : [c] = [45] := h2
      rw [(List.cons.inj h3).1]
      rfl
  · intro h
    refine ext_tl ?_
    rw [tl_cutTo1, e]
    cases q : tl z with
    | nil => rw [q] at h; cases h
    | cons c r =>
      rw [q] at h
      rw [Option.some.inj h]
      rfl
def lawVal (z : Str) : Int := if cutS z none (some 1) = "-" ∧ z ≠ "-0" then -(numW (cutS z (some 1) none)) else numW z
theorem lawNum_sound {z : Str} (h : lawNumB z = true) : intText? z = some (lawVal z) ∧ z.length ≤ 640 ∧ z = strI (lawVal z) ∧ -999999 ≤ lawVal z ∧ lawVal z ≤ 999999 := by
  unfold lawNumB numD at h
  unfold lawVal
  by_cases c : cutS z none (some 1) = "-" ∧ z ≠ "-0"
  · rw [if_pos c] at h ⊢
    obtain ⟨b1, b2, b3⟩ := numW_back h
    obtain ⟨d1, d2, d3, d4⟩ := decB_iff.mp h
    have hd := cutTo_minus.mp c.1
    have hc := tl_cut1 z
    obtain ⟨cs, hz⟩ : ∃ cs, tl z = 45 :: cs := by
      cases q : tl z with
      | nil => rw [q] at hd; cases hd
      | cons a r =>
        rw [q] at hd
        exact ⟨r, by rw [Option.some.inj hd]⟩
    rw [hz] at hc
    have hc : tl (cutS z (some 1) none) = cs := hc
    have ll : z.length = cs.length + 1 := by
      rw [len_tl z, hz]
      rfl
    rw [hc] at d1 d2 d3 d4
    have w0 : numW (cutS z (some 1) none) ≠ 0 := fun e => c.2 (by
      rw [e, strI_zero] at b1
      have e2 : cs = [48] := by
        rw [← hc, b1]
        decide +kernel
      refine ext_tl ?_
      rw [hz, e2]
      decide +kernel)
    have eN : numW (cutS z (some 1) none) = ((NumText.digitsVal cs : Nat) : Int) := by
      unfold numW
      rw [← hc]
    have p6 : (10 : Int) ^ 6 = 1000000 := by decide
    rw [p6] at b3
    refine ⟨?_, by omega, ext_tl ?_, by omega, by omega⟩
    · rw [eN]
      exact intText_neg hz d3 d1 (by omega)
    · rw [hz, strI_neg (by omega)]
      have e1 : (- -(numW (cutS z (some 1) none))).toNat = (numW (cutS z (some 1) none)).toNat := by rw [Int.neg_neg]
      rw [e1, ← strI_nat, Int.toNat_of_nonneg b2, ← b1, hc]
  · rw [if_neg c] at h ⊢
    obtain ⟨b1, b2, b3⟩ := numW_back h
    obtain ⟨n1, n2⟩ := dec_num h (by decide)
    have p6 : (10 : Int) ^ 6 = 1000000 := by decide
    rw [p6] at b3
    exact ⟨n1, n2, b1, by omega, by omega⟩
theorem lawNum_complete {i : Int} (h0 : -999999 ≤ i) (h1 : i ≤ 999999) : lawNumB (strI i) = true ∧ lawVal (strI i) = i := by
  unfold lawNumB numD lawVal
  by_cases neg : i < 0
  · obtain ⟨n, hn⟩ : ∃ n : Nat, -i = (n : Int) := ⟨(-i).toNat, (Int.toNat_of_nonneg (by omega)).symm⟩
    obtain ⟨d1, d2⟩ := decB_strI (n := n) (m := 6) (by decide) (by omega)
    have et := strI_neg neg
    have et2 : (-i).toNat = n := by omega
    rw [et2] at et
    have c1 : cutS (strI i) none (some 1) = "-" := cutTo_minus.mpr (by rw [et]; rfl)
    have ec : cutS (strI i) (some 1) none = strI (n : Int) := ext_tl (by rw [tl_cut1, et, strI_nat]; rfl)
    have c2 : strI i ≠ "-0" := fun w => by
      have w2 := congrArg tl w
      have e0 : tl ("-0" : Str) = 45 :: [48] := by decide +kernel
      rw [et, e0, ← strI_nat] at w2
      have w3 : strI (n : Int) = "0" := ext_tl (by rw [(List.cons.inj w2).2]; decide +kernel)
      rw [w3] at d2
      have e1 : numW ("0" : Str) = 0 := by decide +kernel
      rw [e1] at d2
      omega
    rw [if_pos ⟨c1, c2⟩, if_pos ⟨c1, c2⟩, ec, d2]
    exact ⟨d1, by omega⟩
  · obtain ⟨n, hn⟩ : ∃ n : Nat, i = (n : Int) := ⟨i.toNat, (Int.toNat_of_nonneg (by omega)).symm⟩
    obtain ⟨d1, d2⟩ := decB_strI (n := n) (m := 6) (by decide) (by omega)
    have c1 : ¬ (cutS (strI i) none (some 1) = "-" ∧ strI i ≠ "-0") := fun w => by
      have z := cutTo_minus.mp w.1
      rw [hn, strI_nat] at z
      cases q : numL n with
      | nil => exact numL_ne n q
      | cons a r =>
        have a1 := numL_digits n a (by rw [q]; exact List.mem_cons_self ..)
        rw [q] at z
        have : a = 45 := Option.some.inj z
        omega
    rw [if_neg c1, if_neg c1, hn]
    exact ⟨d1, d2⟩
theorem name_noNum {z : Str} (h : nameB z = true) : lawNumB z = false := by
  cases q : lawNumB z with
  | false => rfl
  | true =>
    obtain ⟨_, _, e, _⟩ := lawNum_sound q
    rw [e, strI_noName] at h
    cases h
/-! ### terms -/
def lawTermF (ws : List Str) (sg : Int) : Option Term :=
  if ws.length % 2 = 0 ∨ (stepE (some 1) ws).filter (fun z => decide (z ≠ ("*" : Str))) ≠ [] then none else
  match evL ws with
  | [] => none
  | w :: r =>
    let fn : Int × List Str := if lawNumB w = true then (sg * lawVal w, r) else (sg, w :: r)
    if 3 < fn.2.length ∨ fn.2.filter (fun z => !nameB z) ≠ [] then none else some fn
theorem filter_nil {α : Type} {p : α → Bool} {l : List α} : l.filter p = [] ↔ ∀ x ∈ l, p x = false := by
  rw [List.filter_eq_nil_iff]
  exact ⟨fun h x hx => by cases q : p x with | false => rfl | true => exact absurd q (h x hx), fun h x hx q => by rw [h x hx] at q; cases q⟩
def lawPut (sg : Int) (w : Str) (r : List Str) : Term := if lawNumB w = true then (sg * lawVal w, r) else (sg, w :: r)
theorem lawTerm_eq {ws : List Str} {sg : Int} : lawTermF ws sg = if ws.length % 2 = 0 ∨ (stepE (some 1) ws).filter (fun z => decide (z ≠ ("*" : Str))) ≠ [] then none else
    match evL ws with
    | [] => none
    | w :: r => if 3 < (lawPut sg w r).2.length ∨ (lawPut sg w r).2.filter (fun z => !nameB z) ≠ [] then none else some (lawPut sg w r) := rfl
theorem lawTerm_fine {ws : List Str} {sg : Int} {t : Term} (k : sg = 1 ∨ sg = -1) (h : lawTermF ws sg = some t) : TermFine t := by
  rw [lawTerm_eq] at h
  split at h
  · cases h
  · split at h
    · cases h
    · rename_i w r _
      split at h
      · cases h
      · rename_i c
        have e := (Option.some.inj h).symm
        rw [e]
        rw [not_or] at c
        have nm := filter_nil.mp (Decidable.not_not.mp c.2)
        have ln := c.1
        have nm2 : ∀ x ∈ (lawPut sg w r).2, nameB x = true := fun x hx => by
          have := nm x hx
          simpa using this
        unfold lawPut at ln nm2 ⊢
        by_cases q : lawNumB w = true
        · rw [if_pos q] at ln nm2 ⊢
          obtain ⟨_, _, _, a, b⟩ := lawNum_sound q
          refine ⟨?_, ?_, by omega, nm2⟩
          · show -999999 ≤ sg * lawVal w
            rcases k with e | e <;> rw [e] <;> omega
          · show sg * lawVal w ≤ 999999
            rcases k with e | e <;> rw [e] <;> omega
        · rw [if_neg q] at ln nm2 ⊢
          exact ⟨by show -999999 ≤ sg; omega, by show sg ≤ 999999; omega, by omega, nm2⟩
theorem ev_star : ∀ {ps : List Str}, evL (starW ps) = ps
  | [] => rfl
  | [p] => rfl
  | p :: q :: r => by
    show p :: evL (starW (q :: r)) = _
    rw [ev_star]
theorem od_star : ∀ {ps : List Str}, ∀ z ∈ stepE (some 1) (starW ps), z = ("*" : Str)
  | [], z, h => nomatch h
  | [p], z, h => nomatch h
  | [p, q], z, h => by
    have h : z ∈ [("*" : Str)] := h
    exact List.mem_singleton.mp h
  | p :: q :: r :: l, z, h => by
    have h : z ∈ ("*" : Str) :: stepE (some 1) (starW (q :: r :: l)) := h
    rcases List.mem_cons.mp h with e | h
    · exact e
    · exact od_star z h
theorem star_odd : ∀ {ps : List Str}, ps ≠ [] → (starW ps).length % 2 = 1
  | [], h => absurd rfl h
  | [p], _ => rfl
  | p :: q :: r, _ => by
    show ((starW (q :: r)).length + 1 + 1) % 2 = 1
    have := star_odd (ps := q :: r) (by simp)
    omega
theorem lawTerm_complete {s sg : Int} {ns : List Str} (k : sg = 1 ∨ sg = -1) (s0 : -999999 ≤ s) (s1 : s ≤ 999999) (l3 : ns.length ≤ 3) (nm : ∀ x ∈ ns, nameB x = true) : lawTermF (termWs s ns) sg = some (sg * s, ns) := by
  unfold lawTermF termWs
  have hp := partW_ne s ns
  rw [if_neg (fun w => by
    rcases w with w | w
    · have := star_odd hp
      omega
    · exact w (filter_nil.mpr fun x hx => by rw [od_star x hx]; rfl)), ev_star]
  have nmf : ns.filter (fun z => !nameB z) = [] := filter_nil.mpr fun x hx => by rw [nm x hx]; rfl
  by_cases c : s = 1 ∧ ns ≠ []
  · have e : partW s ns = ns := if_pos c
    rw [e]
    cases ns with
    | nil => exact absurd rfl c.2
    | cons w r =>
      have nn := name_noNum (nm w (List.mem_cons_self ..))
      simp only [nn, Bool.false_eq_true, if_false]
      rw [if_neg (fun q => q.elim (fun z => by omega) fun z => z nmf), c.1, Int.mul_one]
  · have e : partW s ns = strI s :: ns := if_neg c
    rw [e]
    obtain ⟨a, b⟩ := lawNum_complete s0 s1
    simp only [a, b, if_true]
    rw [if_neg (fun q => q.elim (fun z => by omega) fun z => z nmf)]
/-! ### the whole -/
def lawFoldF : List Str → List (Option Term) → List Str → Int → List (Option Term)
  | [], found, _, _ => found
  | w :: r, found, ws, sg => if w = "+" ∨ w = "-" then lawFoldF r (found ++ [lawTermF ws sg]) [] (if w = "-" then -1 else 1) else lawFoldF r found (ws ++ [w]) sg
theorem fold_skip : ∀ {ws rest : List Str} {found : List (Option Term)} {ac : List Str} {sg : Int}, (∀ w ∈ ws, w ≠ "+" ∧ w ≠ "-") → lawFoldF (ws ++ rest) found ac sg = lawFoldF rest found (ac ++ ws) sg
  | [], rest, found, ac, sg, _ => by rw [List.append_nil]; rfl
  | w :: r, rest, found, ac, sg, h => by
    have hw := h w (List.mem_cons_self ..)
    show (if w = "+" ∨ w = "-" then _ else lawFoldF (r ++ rest) found (ac ++ [w]) sg) = _
    rw [if_neg (fun q => q.elim hw.1 hw.2), fold_skip fun x hx => h x (List.mem_cons_of_mem _ hx), List.append_assoc]
    rfl
theorem noSign_name {z : Str} (h : nameB z = true) : z ≠ "+" ∧ z ≠ "-" := by
  refine ⟨fun e => ?_, fun e => ?_⟩
  · rw [e, noName_plus] at h
    cases h
  · rw [e, noName_minus] at h
    cases h
theorem noSign_num {i : Int} (h0 : -999999 ≤ i) (h1 : i ≤ 999999) : strI i ≠ "+" ∧ strI i ≠ "-" := by
  obtain ⟨a, _⟩ := lawNum_complete h0 h1
  refine ⟨fun e => ?_, fun e => ?_⟩
  · rw [e] at a
    exact absurd a (by decide +kernel)
  · rw [e] at a
    exact absurd a (by decide +kernel)
theorem noSign_term {s : Int} {ns : List Str} (s0 : -999999 ≤ s) (s1 : s ≤ 999999) (nm : ∀ x ∈ ns, nameB x = true) : ∀ w ∈ termWs s ns, w ≠ "+" ∧ w ≠ "-" := fun w hw => by
  rcases mem_star hw with hw | e
  · unfold partW at hw
    split at hw
    · exact noSign_name (nm w hw)
    · rcases List.mem_cons.mp hw with e | hw
      · rw [e]
        exact noSign_num s0 s1
      · exact noSign_name (nm w hw)
  · rw [e]
    exact ⟨by decide +kernel, by decide +kernel⟩
theorem fold_more : ∀ {r : List Term} {found : List (Option Term)} {s sg : Int} {ns : List Str}, (sg = 1 ∨ sg = -1) → (∀ t ∈ r, TermFine t) → -999999 ≤ s → s ≤ 999999 → ns.length ≤ 3 → (∀ x ∈ ns, nameB x = true) →
    lawFoldF (moreWs r ++ [("+" : Str)]) found (termWs s ns) sg = found ++ [some (sg * s, ns)] ++ r.map some
  | [], found, s, sg, ns, k, _, s0, s1, l3, nm => by
    show (if ("+" : Str) = "+" ∨ ("+" : Str) = "-" then lawFoldF [] (found ++ [lawTermF (termWs s ns) sg]) [] _ else _) = _
    rw [if_pos (.inl rfl), lawTerm_complete k s0 s1 l3 nm]
    show found ++ [some (sg * s, ns)] = _
    simp
  | t :: r, found, s, sg, ns, k, tf, s0, s1, l3, nm => by
    obtain ⟨f0, f1, fl, fn⟩ := tf t (List.mem_cons_self ..)
    have e : moreWs (t :: r) ++ [("+" : Str)] = (if t.1 < 0 then "-" else "+" : Str) :: (termWs (if t.1 < 0 then -t.1 else t.1) t.2 ++ (moreWs r ++ [("+" : Str)])) := by
      show (if t.1 < 0 then "-" else "+" : Str) :: (termWs (if t.1 < 0 then -t.1 else t.1) t.2 ++ moreWs r) ++ [("+" : Str)] = _
      simp
    have w0 : -999999 ≤ (if t.1 < 0 then -t.1 else t.1) := by split <;> omega
    have w1 : (if t.1 < 0 then -t.1 else t.1) ≤ 999999 := by split <;> omega
    have pm : ("+" : Str) ≠ "-" := by decide +kernel
    have es : (if (if t.1 < 0 then "-" else "+" : Str) = "-" then (-1 : Int) else 1) = if t.1 < 0 then -1 else 1 := by
      by_cases q : t.1 < 0
      · rw [if_pos q, if_pos rfl, if_pos q]
      · rw [if_neg q, if_neg pm, if_neg q]
    have ef : (if t.1 < 0 then (-1 : Int) else 1) * (if t.1 < 0 then -t.1 else t.1) = t.1 := by
      by_cases q : t.1 < 0
      · rw [if_pos q, if_pos q]
        omega
      · rw [if_neg q, if_neg q]
        omega
    rw [e]
    show (if (if t.1 < 0 then "-" else "+" : Str) = "+" ∨ (if t.1 < 0 then "-" else "+" : Str) = "-" then lawFoldF (termWs (if t.1 < 0 then -t.1 else t.1) t.2 ++ (moreWs r ++ [("+" : Str)])) (found ++ [lawTermF (termWs s ns) sg]) [] (if (if t.1 < 0 then "-" else "+" : Str) = "-" then -1 else 1) else _) = _
    rw [if_pos (by split <;> simp), lawTerm_complete k s0 s1 l3 nm, fold_skip (noSign_term w0 w1 fn), List.nil_append, es, fold_more (by split <;> simp) (fun u hu => tf u (List.mem_cons_of_mem _ hu)) w0 w1 fl fn, ef]
    simp
theorem fold_all {ts : List Term} (n : ts ≠ []) (tf : ∀ t ∈ ts, TermFine t) : lawFoldF (allWs ts ++ [("+" : Str)]) [] [] 1 = ts.map some := by
  cases ts with
  | nil => exact absurd rfl n
  | cons t r =>
    obtain ⟨f0, f1, fl, fn⟩ := tf t (List.mem_cons_self ..)
    have e : allWs (t :: r) ++ [("+" : Str)] = termWs t.1 t.2 ++ (moreWs r ++ [("+" : Str)]) := by
      show termWs t.1 t.2 ++ moreWs r ++ [("+" : Str)] = _
      rw [List.append_assoc]
    rw [e, fold_skip (noSign_term f0 f1 fn), List.nil_append, fold_more (.inl rfl) (fun u hu => tf u (List.mem_cons_of_mem _ hu)) f0 f1 fl fn, Int.one_mul]
    simp
def lawReadF (x : Str) : Option (List Term) :=
  let os := lawFoldF (Txt.split x " " ++ [("+" : Str)]) [] [] 1
  if os.any (·.isNone) = true then none else
  if ¬ (1 ≤ os.length ∧ os.length ≤ 4) then none else
  if 3 < (unlike (os.filterMap id)).length then none else
  if sumText (os.filterMap id) = x then some (os.filterMap id) else none
theorem fold_fine : ∀ {ws : List Str} {found : List (Option Term)} {ac : List Str} {sg : Int}, (sg = 1 ∨ sg = -1) → (∀ t, some t ∈ found → TermFine t) → ∀ t, some t ∈ lawFoldF ws found ac sg → TermFine t
  | [], found, ac, sg, k, h, t, ht => h t ht
  | w :: r, found, ac, sg, k, h, t, ht => by
    by_cases c : w = "+" ∨ w = "-"
    · have e : lawFoldF (w :: r) found ac sg = lawFoldF r (found ++ [lawTermF ac sg]) [] (if w = "-" then -1 else 1) := if_pos c
      rw [e] at ht
      refine fold_fine (by split <;> simp) (fun u hu => ?_) t ht
      rcases List.mem_append.mp hu with hu | hu
      · exact h u hu
      · exact lawTerm_fine k (List.mem_singleton.mp hu).symm
    · have e : lawFoldF (w :: r) found ac sg = lawFoldF r found (ac ++ [w]) sg := if_neg c
      rw [e] at ht
      exact fold_fine k h t ht
theorem some_all {os : List (Option Term)} (h : os.any (·.isNone) = false) : os = (os.filterMap id).map some := by
  induction os with
  | nil => rfl
  | cons o r ih =>
    rw [List.any_cons, Bool.or_eq_false_iff] at h
    cases o with
    | none => exact absurd h.1 (by decide)
    | some t =>
      show some t :: r = some t :: (r.filterMap id).map some
      rw [← ih h.2]
theorem lawRead_iff {x : Str} {ts : List Term} : lawReadF x = some ts ↔ Fine ts ∧ x = sumText ts := by
  constructor
  · intro h
    unfold lawReadF at h
    simp only [] at h
    generalize hos : lawFoldF (Txt.split x " " ++ [("+" : Str)]) [] [] 1 = os at h
    split at h
    · cases h
    · rename_i c1
      split at h
      · cases h
      · rename_i c2
        split at h
        · cases h
        · rename_i c3
          split at h
          · rename_i c4
            cases h
            have c1 : os.any (·.isNone) = false := by
              cases q : os.any (·.isNone) with
              | false => rfl
              | true => exact absurd q c1
            have e := some_all c1
            have l : (os.filterMap id).length = os.length := by
              rw [e, List.length_map]
              simp
            have c2 := Decidable.not_not.mp c2
            refine ⟨⟨by omega, by omega, fun t ht => ?_, by omega⟩, c4.symm⟩
            have mem : some t ∈ os := by
              rw [e]
              exact List.mem_map_of_mem ht
            rw [← hos] at mem
            exact fold_fine (.inl rfl) (fun u hu => absurd hu (by simp)) t mem
          · cases h
  · rintro ⟨hf, rfl⟩
    unfold lawReadF
    simp only []
    rw [split_sumText hf.2.2.1 hf.ne, fold_all hf.ne hf.2.2.1]
    have e : (ts.map some).any (·.isNone) = false := by
      rw [List.any_map]
      exact List.any_eq_false.mpr fun t _ => by simp
    have l1 := hf.1
    have l4 := hf.2.1
    have l3 := hf.2.2.2
    rw [if_neg (by rw [e]; simp), if_neg (by rw [List.length_map]; simp; omega), somes, if_neg (by omega), if_pos rfl]
theorem lawRead_eq (x : Str) : lawReadF x = readF x := by
  cases h : lawReadF x with
  | some ts => exact (readF_iff.mpr (lawRead_iff.mp h)).symm
  | none =>
    cases h2 : readF x with
    | none => rfl
    | some ts =>
      rw [lawRead_iff.mpr (readF_iff.mp h2)] at h
      cases h
end LC
namespace LC
open PySem PySem.Spec PyProof.Rows L2 TL
def OptT (K : PySem.W.Frag) (H : Hp) (v : V) : Option Term → Prop
  | none => v = .non
  | some t => TermV K H v t
theorem OptT.same {K : PySem.W.Frag} {H H' : Hp} {v : V} (s : Same H H') : ∀ {o : Option Term}, OptT K H v o → OptT K H' v o
  | none, h => h
  | some _, h => TermV.same h s
structure WordsOk (ws : List Str) : Prop where
  l : ws.length ≤ 1000
  a : ∀ z ∈ ws, asciiB z = true
  n : ∀ z ∈ ws, z.length ≤ 1000
theorem ascii_ok {z : Str} (h : asciiB z = true) : PyData.strOk z = true := by
  unfold PyData.strOk
  rw [Array.all_eq_true_iff_forall_mem]
  intro c hc
  have := of_decide_eq_true (List.all_eq_true.mp h c (Array.mem_def.mp hc))
  exact decide_eq_true (by omega)
def spLawTerm (K : PySem.W.Frag) : Sp := fun vs H Q _ => ∃ (l : Addr) (ws : List Str) (sg : Int), vs = [.ref l, .int sg] ∧ SqL K H l (ws.map V.str) ∧ WordsOk ws ∧ (sg = 1 ∨ sg = -1) ∧ ∀ v H', Same H H' → OptT K H' v (lawTermF ws sg) → Q v H'
theorem evL_mem {α : Type} : ∀ {l : List α} {x : α}, x ∈ evL l → x ∈ l
  | [], _, h => h
  | [_], _, h => h
  | a :: b :: r, x, h => by
    have h : x ∈ a :: evL r := h
    rcases List.mem_cons.mp h with e | h
    · rw [e]
      exact List.mem_cons_self ..
    · exact List.mem_cons_of_mem _ (List.mem_cons_of_mem _ (evL_mem h))
theorem stepE_mem {α : Type} {o : Option Int} {l : List α} {x : α} (h : x ∈ stepE o l) : x ∈ l := by
  cases o with
  | none => exact evL_mem h
  | some _ => exact List.mem_of_mem_drop (evL_mem h)
theorem stepE_map {α β : Type} (f : α → β) (o : Option Int) (l : List α) : stepE o (l.map f) = (stepE o l).map f := by
  cases o with
  | none => exact evL_map f l
  | some _ =>
    show evL ((l.map f).drop 1) = (evL (l.drop 1)).map f
    rw [← List.map_drop, evL_map]
theorem filter_take {α : Type} {p : α → Bool} {l : List α} {i : Nat} {c : α} (h : l[i]? = some c) : ((l.take (i + 1)).filter p) = (l.take i).filter p ++ (if p c = true then [c] else []) := by
  rw [take_next h, List.filter_append]
  congr 1
  rw [List.filter_cons]
  rfl
section
variable {P : Program} {w : World} {K : PySem.W.Frag} {mg : Str → Option Value} {base : Heap}
abbrev s_term : Stmt := topS 54
theorem sc_term : FnScope ["words", "sign", "parts", "factor", "word"] ["words", "sign"] (defScope s_term) := ⟨rfl, rfl, rfl, by decide +kernel, rfl, by decide +kernel, by decide +kernel⟩
theorem ok_law_term {f : Addr} {fd : FuncData} (T : Txt mg) (F : FnP K "_law_term" s_term f fd) (c__law_is_number : Cal P w K mg base CX0 1 "_law_is_number" ["word"] spLawNum) (c__law_is_name : Cal P w K mg base CX0 1 "_law_is_name" ["word"] spLawName) : FnOk P w K mg base CX0 2 f fd ["words", "sign"] (spLawTerm K) := by
  have sc := sc_term
  refine F.ok sc (fun vs H Q E h => ?_) (fun cdv A outer s H vs Q E hr h => ?_)
  · obtain ⟨l, ws, sg, rfl, _⟩ := h
    rfl
  · obtain ⟨l, ws, sg, rfl, hl, wo, sgk, q⟩ := h
    refine ⟨_, PSs.nox (pss_cons (ps_if (PW.pt (pw_or (pt_cmpR op_eq (pe_op op_modN (pe_callTy call_int1 (by rfl) T.n_int (by decide +kernel) (pa_cons (pe_callB call_len (by rfl) T.n_len (by decide +kernel) (pa_cons (pv 0) pa_nil)) pa_nil)) pe_int) pe_int (nomark _)) (pw_or1 (pt_cmpR (op_neD hr.units) (pe_lc (own := [("word", 4)]) (g := (gName 4)) (te := (tVar 4)) (tt := (tTest (tOp rNe (tVar 4) (tC (.str "*"))))) rfl sc.nd (pi_list (pe_step (pv 0) (po_some pe_int))) (blkOk_by (N := ["words", "sign", "parts", "factor", "word"]) (sc := defScope s_term) (by decide +kernel)) (fun _ _ _ _ _ => by exact (pg_name (i := 4) sc.nd rfl (.inl rfl))) (fun _ _ _ _ _ => by exact (pts_one (pt_cmpR op_ne (pv 4) pe_str (nomark _)))) (fun _ _ _ _ _ => by exact (pv 4))) (pe_lst pa_nil) (nomark _)))))
  (pss_one (ps_ret pe_non))
  pss_nil)
(pss_cons (ps_par (i := 2) (j := 3) (by rfl) sc.nd rfl rfl (by decide) rfl rfl (pa_cons (pe_step (pv 0) po_none) (pa_cons (pv 1) pa_nil)) (by rfl))
(Evl.pss_cut (ps_if (pt_val (pe_cal c__law_is_number hr (by rfl) pass0 (pa_cons (pe_ix ix_list (pv 2) pe_int (fun _ _ => rfl)) pa_nil)))
  (pss_one (ps_par (i := 3) (j := 2) (by rfl) sc.nd rfl rfl (by decide) rfl rfl (pa_cons (pe_op op_mul (pv 1) (pe_callTy call_int_str (by rfl) T.n_int (by decide +kernel) (pa_cons (pe_ix ix_list (pv 2) pe_int (fun _ _ => rfl)) pa_nil))) (pa_cons (pe_slice sl_list (pv 2) (po_some pe_int) po_none) pa_nil)) (by rfl)))
  pss_nil)
(pss_cons (ps_if (PW.pt (pw_or (pt_cmpR op_gt (pe_callB call_len (by rfl) T.n_len (by decide +kernel) (pa_cons (pv 2) pa_nil)) pe_int (nomark _)) (pw_or1 (pt_cmpR (op_neD hr.units) (pe_lc (own := [("word", 4)]) (g := (gName 4)) (te := (tVar 4)) (tt := (tNot (tB (tCal spLawName E0 (tCons (tVar 4) tNil))))) rfl sc.nd (pi_list (pv 2)) (blkOk_by (N := ["words", "sign", "parts", "factor", "word"]) (sc := defScope s_term) (by decide +kernel)) (fun _ _ _ _ _ => by exact (pg_name (i := 4) sc.nd rfl (.inl rfl))) (fun _ _ _ _ _ => by exact (pts_one (pt_not (pt_val (pe_cal c__law_is_name hr (by rfl) pass0 (pa_cons (pv 4) pa_nil)))))) (fun _ _ _ _ _ => by exact (pv 4))) (pe_lst pa_nil) (nomark _)))))
  (pss_one (ps_ret pe_non))
  pss_nil)
(pss_one (ps_ret (pe_tup (pa_cons (pv 3) (pa_cons (pe_callTy call_tuple_of (by rfl) T.n_tuple (by decide +kernel) (pa_cons (pv 2) pa_nil)) pa_nil))))))))), ?_⟩
    have l1 := wo.l
    have out : ∀ {o : Option Term}, lawTermF ws sg = o → ∀ v H', Same H H' → OptT K H' v o → Q v H' := fun e => by
      rw [← e]
      exact q
    have fm : ((ws.map V.str).length : Int).fmod 2 = ((ws.length % 2 : Nat) : Int) := by
      rw [List.length_map, Int.fmod_eq_emod_of_nonneg _ (by decide)]
      rfl
    refine ⟨.ref l, rfl, .ref l, _, rfl, .inl ⟨_, hl, rfl⟩, .inl ⟨_, rfl, _, 2, rfl, rfl, (by decide : (2 : Int) ≠ 0), rfl, _, rfl, iteD (fun e0 => ?_) (fun e0 => ?_)⟩⟩
    · have e1 : ((ws.map V.str).length : Int).fmod 2 = 0 := V.int.inj e0
      rw [fm] at e1
      exact out (o := none) (if_pos (.inl (by omega))) _ H (.refl _) rfl
    · have n0 : ¬ ws.length % 2 = 0 := fun e => e0 (by show V.int (((ws.map V.str).length : Int).fmod 2) = _; rw [fm, e]; rfl)
      refine ⟨.ref l, rfl, 1, rfl, l, _, rfl, hl, .inr rfl, fun a na => ?_⟩
      rw [stepE_map]
      generalize hHa : upd H a _ = Ha
      obtain ⟨sa, ea⟩ := alloc_eq na hHa
      have odm : ∀ z ∈ stepE (some 1) ws, z ∈ ws := fun z hz => stepE_mem hz
      have odl : (stepE (some 1) ws).length ≤ 1000 := Nat.le_trans (stepE_len _ _) l1
      generalize hod : stepE (some 1) ws = od at *
      refine ⟨a, rfl, ⟨_, .of ea⟩, fun D nD => ?_⟩
      refine lc_list (K := K) (a := a) (xs := od.map V.str) (fun i H' => Same Ha H' ∧ H' D = some (.lst (((od.take i).filter fun z => decide (z ≠ ("*" : Str))).map V.str))) ⟨same_new nD, upd_same⟩ (fun i H' _ h => .of (h.1 _ _ ea)) ?_ ?_
      · rintro i v H' hi ⟨sm, hD⟩
        rw [List.getElem?_map] at hi
        obtain ⟨z, hz, rfl⟩ := Option.map_eq_some_iff.mp hi
        have ft := filter_take (p := fun z => decide (z ≠ ("*" : Str))) hz
        refine ⟨rfl, .str z, rfl, rfl, _, rfl, ?_⟩
        by_cases e : z = ("*" : Str)
        · rw [decide_eq_true (congrArg V.str e)]
          refine iteF ⟨sm, ?_⟩
          rw [ft, if_neg (by simpa using e), List.append_nil]
          exact hD
        · rw [decide_eq_false (fun w => e (V.str.inj w))]
          refine iteT ⟨_, rfl, _, hD, ?_, fun b o eb => ?_, ?_⟩
          · rw [List.length_map]
            have := List.length_filter_le (fun z => decide (z ≠ ("*" : Str))) (od.take i)
            rw [List.length_take] at this
            exact sz_lt (by omega)
          · rw [upd_ne (ne_of_none eb nD)]
            exact sm b o eb
          · rw [upd_same, ft, if_pos (by simpa using e), List.map_append]
            rfl
      · rintro H' ⟨sm, hD⟩
        rw [List.length_map, List.take_length] at hD
        refine ⟨szn 0, fun le nle => ?_⟩
        generalize hH6 : upd H' le _ = H6
        obtain ⟨s6, e6⟩ := alloc_eq nle hH6
        refine ⟨_, _, .lst (.of (s6 _ _ hD)) (dpAll_strs _), .lst (.of e6) .nil, shaped_strs (fun z hz => ascii_ok (wo.a z (odm z (List.mem_filter.mp hz).1))), rfl, ?_⟩
        rw [eqv_nil]
        cases hf : (od.filter fun z => decide (z ≠ ("*" : Str))) with
        | cons x r =>
          refine ⟨_, rfl, iteT ?_⟩
          refine out (o := none) (if_pos (.inr ?_)) _ H6 ((sa.trans sm).trans s6) rfl
          rw [hod, hf]
          simp
        | nil =>
          refine ⟨_, rfl, iteF ?_⟩
          have t6 := (sa.trans sm).trans s6
          obtain ⟨w0, r0, hev⟩ : ∃ w0 r0, evL ws = w0 :: r0 := by
            cases ws with
            | nil => exact absurd rfl n0
            | cons a b =>
              cases b with
              | nil => exact ⟨a, [], rfl⟩
              | cons c d => exact ⟨a, evL d, rfl⟩
          have evm : ∀ z ∈ w0 :: r0, z ∈ ws := fun z hz => by
            rw [← hev] at hz
            exact evL_mem hz
          have evl : (w0 :: r0).length ≤ 1000 := by
            rw [← hev]
            exact Nat.le_trans (evL_len _) l1
          have ltf : lawTermF ws sg = if 3 < (lawPut sg w0 r0).2.length ∨ (lawPut sg w0 r0).2.filter (fun z => !nameB z) ≠ [] then none else some (lawPut sg w0 r0) := by
            rw [lawTerm_eq, if_neg, hev]
            rintro (e | e)
            · exact n0 e
            · rw [hod] at e
              exact e hf
          refine ⟨.ref l, rfl, l, _, rfl, sql_same t6 hl, .inl rfl, fun pl npl => ?_⟩
          have hse : stepE none (ws.map V.str) = (w0 :: r0).map V.str := by
            rw [stepE_map]
            show (evL ws).map V.str = _
            rw [hev]
          rw [hse]
          generalize hH7 : upd H6 pl _ = H7
          obtain ⟨s7, e7⟩ := alloc_eq npl hH7
          refine ⟨.int sg, rfl, _, _, rfl, ?_⟩
          -- if _law_is_number(parts[0])
          refine ⟨fun σ' H8 => Same H7 H8 ∧ ∃ (pl : Addr) (x : Option V), H8 pl = some (.lst ((lawPut sg w0 r0).2.map V.str)) ∧ σ' = [some (.ref l), some (.int sg), some (.ref pl), some (.int (lawPut sg w0 r0).1), x], ?_, ?_⟩
          · refine ⟨.ref pl, rfl, pl, _, 0, .str w0, rfl, rfl, .of e7, atI_nat (j := 0) rfl, w0, rfl, wo.a w0 (evm w0 (List.mem_cons_self ..)), wo.n w0 (evm w0 (List.mem_cons_self ..)), fun H8 s8 => ⟨_, rfl, ?_⟩⟩
            have e8 := s8 _ _ e7
            cases hn : lawNumB w0 with
            | false =>
              refine iteF ?_
              have e : lawPut sg w0 r0 = (sg, w0 :: r0) := if_neg (by rw [hn]; simp)
              rw [e]
              exact ⟨s8, pl, _, e8, rfl⟩
            | true =>
              refine iteT ?_
              obtain ⟨i1, i2, _, i3, i4⟩ := lawNum_sound hn
              have e : lawPut sg w0 r0 = (sg * lawVal w0, r0) := if_pos hn
              rw [e]
              have cm : CMul sg (lawVal w0) := .inl (by rcases sgk with e | e <;> rw [e] <;> decide)
              refine ⟨.int sg, rfl, .ref pl, rfl, pl, _, 0, .str w0, rfl, rfl, .of e8, atI_nat (j := 0) rfl, w0, _, rfl, i1, i2, _, _, rfl, rfl, cm, ?_⟩
              have cf : cutV ((w0 :: r0).map V.str) (some 1) none = r0.map V.str := cut_from (k := 1) (by simp)
              refine ⟨.ref pl, rfl, 1, rfl, pl, _, rfl, .of e8, fun b nb => ?_⟩
              rw [cf]
              generalize hH9 : upd H8 b _ = H9
              obtain ⟨s9, e9⟩ := alloc_eq nb hH9
              exact ⟨_, _, rfl, s8.trans s9, b, _, e9, rfl⟩
          rintro σ' H8 ⟨s8, pl2, x, e8, rfl⟩
          have t8 := (t6.trans s7).trans s8
          have pm : ∀ z ∈ (lawPut sg w0 r0).2, z ∈ ws := fun z hz => by
            unfold lawPut at hz
            split at hz
            · exact evm z (List.mem_cons_of_mem _ hz)
            · exact evm z hz
          have pl1 : (lawPut sg w0 r0).2.length ≤ 1000 := by
            unfold lawPut
            split
            · exact Nat.le_trans (Nat.le_succ _) evl
            · exact evl
          generalize lawPut sg w0 r0 = fn at *
          obtain ⟨fc, ns⟩ := fn
          have pl1 : ns.length ≤ 1000 := pl1
          have pm : ∀ z ∈ ns, z ∈ ws := pm
          have e8 : H8 pl2 = some (.lst (ns.map V.str)) := e8
          refine ⟨.ref pl2, rfl, .ref pl2, _, rfl, .inl ⟨_, .of e8, rfl⟩, _, 3, rfl, rfl, _, rfl, ?_⟩
          rw [List.length_map]
          refine iteD (fun g3 => ?_) (fun g3 => ?_)
          · refine out (o := none) ?_ _ H8 t8 rfl
            rw [ltf]
            exact if_pos (.inl (by show 3 < ns.length; omega))
          · refine ⟨.ref pl2, rfl, pl2, rfl, ⟨_, .of e8⟩, fun D nD => ?_⟩
            refine lc_list (K := K) (a := pl2) (xs := ns.map V.str) (fun i H' => Same H8 H' ∧ H' D = some (.lst (((ns.take i).filter fun z => !nameB z).map V.str))) ⟨same_new nD, upd_same⟩ (fun i H' _ h => .of (h.1 _ _ e8)) ?_ ?_
            · rintro i v H' hi ⟨sm, hD⟩
              rw [List.getElem?_map] at hi
              obtain ⟨z, hz, rfl⟩ := Option.map_eq_some_iff.mp hi
              have ft := filter_take (p := fun z => !nameB z) hz
              have zw := pm z (List.mem_of_getElem? hz)
              refine ⟨rfl, .str z, rfl, z, rfl, wo.a z zw, wo.n z zw, fun H9 s9 => ⟨_, rfl, ?_⟩⟩
              have hD9 := s9 _ _ hD
              cases hn : nameB z with
              | true =>
                refine iteF ⟨sm.trans s9, ?_⟩
                rw [ft, hn, if_neg (by simp), List.append_nil]
                exact hD9
              | false =>
                refine iteT ⟨_, rfl, _, hD9, ?_, fun b o eb => ?_, ?_⟩
                · rw [List.length_map]
                  have := List.length_filter_le (fun z => !nameB z) (ns.take i)
                  rw [List.length_take] at this
                  exact sz_lt (by omega)
                · rw [upd_ne (ne_of_none eb nD)]
                  exact (sm.trans s9) b o eb
                · rw [upd_same, ft, hn, if_pos (by simp), List.map_append]
                  rfl
            · rintro H' ⟨sm, hD⟩
              rw [List.length_map, List.take_length] at hD
              refine ⟨szn 0, fun le nle => ?_⟩
              generalize hH9 : upd H' le _ = H9
              obtain ⟨s9, e9⟩ := alloc_eq nle hH9
              refine ⟨_, _, .lst (.of (s9 _ _ hD)) (dpAll_strs _), .lst (.of e9) .nil, shaped_strs (fun z hz => ascii_ok (wo.a z (pm z (List.mem_filter.mp hz).1))), rfl, ?_⟩
              rw [eqv_nil]
              have t9 := (t8.trans sm).trans s9
              cases hf2 : (ns.filter fun z => !nameB z) with
              | cons x r =>
                refine ⟨_, rfl, iteT (out (o := none) ?_ _ H9 t9 rfl)⟩
                rw [ltf]
                exact if_pos (.inr (by show ns.filter _ ≠ []; rw [hf2]; simp))
              | nil =>
                refine ⟨_, rfl, iteF ?_⟩
                have eo : lawTermF ws sg = some (fc, ns) := by
                  rw [ltf]
                  exact if_neg (fun w => w.elim (fun z => by have z : 3 < ns.length := z; omega) fun z => z hf2)
                refine ⟨.int fc, rfl, .ref pl2, rfl, pl2, _, rfl, .inl ⟨.of ((sm.trans s9) _ _ e8), fun tt ntt => ?_⟩⟩
                generalize hH10 : upd H9 tt _ = H10
                obtain ⟨s10, e10⟩ := alloc_eq ntt hH10
                refine ⟨szn 2, fun rr nrr => ?_⟩
                generalize hH11 : upd H10 rr _ = H11
                obtain ⟨s11, e11⟩ := alloc_eq nrr hH11
                exact out eo _ H11 ((t9.trans s10).trans s11) ⟨rr, tt, rfl, .of e11, .of (s11 _ _ e10)⟩
end
end LC
namespace LC
open PySem PySem.Spec PyProof.Rows L2 TL
def optD : Option Term → PyData
  | none => .none
  | some t => termD t
theorem opts_dp {K : PySem.W.Frag} {H : Hp} : ∀ {vs : List V} {os : List (Option Term)}, Paired (OptT K H) vs os → DpAll K H vs (os.map optD)
  | _, _, .nil => .nil
  | _, _, .cons (b := none) a r => by
    have a : _ = V.non := a
    subst a
    exact .cons .non (opts_dp r)
  | _, _, .cons (b := some t) a r => .cons (dp_term a) (opts_dp r)
theorem opts_same {K : PySem.W.Frag} {H H' : Hp} (s : Same H H') : ∀ {vs : List V} {os : List (Option Term)}, Paired (OptT K H) vs os → Paired (OptT K H') vs os
  | _, _, .nil => .nil
  | _, _, .cons a r => .cons (a.same s) (opts_same s r)
theorem opts_but {K : PySem.W.Frag} {q : Addr} {xs : List V} {H H' : Hp} (k : But q H H') (hq : H q = some (.lst xs)) : ∀ {vs : List V} {os : List (Option Term)}, Paired (OptT K H) vs os → Paired (OptT K H') vs os
  | _, _, .nil => .nil
  | _, _, .cons (b := none) a r => .cons a (opts_but k hq r)
  | _, _, .cons (b := some t) a r => .cons (TermV.but a k hq) (opts_but k hq r)
theorem opts_some {K : PySem.W.Frag} {H : Hp} : ∀ {vs : List V} {ts : List Term}, Paired (OptT K H) vs (ts.map some) → TermsV K H vs ts
  | [], [], _ => .nil
  | [], _ :: _, h => nomatch h
  | _ :: _, [], h => nomatch h
  | _ :: _, _ :: _, .cons a r => .cons a (opts_some r)
theorem any_none (os : List (Option Term)) : ((os.map optD).any fun z => PyData.eqv z .none) = os.any (·.isNone) := by
  rw [List.any_map]
  congr 1
  funext o
  cases o <;> rfl
theorem units65 {k : Nat} {A : Around} (r : Room k A) : A.units + 65 < cLine := by have := r.un; omega
def OptL (K : PySem.W.Frag) (H H' : Hp) (v : V) : Option (List Term) → Prop
  | none => v = .non
  | some ts => ∃ l us, v = .ref l ∧ H l = none ∧ H' l = some (.lst us) ∧ TermsV K H' us ts
def spLawRead (K : PySem.W.Frag) : Sp := fun vs H Q _ => ∃ x : Str, vs = [.str x] ∧ asciiB x = true ∧ x.length ≤ 900 ∧ ∀ v H', Same H H' → OptL K H H' v (lawReadF x) → Q v H'
theorem mem_joinL {S : List Nat} : ∀ {ps : List (List Nat)} {p : List Nat} {c : Nat}, p ∈ ps → c ∈ p → c ∈ joinL S ps
  | [], _, _, h, _ => nomatch h
  | [x], p, c, h, hc => by
    rw [List.mem_singleton.mp h] at hc
    exact hc
  | x :: y :: r, p, c, h, hc => by
    show c ∈ x ++ (S ++ joinL S (y :: r))
    rcases List.mem_cons.mp h with e | h
    · rw [e] at hc
      exact List.mem_append_left _ hc
    · exact List.mem_append_right _ (List.mem_append_right _ (mem_joinL h hc))
theorem split_ascii {x : Str} (h : asciiB x = true) : ∀ z ∈ Txt.split x " ", asciiB z = true := fun z hz => by
  refine List.all_eq_true.mpr fun c hc => List.all_eq_true.mp h c ?_
  have e := join_words x
  have e2 : tl x = joinL [32] ((Txt.split x " ").map tl) := by
    have e3 := congrArg tl e
    rw [join_eq, tl_join, tl_sp] at e3
    exact e3.symm
  have m : c ∈ tl x := by
    rw [e2]
    exact mem_joinL (List.mem_map_of_mem hz) hc
  exact m
section
variable {P : Program} {w : World} {K : PySem.W.Frag} {mg : Str → Option Value} {base : Heap}
abbrev s_read : Stmt := topS 55
theorem sc_read : FnScope ["text", "found", "some", "sign", "word"] ["text"] (defScope s_read) := ⟨rfl, rfl, rfl, by decide +kernel, rfl, by decide +kernel, by decide +kernel⟩
theorem ok_law_read {f : Addr} {fd : FuncData} (T : Txt mg) (F : FnP K "_law_read" s_read f fd) (c__law_term : Cal P w K mg base CX0 2 "_law_term" ["words", "sign"] (spLawTerm K)) (c__law_unlike : Cal P w K mg base CX0 2 "_law_unlike" ["terms"] (spUnlike K)) (c__law_text : Cal P w K mg base CX0 2 "_law_text" ["terms"] (spLawText K)) : FnOk P w K mg base CX0 3 f fd ["text"] (spLawRead K) := by
  have sc := sc_read
  refine F.ok sc (fun vs H Q E h => ?_) (fun cdv A outer s H vs Q E hr h => ?_)
  · obtain ⟨x, rfl, _⟩ := h
    rfl
  · obtain ⟨x, rfl, ax, lx, q⟩ := h
    refine ⟨_, PSs.nox (Evl.pss_cut (ps_par3 (i := 1) (j := 2) (l := 3) (by rfl) sc.nd rfl rfl rfl (by decide) (by decide) (by decide) rfl rfl rfl (pa_cons (pe_lst pa_nil) (pa_cons (pe_lst pa_nil) (pa_cons pe_int pa_nil))) (by rfl))
(pss_cons (ps_for PassesOwn.never rfl (pi_list (pe_op op_cat (pe_bm PySem.F.plainAttrs_str PySem.F.slot_str_split PySem.F.type_str_split mt_split (pv 0) (pa_cons pe_str pa_nil)) (pe_lst (pa_cons pe_str pa_nil)))) (pg_name (i := 4) sc.nd rfl (.inl rfl))
  (pss_one (ps_if (pt_cmpR op_in_seq (pv 4) (pe_tup (pa_cons pe_str (pa_cons pe_str pa_nil))) (by rfl))
    (pss_cons (ps_expr (pe_bm PySem.F.plainAttrs_list PySem.F.slot_list_append PySem.F.type_list_append mt_append (pv 1) (pa_cons (pe_cal c__law_term hr (by rfl) pass0 (pa_cons (pv 2) (pa_cons (pv 3) pa_nil))) pa_nil)))
    (pss_one (ps_par (i := 2) (j := 3) (by rfl) sc.nd rfl rfl (by decide) rfl rfl (pa_cons (pe_lst pa_nil) (pa_cons (pe_ifExp (pt_cmpR op_eq (pv 4) pe_str (nomark _)) (pe_un un_neg pe_int) pe_int) pa_nil)) (by rfl))))
    (pss_one (ps_expr (pe_bm PySem.F.plainAttrs_list PySem.F.slot_list_append PySem.F.type_list_append mt_append (pv 2) (pa_cons (pv 4) pa_nil)))))))
(pss_cons (ps_if (PW.pt (pw_or (pt_cmpR (op_inD (units65 hr)) pe_non (pv 1) (by rfl)) (pw_or (pt_not (pt_chain op_le op_le pe_int (pe_callB call_len (by rfl) T.n_len (by decide +kernel) (pa_cons (pv 1) pa_nil)) pe_int)) (pw_or1 (pt_cmpR op_gt (pe_callB call_len (by rfl) T.n_len (by decide +kernel) (pa_cons (pe_cal c__law_unlike hr (by rfl) pass0 (pa_cons (pv 1) pa_nil)) pa_nil)) pe_int (nomark _))))))
  (pss_one (ps_ret pe_non))
  pss_nil)
(pss_one (ps_ret (pe_ifExp (pt_cmpR op_eq (pe_cal c__law_text hr (by rfl) pass0 (pa_cons (pv 1) pa_nil)) (pv 0) (nomark _)) (pv 1) pe_non)))))), ?_⟩
    obtain ⟨w1, w2⟩ := words_few x
    have wa := split_ascii ax
    refine ⟨fun σ' H1 => Same H H1 ∧ ∃ fo so : Addr, H fo = none ∧ H so = none ∧ fo ≠ so ∧ H1 fo = some (.lst []) ∧ H1 so = some (.lst []) ∧ σ' = [some (.str x), some (.ref fo), some (.ref so), some (.int 1), none], ?_, ?_⟩
    · refine ⟨szn 0, fun fo nfo => ?_⟩
      generalize hHa : upd H fo _ = Ha
      obtain ⟨sa, ea⟩ := alloc_eq nfo hHa
      refine ⟨szn 0, fun so nso => ?_⟩
      generalize hHb : upd Ha so _ = Hb
      obtain ⟨sb, eb⟩ := alloc_eq nso hHb
      exact ⟨_, _, _, rfl, sa.trans sb, fo, so, nfo, none_back sa nso, (new_ne ea nso).symm, sb _ _ ea, eb, rfl⟩
    rintro σ' H1 ⟨s1, fo, so, nfo, nso, fs, hfo, hso, rfl⟩
    refine ⟨.str x, rfl, rfl, x, " ", rfl, rfl, rfl, sz_le (by omega), fun a na => ?_⟩
    generalize hHa : upd H1 a _ = Ha
    obtain ⟨sa, ea⟩ := alloc_eq na hHa
    refine ⟨szn 1, fun b nb => ?_⟩
    generalize hHb : upd Ha b _ = Hb
    obtain ⟨sb, eb⟩ := alloc_eq nb hHb
    generalize hW : Txt.split x " " = W at *
    have eW : W.map V.str ++ [.str "+"] = (W ++ [("+" : Str)]).map V.str := by
      rw [List.map_append]
      rfl
    refine ⟨a, b, _, _, rfl, rfl, sb _ _ ea, eb, sz_le (by rw [List.length_map]; show W.length + 1 ≤ 100000; omega), fun wl nwl => ?_⟩
    rw [eW]
    generalize hHc : upd Hb wl _ = Hc
    obtain ⟨scc, ec⟩ := alloc_eq nwl hHc
    have s1c := (sa.trans sb).trans scc
    have lW : (W ++ [("+" : Str)]).length ≤ 902 := by
      rw [List.length_append]
      show W.length + 1 ≤ 902
      omega
    have aW : ∀ z ∈ W ++ [("+" : Str)], asciiB z = true ∧ z.length ≤ 1000 := fun z hz => by
      rcases List.mem_append.mp hz with hz | hz
      · exact ⟨wa z hz, Nat.le_trans (w2 z hz) (by omega)⟩
      · rw [List.mem_singleton.mp hz]
        exact ⟨by decide +kernel, by decide⟩
    generalize hW2 : W ++ [("+" : Str)] = W2 at *
    refine ⟨wl, rfl, ⟨_, .of ec⟩, for_list (K := K) (a := wl) (xs := W2.map V.str) (fun i σ H' => Same H H' ∧ H' wl = some (.lst (W2.map V.str)) ∧ ∃ (so : Addr) (vs : List V) (os : List (Option Term)) (ac : List Str) (sg : Int) (xw : Option V), H so = none ∧ fo ≠ so ∧ wl ≠ so ∧ wl ≠ fo ∧ H' fo = some (.lst vs) ∧ Paired (OptT K H') vs os ∧ H' so = some (.lst (ac.map V.str)) ∧ os.length ≤ i ∧ ac.length ≤ i ∧ (∀ z ∈ ac, asciiB z = true ∧ z.length ≤ 1000) ∧ (sg = 1 ∨ sg = -1) ∧ lawFoldF (W2.drop i) os ac sg = lawFoldF W2 [] [] 1 ∧ σ = [some (.str x), some (.ref fo), some (.ref so), some (.int sg), xw]) ?_ (fun i σ H' _ h => .of h.2.1) ?_ ?_⟩
    · exact ⟨s1.trans s1c, ec, so, [], [], [], 1, none, nso, fs, new_ne ((sa.trans sb) _ _ hso) nwl, new_ne ((sa.trans sb) _ _ hfo) nwl, s1c _ _ hfo, .nil, s1c _ _ hso, Nat.zero_le _, Nat.zero_le _, (fun z hz => nomatch hz), .inl rfl, rfl, rfl⟩
    · rintro i v σ H' hi ⟨sm, hwl, so, vs, os, ac, sg, xw, nso, fs, ws, wf, hfo, hos, hso, lo, la, aa, sgk, fold, rfl⟩
      rw [List.getElem?_map] at hi
      obtain ⟨z, hz, rfl⟩ := Option.map_eq_some_iff.mp hi
      have zW := aW z (List.mem_of_getElem? hz)
      have il : i < W2.length := (List.getElem?_eq_some_iff.mp hz).1
      rw [drop_at hz] at fold
      refine ⟨.str z, rfl, szn 2, fun t nt => ?_⟩
      generalize hHd : upd H' t _ = Hd
      obtain ⟨sd, ed⟩ := alloc_eq nt hHd
      refine ⟨t, _, rfl, .inr (.of ed), rfl, rfl, _, rfl, ?_⟩
      have hfod := sd _ _ hfo
      have hsod := sd _ _ hso
      have wo : WordsOk ac := ⟨by omega, fun y hy => (aa y hy).1, fun y hy => (aa y hy).2⟩
      have inE : inV (.str z) [.str "+", .str "-"] = decide (z = "+" ∨ z = "-") := by
        show ((("+" : Str) == z) || ((("-" : Str) == z) || false)) = _
        rw [Bool.or_false, Bool.decide_or]
        congr 1
        · exact decide_eq_decide.mpr ⟨Eq.symm, Eq.symm⟩
        · exact decide_eq_decide.mpr ⟨Eq.symm, Eq.symm⟩
      by_cases c : z = "+" ∨ z = "-"
      · rw [if_neg Bool.false_ne_true, inE, decide_eq_true c]
        have ef : lawFoldF (z :: W2.drop (i + 1)) os ac sg = lawFoldF (W2.drop (i + 1)) (os ++ [lawTermF ac sg]) [] (if z = "-" then -1 else 1) := if_pos c
        rw [ef] at fold
        refine iteT ?_
        refine ⟨.ref fo, rfl, .inl ⟨rfl, _, .inl (.inl hfod)⟩, .ref so, rfl, .int sg, rfl, so, ac, sg, rfl, .of hsod, wo, sgk, fun v H5 s5 ov => ?_⟩
        have hfo5 := s5 _ _ hfod
        refine ⟨fo, _, _, rfl, rfl, hfo5, sz_lt (by rw [hos.length]; omega), ?_⟩
        generalize hH6 : upd H5 fo _ = H6
        obtain ⟨k6, e6⟩ := put_but hH6
        refine ⟨szn 0, fun s7 ns7 => ?_⟩
        generalize hH7 : upd H6 s7 _ = H7
        obtain ⟨sm7, e7⟩ := alloc_eq ns7 hH7
        have hwl5 := s5 _ _ (sd _ _ hwl)
        have hwl6 := k6 _ _ wf hwl5
        have smH : Same H H7 := fun b o e => sm7 _ _ (k6 _ _ (ne_of_none e nfo) (s5 _ _ (sd _ _ (sm _ _ e))))
        have os7 : Paired (OptT K H7) (vs ++ [v]) (os ++ [lawTermF ac sg]) := opts_same sm7 (opts_but k6 hfo5 (Paired.append (opts_same (sd.trans s5) hos) (.cons ov .nil)))
        have lo7 : (os ++ [lawTermF ac sg]).length ≤ i + 1 := by
          rw [List.length_append]
          show os.length + 1 ≤ i + 1
          omega
        have fin : ∀ sg' : Int, sg' = (if z = "-" then -1 else 1) → (Same H H7 ∧ H7 wl = some (.lst (W2.map V.str)) ∧ ∃ (so : Addr) (vs : List V) (os : List (Option Term)) (ac : List Str) (sg : Int) (xw : Option V), H so = none ∧ fo ≠ so ∧ wl ≠ so ∧ wl ≠ fo ∧ H7 fo = some (.lst vs) ∧ Paired (OptT K H7) vs os ∧ H7 so = some (.lst (ac.map V.str)) ∧ os.length ≤ i + 1 ∧ ac.length ≤ i + 1 ∧ (∀ z ∈ ac, asciiB z = true ∧ z.length ≤ 1000) ∧ (sg = 1 ∨ sg = -1) ∧ lawFoldF (W2.drop (i + 1)) os ac sg = lawFoldF W2 [] [] 1 ∧ [some (.str x), some (.ref fo), some (.ref s7), some (.int sg'), some (.str z)] = [some (.str x), some (.ref fo), some (.ref so), some (.int sg), xw]) := fun sg' es => by
          refine ⟨smH, sm7 _ _ hwl6, s7, _, _, [], sg', _, ?_, (new_ne e6 ns7).symm, (new_ne hwl6 ns7).symm, wf, sm7 _ _ e6, os7, e7, lo7, Nat.zero_le _, (fun z hz => nomatch hz), by rw [es]; split <;> simp, by rw [es]; exact fold, rfl⟩
          cases e : H s7 with
          | none => rfl
          | some o =>
            have := k6 _ _ (ne_of_none e nfo) (s5 _ _ (sd _ _ (sm _ _ e)))
            rw [ns7] at this
            cases this
        refine ⟨.str z, rfl, rfl, _, rfl, ?_⟩
        by_cases d : z = "-"
        · rw [decide_eq_true (congrArg V.str d)]
          refine iteT ⟨1, rfl, _, _, rfl, ?_⟩
          exact fin (-1) (if_pos d).symm
        · rw [decide_eq_false (fun w => d (V.str.inj w))]
          refine iteF ⟨_, _, rfl, ?_⟩
          exact fin 1 (if_neg d).symm
      · rw [if_neg Bool.false_ne_true, inE, decide_eq_false c]
        have ef : lawFoldF (z :: W2.drop (i + 1)) os ac sg = lawFoldF (W2.drop (i + 1)) os (ac ++ [z]) sg := if_neg c
        rw [ef] at fold
        refine iteF ?_
        refine ⟨.ref so, rfl, .inl ⟨rfl, _, .inl (.inl hsod)⟩, .str z, rfl, so, _, _, rfl, rfl, hsod, sz_lt (by rw [List.length_map]; omega), ?_⟩
        generalize hH6 : upd Hd so _ = H6
        obtain ⟨k6, e6⟩ := put_but hH6
        have e6 : H6 so = some (.lst ((ac ++ [z]).map V.str)) := by
          rw [e6, List.map_append]
          rfl
        refine ⟨fun b o e => k6 _ _ (ne_of_none e nso) (sd _ _ (sm _ _ e)), k6 _ _ ws (sd _ _ hwl), so, vs, os, ac ++ [z], sg, _, nso, fs, ws, wf, k6 _ _ fs hfod, opts_but k6 hsod (opts_same sd hos), e6, by omega, ?_, fun y hy => ?_, sgk, fold, rfl⟩
        · rw [List.length_append]
          show ac.length + 1 ≤ i + 1
          omega
        · rcases List.mem_append.mp hy with hy | hy
          · exact aa y hy
          · rw [List.mem_singleton.mp hy]
            exact zW
    rintro σ Hd ⟨sm, hwl, so, vs, os, ac, sg, xw, nso, fs, ws, wf, hfo, hos, hso, lo, la, aa, sgk, fold, rfl⟩
    rw [List.length_map, List.drop_length] at fold
    have fold : os = lawFoldF W2 [] [] 1 := fold
    have tf : ∀ t, some t ∈ os → TermFine t := fun t ht => by
      rw [fold] at ht
      exact fold_fine (.inl rfl) (fun u hu => absurd hu (by simp)) t ht
    have rF : lawReadF x = (if os.any (·.isNone) = true then none else if ¬ (1 ≤ os.length ∧ os.length ≤ 4) then none else if 3 < (unlike (os.filterMap id)).length then none else if sumText (os.filterMap id) = x then some (os.filterMap id) else none) := by
      unfold lawReadF
      simp only []
      rw [hW, hW2, ← fold]
    rw [rF] at q
    clear rF fold
    have shw : Shw (.list (os.map optD)) 3 (301 * os.length) := Shw.lst (ShwL.all fun o ho => by
      cases o with
      | none => exact Shw.non.mono (by decide) (by decide)
      | some t => exact shw_term (tf t ho))
    refine ⟨.ref fo, rfl, .none, os.map optD, .non, .lst (.of hfo) (opts_dp hos), rfl, shw.shaped (by decide), _, rfl, ?_⟩
    rw [any_none]
    have lv : vs.length = os.length := hos.length
    by_cases ha : os.any (·.isNone) = true
    · rw [if_pos ha] at q
      rw [ha]
      exact iteT (iteT (q _ Hd sm rfl))
    · rw [if_neg ha] at q
      have ha : os.any (·.isNone) = false := by
        cases h : os.any (·.isNone) with
        | false => rfl
        | true => exact absurd h ha
      have eS := some_all ha
      generalize os.filterMap id = ts at *
      have lts : ts.length = os.length := by
        rw [eS, List.length_map]
      rw [ha]
      refine iteF ?_
      have no : ¬ (1 ≤ os.length ∧ os.length ≤ 4) → Q .non Hd := fun n => by
        rw [if_pos n] at q
        exact q _ Hd sm rfl
      refine ⟨.ref fo, rfl, .ref fo, _, rfl, .inl ⟨_, .of hfo, rfl⟩, 1, _, rfl, rfl, _, rfl, iteD (fun e1 => ?_) (fun e1 => ?_)⟩
      · refine ⟨_, 4, rfl, rfl, _, rfl, iteND (fun e2 => ?_) (fun e2 => ?_)⟩
        · exact iteT (no (by omega))
        · have l4 : 1 ≤ os.length ∧ os.length ≤ 4 := by omega
          rw [if_neg (not_not_intro l4)] at q
          rw [eS] at hos
          have hts := opts_some hos
          have tf2 : ∀ t ∈ ts, TermFine t := fun t ht => tf t (by rw [eS]; exact List.mem_map_of_mem ht)
          refine ⟨.ref fo, rfl, fo, vs, ts, rfl, .of hfo, hts, by omega, fun t ht => by have := (tf2 t ht).2.2.1; omega, fun ul He nul se eul => ?_⟩
          have hfoe := se _ _ hfo
          have htse := hts.same se
          refine ⟨.ref ul, _, rfl, .inl ⟨_, .of eul, rfl⟩, _, 3, rfl, rfl, _, rfl, ?_⟩
          rw [List.length_map]
          refine iteD (fun e3 => ?_) (fun e3 => ?_)
          · rw [if_pos (by omega)] at q
            exact q _ He (sm.trans se) rfl
          · rw [if_neg (by omega)] at q
            refine ⟨.ref fo, rfl, fo, vs, ts, rfl, .of hfoe, htse, by omega, tf2, fun Hf sf => ?_⟩
            have smf := (sm.trans se).trans sf
            refine ⟨.str x, rfl, rfl, _, rfl, ?_⟩
            by_cases d : sumText ts = x
            · rw [if_pos d] at q
              rw [decide_eq_true (congrArg V.str d)]
              exact iteT ⟨.ref fo, rfl, q _ Hf smf ⟨fo, vs, rfl, nfo, sf _ _ hfoe, htse.same sf⟩⟩
            · rw [if_neg d] at q
              rw [decide_eq_false (fun w => d (V.str.inj w))]
              exact iteF (q _ Hf smf rfl)
      · exact ⟨_, rfl, iteT (iteT (no (by omega)))⟩
end
end LC
namespace LC
open PySem PySem.Spec PyProof.Rows L2 TL
def M1 : List Str := ["", "+", "-", "*", "0", "1", "-1", "-0", "007", "00", "1000000", "999999", "-999999", "a", "b", "A"]
def M2 : List Str := ["abcdefg", "a1", "=", "+1", "1.0", "a\n", "\n", "--1", "r", "zzzzzz", "2", "-2", "1_0"]
theorem M1_ok : ∀ z ∈ M1, asciiB z = true ∧ z.length ≤ 8 := by decide +kernel
theorem M2_ok : ∀ z ∈ M2, asciiB z = true ∧ z.length ≤ 8 := by decide +kernel
/-- the length of a text of these words, and one more -/
def tot (ws : List Str) : Nat := (ws.map (·.length)).sum + ws.length
theorem ixN_of {n k : Nat} (h : k < n) : ixN n (k : Int) = some k := by
  unfold ixN
  rw [if_pos (by omega), if_pos (by omega)]
  simp
theorem tot_append (a b : List Str) : tot (a ++ b) = tot a + tot b := by
  unfold tot
  rw [List.map_append, List.sum_append, List.length_append]
  omega
theorem tot_cons (a : Str) (b : List Str) : tot (a :: b) = a.length + 1 + tot b := by
  unfold tot
  rw [List.map_cons, List.sum_cons, List.length_cons]
  omega
theorem tot_nil : tot [] = 0 := rfl
theorem join_tot (ws : List Str) : (Txt.join " " ws).length ≤ tot ws := by
  have d := StrLaws.join_length_le " " ws
  rw [← StrLaws.glued_eq_join] at d
  refine Nat.le_trans d ?_
  have c : (" " : Str).length = 1 := rfl
  rw [c]
  unfold tot
  omega
theorem joinL_len : ∀ {ps : List (List Nat)}, ps ≠ [] → (joinL [32] ps).length + 1 = (ps.map (·.length)).sum + ps.length
  | [], h => absurd rfl h
  | [a], _ => by
    show a.length + 1 = a.length + 0 + 1
    omega
  | a :: b :: r, _ => by
    have e := joinL_len (ps := b :: r) (by simp)
    show (a ++ ([32] ++ joinL [32] (b :: r))).length + 1 = (a.length + ((b :: r).map (·.length)).sum) + ((b :: r).length + 1)
    rw [List.length_append, List.length_append]
    show a.length + (1 + (joinL [32] (b :: r)).length) + 1 = _
    omega
theorem split_tot (x : Str) : tot (Txt.split x " ") ≤ x.length + 1 := by
  by_cases h : Txt.split x " " = []
  · rw [h, tot_nil]
    omega
  · have e := join_words x
    have e2 : tl x = joinL [32] ((Txt.split x " ").map tl) := by
      have e3 := congrArg tl e
      rw [join_eq, tl_join, tl_sp] at e3
      exact e3.symm
    have l := joinL_len (ps := (Txt.split x " ").map tl) (fun w => h (List.map_eq_nil_iff.mp w))
    rw [← e2, List.map_map, List.length_map, ← len_tl] at l
    have f : ((Txt.split x " ").map ((·.length) ∘ tl)) = (Txt.split x " ").map (·.length) := List.map_congr_left fun z _ => rfl
    rw [f] at l
    unfold tot
    omega
theorem split_ne (x : Str) : Txt.split x " " ≠ [] := fun h => by
  have e := join_words x
  rw [h] at e
  have ex : x = "" := by
    rw [← e]
    rfl
  rw [ex] at h
  exact absurd h (by decide +kernel)
theorem join_ascii {ws : List Str} (h : ∀ z ∈ ws, asciiB z = true) : asciiB (Txt.join " " ws) = true := by
  refine List.all_eq_true.mpr fun c hc => decide_eq_true ?_
  have hc : c ∈ tl (Txt.join " " ws) := hc
  rw [join_eq, tl_join, tl_sp] at hc
  refine joinL_all (p := fun c => c < 128) (fun d hd => by rw [List.mem_singleton.mp hd]; decide) (fun y hy d hd => ?_) c hc
  obtain ⟨z, hz, rfl⟩ := List.mem_map.mp hy
  exact of_decide_eq_true (List.all_eq_true.mp (h z hz) d hd)
theorem tot_take_drop (ws : List Str) (k : Nat) : tot (ws.take k) + tot (ws.drop k) = tot ws := by
  rw [← tot_append, List.take_append_drop]
theorem tot_set {ws : List Str} {k : Nat} {a b : Str} (h : ws[k]? = some a) : tot (ws.set k b) + a.length = tot ws + b.length := by
  induction ws generalizing k with
  | nil => cases h
  | cons c r ih =>
    cases k with
    | zero =>
      have e : c = a := Option.some.inj h
      show tot (b :: r) + a.length = tot (c :: r) + b.length
      rw [tot_cons, tot_cons, e]
      omega
    | succ k =>
      have := ih (k := k) h
      show tot (c :: r.set k b) + a.length = tot (c :: r) + b.length
      rw [tot_cons, tot_cons]
      omega
section
variable {P : Program} {w : World} {K : PySem.W.Frag} {mg : Str → Option Value} {base : Heap}
def spBent : Sp := fun vs H Q _ => ∃ (p c : Addr) (n : Nat) (x : Str), vs = [.ref p, .str x] ∧ Pen H p c n ∧ n ≤ 80000 ∧ asciiB x = true ∧ x.length ≤ 450 ∧
  ∀ (y : Str) (H' : Hp), asciiB y = true → y.length ≤ 2 * x.length + 12 → But p H H' → Pen H' p c (n + 5) → Q (.str y) H'
abbrev s_bent : Stmt := topS 56
theorem sc_bent : FnScope ["pen", "text", "words", "at", "other", "way", "menu", "odd", "found"] ["pen", "text"] (defScope s_bent) := ⟨rfl, rfl, rfl, by decide +kernel, rfl, by decide +kernel, by decide +kernel⟩
theorem ok_bent {f : Addr} {fd : FuncData} (T : Txt mg) (F : FnP K "_law_bent" s_bent f fd) (c__law_draw : Cal P w K mg base CX0 2 "_law_draw" ["pen", "many"] spDraw) (c__law_pick : Cal P w K mg base CX0 2 "_law_pick" ["pen", "some"] spPick) : FnOk P w K mg base CX0 3 f fd ["pen", "text"] spBent := by
  have sc := sc_bent
  refine F.ok sc (fun vs H Q E h => ?_) (fun cdv A outer s H vs Q E hr h => ?_)
  · obtain ⟨p, c, n, x, rfl, _⟩ := h
    rfl
  · obtain ⟨p, c, n, x, rfl, hP, hn, ax, lx, q⟩ := h
    refine ⟨_, PSs.nox (Evl.pss_cut (ps_set (i := 2) sc.nd rfl (.inl rfl) (pe_bm PySem.F.plainAttrs_str PySem.F.slot_str_split PySem.F.type_str_split mt_split (pv 1) (pa_cons pe_str pa_nil)))
(Evl.pss_cut (ps_par3 (i := 3) (j := 4) (l := 5) (by rfl) sc.nd rfl rfl rfl (by decide) (by decide) (by decide) rfl rfl rfl (pa_cons (pe_cal c__law_draw hr (by rfl) pass0 (pa_cons (pv 0) (pa_cons (pe_callB call_len (by rfl) T.n_len (by decide +kernel) (pa_cons (pv 2) pa_nil)) pa_nil))) (pa_cons (pe_cal c__law_draw hr (by rfl) pass0 (pa_cons (pv 0) (pa_cons (pe_callB call_len (by rfl) T.n_len (by decide +kernel) (pa_cons (pv 2) pa_nil)) pa_nil))) (pa_cons (pe_cal c__law_draw hr (by rfl) pass0 (pa_cons (pv 0) (pa_cons pe_int pa_nil))) pa_nil))) (by rfl))
(Evl.pss_cut (ps_set (i := 6) sc.nd rfl (.inl rfl) (pe_lst (pa_cons pe_str (pa_cons pe_str (pa_cons pe_str (pa_cons pe_str (pa_cons pe_str (pa_cons pe_str (pa_cons pe_str (pa_cons pe_str (pa_cons pe_str (pa_cons pe_str (pa_cons pe_str (pa_cons pe_str (pa_cons pe_str (pa_cons pe_str (pa_cons pe_str (pa_cons pe_str pa_nil))))))))))))))))))
(Evl.pss_cut (ps_set (i := 6) sc.nd rfl (.inl rfl) (pe_op op_cat (pv 6) (pe_lst (pa_cons pe_str (pa_cons pe_str (pa_cons pe_str (pa_cons pe_str (pa_cons pe_str (pa_cons pe_str (pa_cons pe_str (pa_cons pe_str (pa_cons pe_str (pa_cons pe_str (pa_cons pe_str (pa_cons pe_str (pa_cons pe_str pa_nil))))))))))))))))
(Evl.pss_cut (ps_set (i := 6) sc.nd rfl (.inl rfl) (pe_op op_cat (pv 6) (pe_lst (pa_cons (pe_ix ix_list (pv 2) (pv 4) (fun _ _ => rfl)) (pa_cons (pe_op op_add_str pe_str (pe_ix ix_list (pv 2) (pv 4) (fun _ _ => rfl))) pa_nil)))))
(Evl.pss_cut (ps_set (i := 7) sc.nd rfl (.inl rfl) (pe_cal c__law_pick hr (by rfl) pass0 (pa_cons (pv 0) (pa_cons (pv 6) pa_nil))))
(pss_cons (ps_if (pt_cmpR op_eq (pv 5) pe_int (nomark _))
  (pss_one (ps_ret (pe_bm PySem.F.plainAttrs_str PySem.F.slot_str_join PySem.F.type_str_join mt_join pe_str (pa_cons (pe_op op_cat (pe_slice sl_list (pv 2) po_none (po_some (pv 3))) (pe_slice sl_list (pv 2) (po_some (pe_op op_add (pv 3) pe_int)) po_none)) pa_nil))))
  pss_nil)
(pss_cons (ps_if (pt_cmpR op_eq (pv 5) pe_int (nomark _))
  (pss_one (ps_ret (pe_bm PySem.F.plainAttrs_str PySem.F.slot_str_join PySem.F.type_str_join mt_join pe_str (pa_cons (pe_op op_cat (pe_op op_cat (pe_slice sl_list (pv 2) po_none (po_some (pv 3))) (pe_lst (pa_cons (pv 7) pa_nil))) (pe_slice sl_list (pv 2) (po_some (pv 3)) po_none)) pa_nil))))
  pss_nil)
(pss_cons (ps_if (pt_cmpR op_eq (pv 5) pe_int (nomark _))
  (pss_one (ps_ret (pe_bm PySem.F.plainAttrs_str PySem.F.slot_str_join PySem.F.type_str_join mt_join pe_str (pa_cons (pe_op op_cat (pv 2) (pe_lst (pa_cons (pe_cal c__law_pick hr (by rfl) pass0 (pa_cons (pv 0) (pa_cons (pe_lst (pa_cons pe_str (pa_cons pe_str (pa_cons pe_str pa_nil)))) pa_nil))) (pa_cons (pv 7) pa_nil)))) pa_nil))))
  pss_nil)
(pss_cons (ps_if (pt_cmpR op_eq (pv 5) pe_int (nomark _))
  (pss_cons (ps_set (i := 8) sc.nd rfl (.inl rfl) (pe_callTy call_list_of (by rfl) T.n_list (by decide +kernel) (pa_cons (pv 2) pa_nil)))
  (pss_cons (ps_asg (pe_tup (pa_cons (pe_ix ix_list (pv 2) (pv 4) (fun _ _ => rfl)) (pa_cons (pe_ix ix_list (pv 2) (pv 3) (fun _ _ => rfl)) pa_nil))) (pg_tup rfl (pgs_cons (pg_sub (pv 8) (pv 3) set_list) (pgs_cons (pg_sub (pv 8) (pv 4) set_list) pgs_nil))))
  (pss_one (ps_ret (pe_bm PySem.F.plainAttrs_str PySem.F.slot_str_join PySem.F.type_str_join mt_join pe_str (pa_cons (pv 8) pa_nil))))))
  pss_nil)
(pss_cons (ps_if (pt_cmpR op_eq (pv 5) pe_int (nomark _))
  (pss_one (ps_ret (pe_op op_add_str (pv 1) (pe_ix ix_list (pe_lst (pa_cons pe_str (pa_cons pe_str (pa_cons pe_str (pa_cons pe_str (pa_cons pe_str pa_nil)))))) (pe_cal c__law_draw hr (by rfl) pass0 (pa_cons (pv 0) (pa_cons pe_int pa_nil))) (fun _ _ => rfl)))))
  pss_nil)
(pss_one (ps_ret (pe_bm PySem.F.plainAttrs_str PySem.F.slot_str_join PySem.F.type_str_join mt_join pe_str (pa_cons (pe_op op_cat (pe_op op_cat (pe_slice sl_list (pv 2) po_none (po_some (pv 3))) (pe_lst (pa_cons (pv 7) pa_nil))) (pe_slice sl_list (pv 2) (po_some (pe_op op_add (pv 3) pe_int)) po_none)) pa_nil))))))))))))))), ?_⟩
    generalize hW : Txt.split x " " = W at *
    obtain ⟨w1, w2⟩ := words_few x
    have wa := split_ascii ax
    have wt := split_tot x
    have wn := split_ne x
    rw [hW] at w1 w2 wa wt wn
    have W0 : 0 < W.length := List.length_pos_iff.mpr wn
    obtain ⟨px, hp0⟩ := hP.at_
    refine ⟨fun σ' H1 => Same H H1 ∧ ∃ wl : Addr, H wl = none ∧ H1 wl = some (.lst (W.map V.str)) ∧ σ' = [some (.ref p), some (.str x), some (.ref wl), none, none, none, none, none, none], ?_, ?_⟩
    · refine ⟨.str x, rfl, rfl, x, " ", rfl, rfl, rfl, sz_le (by omega), fun wl nwl => ?_⟩
      rw [hW]
      exact ⟨same_new nwl, wl, nwl, upd_same, rfl⟩
    rintro σ' H1 ⟨s1, wl, nwl, hwl, rfl⟩
    have wlp : wl ≠ p := new_ne hp0 nwl
    refine ⟨fun σ' H2 => But p H H2 ∧ Pen H2 p c (n + 3) ∧ H2 wl = some (.lst (W.map V.str)) ∧ ∃ (k j : Nat) (way : Int), k < W.length ∧ j < W.length ∧ 0 ≤ way ∧ way < 8 ∧ σ' = [some (.ref p), some (.str x), some (.ref wl), some (.int (k : Nat)), some (.int (j : Nat)), some (.int way), none, none, none], ?_, ?_⟩
    · refine ⟨.ref p, rfl, .ref wl, rfl, .ref wl, _, rfl, .inl ⟨_, .of hwl, rfl⟩, p, c, n, _, rfl, hP.same s1, by omega, by rw [List.length_map]; omega, small_pow (by omega) (by rw [List.length_map]; omega), fun d Ha d0 d1 ka pena => ?_⟩
      have hwa := ka _ _ wlp hwl
      rw [List.length_map] at d1
      refine ⟨.ref p, rfl, .ref wl, rfl, .ref wl, _, rfl, .inl ⟨_, .of hwa, rfl⟩, p, c, n + 1, _, rfl, pena, by omega, by rw [List.length_map]; omega, small_pow (by omega) (by rw [List.length_map]; omega), fun e Hb e0 e1 kb penb => ?_⟩
      have hwb := kb _ _ wlp hwa
      rw [List.length_map] at e1
      refine ⟨.ref p, rfl, p, c, n + 2, 8, rfl, penb, by omega, by decide, small_pow (by omega) (by omega), fun way Hc y0 y1 kc penc => ⟨_, _, _, rfl, ?_⟩⟩
      obtain ⟨k, rfl⟩ : ∃ k : Nat, d = (k : Int) := ⟨d.toNat, (Int.toNat_of_nonneg d0).symm⟩
      obtain ⟨j, rfl⟩ : ∃ k : Nat, e = (k : Int) := ⟨e.toNat, (Int.toNat_of_nonneg e0).symm⟩
      exact ⟨(((But.same s1).trans ka).trans kb).trans kc, penc, kc _ _ wlp hwb, k, j, way, by omega, by omega, y0, y1, rfl⟩
    rintro σ' H2 ⟨k2, pen2, hw2, k, j, way, kl, jl, y0, y1, rfl⟩
    obtain ⟨wk, hwk⟩ : ∃ z, W[k]? = some z := ⟨_, List.getElem?_eq_getElem kl⟩
    obtain ⟨wj, hwj⟩ : ∃ z, W[j]? = some z := ⟨_, List.getElem?_eq_getElem jl⟩
    have mk := List.mem_of_getElem? hwk
    have mj := List.mem_of_getElem? hwj
    -- menu
    refine ⟨fun σ' H3 => Same H2 H3 ∧ ∃ ml : Addr, H3 ml = some (.lst ((M1).map V.str)) ∧ ml ≠ p ∧ σ' = [some (.ref p), some (.str x), some (.ref wl), some (.int (k : Nat)), some (.int (j : Nat)), some (.int way), some (.ref ml), none, none], ?_, ?_⟩
    · refine ⟨szn 16, fun ml nml => ?_⟩
      exact ⟨same_new nml, ml, by rw [upd_same]; rfl, pen2.newP nml, rfl⟩
    rintro σ' H3 ⟨s3, m3, hm3, mlp3, rfl⟩
    refine ⟨fun σ' H4 => Same H3 H4 ∧ ∃ ml : Addr, H4 ml = some (.lst ((M1 ++ M2).map V.str)) ∧ ml ≠ p ∧ σ' = [some (.ref p), some (.str x), some (.ref wl), some (.int (k : Nat)), some (.int (j : Nat)), some (.int way), some (.ref ml), none, none], ?_, ?_⟩
    · refine ⟨.ref m3, rfl, szn 13, fun ml nml => ?_⟩
      generalize hHa : upd H3 ml _ = Ha
      obtain ⟨sa, ea⟩ := alloc_eq nml hHa
      refine ⟨m3, ml, _, _, rfl, rfl, sa _ _ hm3, ea, sz_le (by show 16 + 13 ≤ 100000; decide), fun m4 nm4 => ?_⟩
      generalize hHb : upd Ha m4 _ = Hb
      obtain ⟨sb, eb⟩ := alloc_eq nm4 hHb
      exact ⟨sa.trans sb, m4, by rw [eb, List.map_append]; rfl, (pen2.same (s3.trans sa)).newP nm4, rfl⟩
    rintro σ' H4 ⟨s4, m4, hm4, mlp4, rfl⟩
    refine ⟨fun σ' H5 => Same H4 H5 ∧ ∃ ml : Addr, H5 ml = some (.lst ((M1 ++ M2 ++ [wj, ("0" : Str) ++ wj]).map V.str)) ∧ ml ≠ p ∧ σ' = [some (.ref p), some (.str x), some (.ref wl), some (.int (k : Nat)), some (.int (j : Nat)), some (.int way), some (.ref ml), none, none], ?_, ?_⟩
    · have hw4 := s4 _ _ (s3 _ _ hw2)
      have gj : atI (W.map V.str) ((j : Nat) : Int) = some (.str wj) := atI_nat (by rw [List.getElem?_map, hwj]; rfl)
      refine ⟨.ref m4, rfl, .ref wl, rfl, .int (j : Nat), rfl, wl, _, (j : Nat), .str wj, rfl, rfl, .of hw4, gj, .ref wl, rfl, .int (j : Nat), rfl, wl, _, (j : Nat), .str wj, rfl, rfl, .of hw4, gj, "0", wj, rfl, rfl, sz_le (by have := w2 wj mj; show 1 + wj.length ≤ 100000; omega), szn 2, fun ml nml => ?_⟩
      generalize hHa : upd H4 ml _ = Ha
      obtain ⟨sa, ea⟩ := alloc_eq nml hHa
      refine ⟨m4, ml, _, _, rfl, rfl, sa _ _ hm4, ea, sz_le (by show 29 + 2 ≤ 100000; decide), fun m5 nm5 => ?_⟩
      generalize hHb : upd Ha m5 _ = Hb
      obtain ⟨sb, eb⟩ := alloc_eq nm5 hHb
      exact ⟨sa.trans sb, m5, by rw [eb, List.map_append]; rfl, (pen2.same ((s3.trans s4).trans sa)).newP nm5, rfl⟩
    rintro σ' H5 ⟨s5, m5, hm5, mlp5, rfl⟩
    have s25 := (s3.trans s4).trans s5
    -- odd
    refine ⟨fun σ' H6 => But p H H6 ∧ Pen H6 p c (n + 4) ∧ H6 wl = some (.lst (W.map V.str)) ∧ ∃ odd : Str, asciiB odd = true ∧ odd.length ≤ x.length + 8 ∧ σ' = [some (.ref p), some (.str x), some (.ref wl), some (.int (k : Nat)), some (.int (j : Nat)), some (.int way), some (.ref m5), some (.str odd), none], ?_, ?_⟩
    · refine ⟨.ref p, rfl, .ref m5, rfl, p, c, n + 3, m5, _, rfl, pen2.same s25, by omega, hm5, mlp5, by rw [List.length_map]; show 0 < 31; decide, by rw [List.length_map]; show 31 ≤ 1000; decide, fun v H6 hv k6 pen6 => ?_⟩
      obtain ⟨odd, ho, rfl⟩ := List.mem_map.mp hv
      refine ⟨(k2.trans (But.same s25)).trans k6, pen6, k6 _ _ wlp (s25 _ _ hw2), odd, ?_⟩
      have ok : asciiB odd = true ∧ odd.length ≤ x.length + 8 := by
        rcases List.mem_append.mp ho with ho | ho
        · rcases List.mem_append.mp ho with ho | ho
          · exact ⟨(M1_ok odd ho).1, Nat.le_trans (M1_ok odd ho).2 (by omega)⟩
          · exact ⟨(M2_ok odd ho).1, Nat.le_trans (M2_ok odd ho).2 (by omega)⟩
        · rcases List.mem_cons.mp ho with e | ho
          · rw [e]
            exact ⟨wa wj mj, Nat.le_trans (w2 wj mj) (by omega)⟩
          · rw [List.mem_singleton.mp ho]
            refine ⟨?_, ?_⟩
            · refine List.all_eq_true.mpr fun d hd => ?_
              have hd : d ∈ tl (("0" : Str) ++ wj) := hd
              rw [tl_append] at hd
              rcases List.mem_append.mp hd with hd | hd
              · exact List.all_eq_true.mp (show asciiB "0" = true by decide +kernel) d hd
              · exact List.all_eq_true.mp (wa wj mj) d hd
            · rw [len_tl, tl_append, List.length_append, ← len_tl, ← len_tl]
              have := w2 wj mj
              show 1 + wj.length ≤ _
              omega
      exact ⟨ok.1, ok.2, rfl⟩
    rintro σ' H6 ⟨k6, pen6, hw6, odd, ao, lo, rfl⟩
    clear hm5 hm4 hm3 s25 s3 s4 s5 k2 hw2 pen2
    have szj : ∀ {ys : List Str}, tot ys ≤ 2 * x.length + 12 → (ys.map (·.length)).sum + ys.length * (" " : Str).length ≤ 16777216 := fun {ys} t => by
      have c : (" " : Str).length = 1 := rfl
      rw [c]
      unfold tot at t
      omega
    have fin : ∀ (ys : List Str) (H7 : Hp), But p H6 H7 → Pen H7 p c (n + 5) → (∀ z ∈ ys, asciiB z = true) → tot ys ≤ 2 * x.length + 12 → Q (.str (Txt.join " " ys)) H7 := fun ys H7 k7 pn a t => q _ H7 (join_ascii a) (Nat.le_trans (join_tot ys) t) (k6.trans k7) pn
    have fin0 : ∀ (ys : List Str) (H7 : Hp), Same H6 H7 → (∀ z ∈ ys, asciiB z = true) → tot ys ≤ 2 * x.length + 12 → Q (.str (Txt.join " " ys)) H7 := fun ys H7 s7 a t => fin ys H7 (But.same s7) ((pen6.same s7).mono (by omega)) a t
    have ct : cutV (W.map V.str) none (some ((k : Nat) : Int)) = (W.take k).map V.str := by
      rw [cut_to (by rw [List.length_map]; omega), List.map_take]
    have cf : cutV (W.map V.str) (some (((k : Nat) : Int) + 1)) none = (W.drop (k + 1)).map V.str := by
      have e := cut_from (xs := W.map V.str) (k := k + 1) (by rw [List.length_map]; omega)
      rw [List.map_drop]
      exact e
    have cf0 : cutV (W.map V.str) (some ((k : Nat) : Int)) none = (W.drop k).map V.str := by
      rw [cut_from (by rw [List.length_map]; omega), List.map_drop]
    have ttd := tot_take_drop W k
    have tdd : tot (W.drop (k + 1)) ≤ tot (W.drop k) := by
      rw [drop_at hwk, tot_cons]
      omega
    have wtk : ∀ z ∈ W.take k, asciiB z = true := fun z hz => wa z (List.mem_of_mem_take hz)
    have wdk : ∀ z ∈ W.drop k, asciiB z = true := fun z hz => wa z (List.mem_of_mem_drop hz)
    have wdk1 : ∀ z ∈ W.drop (k + 1), asciiB z = true := fun z hz => wa z (List.mem_of_mem_drop hz)
    have ltk : (W.take k).length ≤ 451 := by rw [List.length_take]; omega
    have ldk : ∀ m, (W.drop m).length ≤ 451 := fun m => by rw [List.length_drop]; omega
    have m2 : ∀ {ys zs : List Str}, ys.map V.str ++ zs.map V.str = (ys ++ zs).map V.str := fun {ys zs} => (List.map_append ..).symm
    have m1 : [V.str odd] = [odd].map V.str := rfl
    have a2 : ∀ {ys zs : List Str}, (∀ z ∈ ys, asciiB z = true) → (∀ z ∈ zs, asciiB z = true) → ∀ z ∈ ys ++ zs, asciiB z = true := fun a b z hz => (List.mem_append.mp hz).elim (a z) (b z)
    have ao1 : ∀ z ∈ [odd], asciiB z = true := fun z hz => by rw [List.mem_singleton.mp hz]; exact ao
    refine ⟨.int way, rfl, rfl, _, rfl, iteD (fun q0 => ?_) (fun q0 => ?_)⟩
    · -- way 0
      refine ⟨rfl, .ref wl, rfl, .int (k : Nat), rfl, (k : Nat), rfl, wl, _, rfl, .of hw6, fun a na => ?_⟩
      rw [ct]
      generalize hHa : upd H6 a _ = Ha
      obtain ⟨sa, ea⟩ := alloc_eq na hHa
      refine ⟨.ref wl, rfl, .int (k : Nat), rfl, (k : Nat), 1, rfl, rfl, _, rfl, wl, _, rfl, .of (sa _ _ hw6), fun b nb => ?_⟩
      rw [cf]
      generalize hHb : upd Ha b _ = Hb
      obtain ⟨sb, eb⟩ := alloc_eq nb hHb
      refine ⟨a, b, _, _, rfl, rfl, sb _ _ ea, eb, sz_le (by rw [List.length_map, List.length_map]; have := ldk (k + 1); omega), fun r nr => ?_⟩
      rw [m2]
      generalize hHc : upd Hb r _ = Hc
      obtain ⟨scc, ec⟩ := alloc_eq nr hHc
      have tt : tot (W.take k ++ W.drop (k + 1)) ≤ 2 * x.length + 12 := by
        rw [tot_append]
        omega
      exact ⟨" ", r, _, rfl, rfl, .inl (.of ec), szj tt, fin0 _ Hc ((sa.trans sb).trans scc) (a2 wtk wdk1) tt⟩
    refine ⟨.int way, rfl, rfl, _, rfl, iteD (fun q1 => ?_) (fun q1 => ?_)⟩
    · -- way 1
      refine ⟨rfl, .ref wl, rfl, .int (k : Nat), rfl, (k : Nat), rfl, wl, _, rfl, .of hw6, fun a na => ?_⟩
      rw [ct]
      generalize hHa : upd H6 a _ = Ha
      obtain ⟨sa, ea⟩ := alloc_eq na hHa
      refine ⟨.str odd, rfl, szn 1, fun ol nol => ?_⟩
      rw [m1]
      generalize hHo : upd Ha ol _ = Ho
      obtain ⟨so, eo⟩ := alloc_eq nol hHo
      refine ⟨a, ol, _, _, rfl, rfl, so _ _ ea, eo, sz_le (by rw [List.length_map]; show (W.take k).length + 1 ≤ 100000; omega), fun u nu => ?_⟩
      rw [m2]
      generalize hHu : upd Ho u _ = Hu
      obtain ⟨su, eu⟩ := alloc_eq nu hHu
      have s6u := (sa.trans so).trans su
      refine ⟨.ref wl, rfl, .int (k : Nat), rfl, (k : Nat), rfl, wl, _, rfl, .of (s6u _ _ hw6), fun b nb => ?_⟩
      rw [cf0]
      generalize hHb : upd Hu b _ = Hb
      obtain ⟨sb, eb⟩ := alloc_eq nb hHb
      refine ⟨u, b, _, _, rfl, rfl, sb _ _ eu, eb, sz_le (by rw [List.length_map, List.length_map, List.length_append]; have := ldk k; show (W.take k).length + 1 + _ ≤ 100000; omega), fun r nr => ?_⟩
      rw [m2]
      generalize hHc : upd Hb r _ = Hc
      obtain ⟨scc, ec⟩ := alloc_eq nr hHc
      have tt : tot (W.take k ++ [odd] ++ W.drop k) ≤ 2 * x.length + 12 := by
        rw [tot_append, tot_append, tot_cons, tot_nil]
        omega
      exact ⟨" ", r, _, rfl, rfl, .inl (.of ec), szj tt, fin0 _ Hc ((s6u.trans sb).trans scc) (a2 (a2 wtk ao1) wdk) tt⟩
    refine ⟨.int way, rfl, rfl, _, rfl, iteD (fun q2 => ?_) (fun q2 => ?_)⟩
    · -- way 2
      refine ⟨rfl, .ref wl, rfl, .ref p, rfl, szn 3, fun sl nsl => ?_⟩
      generalize hHa : upd H6 sl _ = Ha
      obtain ⟨sa, ea⟩ := alloc_eq nsl hHa
      refine ⟨p, c, n + 4, sl, _, rfl, pen6.same sa, by omega, ea, pen6.newP nsl, by show 0 < 3; decide, by show 3 ≤ 1000; decide, fun v Hb hv kb penb => ?_⟩
      obtain ⟨g, rfl, ag, lg⟩ : ∃ g : Str, v = .str g ∧ asciiB g = true ∧ g.length ≤ 1 := by
        rcases List.mem_cons.mp hv with e | hv
        · exact ⟨_, e, by decide +kernel, by decide⟩
        · rcases List.mem_cons.mp hv with e | hv
          · exact ⟨_, e, by decide +kernel, by decide⟩
          · exact ⟨_, List.mem_singleton.mp hv, by decide +kernel, by decide⟩
      refine ⟨.str odd, rfl, szn 2, fun ol nol => ?_⟩
      have m3 : [V.str g, V.str odd] = [g, odd].map V.str := rfl
      rw [m3]
      generalize hHo : upd Hb ol _ = Ho
      obtain ⟨so, eo⟩ := alloc_eq nol hHo
      have hwo := so _ _ (kb _ _ wlp (sa _ _ hw6))
      refine ⟨wl, ol, _, _, rfl, rfl, hwo, eo, sz_le (by rw [List.length_map]; show W.length + 2 ≤ 100000; omega), fun r nr => ?_⟩
      rw [m2]
      generalize hHc : upd Ho r _ = Hc
      obtain ⟨scc, ec⟩ := alloc_eq nr hHc
      have tt : tot (W ++ [g, odd]) ≤ 2 * x.length + 12 := by
        rw [tot_append, tot_cons, tot_cons, tot_nil]
        omega
      exact ⟨" ", r, _, rfl, rfl, .inl (.of ec), szj tt, fin _ Hc (((But.same sa).trans kb).trans (But.same (so.trans scc))) (penb.same (so.trans scc)) (a2 wa fun z hz => by
        rcases List.mem_cons.mp hz with e | hz
        · rw [e]; exact ag
        · exact ao1 z hz) tt⟩
    refine ⟨.int way, rfl, rfl, _, rfl, iteD (fun q3 => ?_) (fun q3 => ?_)⟩
    · -- way 3
      have gj : atI (W.map V.str) ((j : Nat) : Int) = some (.str wj) := atI_nat (by rw [List.getElem?_map, hwj]; rfl)
      have gk : atI (W.map V.str) ((k : Nat) : Int) = some (.str wk) := atI_nat (by rw [List.getElem?_map, hwk]; rfl)
      refine ⟨.ref wl, rfl, wl, _, rfl, .inl (.of hw6), fun fl nfl => ?_⟩
      generalize hHa : upd H6 fl _ = Ha
      obtain ⟨sa, ea⟩ := alloc_eq nfl hHa
      have hwa := sa _ _ hw6
      refine ⟨.ref wl, rfl, .int (j : Nat), rfl, wl, _, (j : Nat), .str wj, rfl, rfl, .of hwa, gj, .ref wl, rfl, .int (k : Nat), rfl, wl, _, (k : Nat), .str wk, rfl, rfl, .of hwa, gk, szn 2, fun tp ntp => ?_⟩
      generalize hHb : upd Ha tp _ = Hb
      obtain ⟨sb, eb⟩ := alloc_eq ntp hHb
      refine ⟨tp, _, rfl, .of eb, rfl, .str wj, [.str wk], rfl, ?_⟩
      refine ⟨.ref fl, rfl, .int (k : Nat), rfl, fl, _, (k : Nat), k, rfl, rfl, sb _ _ ea, ixN_of (by rw [List.length_map]; omega), ?_⟩
      generalize hHc : upd Hb fl _ = Hc
      obtain ⟨kc, ec⟩ := put_but hHc
      rw [← List.map_set] at ec
      refine ⟨.str wk, [], rfl, .ref fl, rfl, .int (j : Nat), rfl, fl, _, (j : Nat), j, rfl, rfl, ec, ixN_of (by rw [List.length_map, List.length_set]; omega), ?_⟩
      generalize hHd : upd Hc fl _ = Hd
      obtain ⟨kd, ed⟩ := put_but hHd
      rw [← List.map_set] at ed
      have g2 : (W.set k wj)[j]? = some wj := by
        by_cases e : k = j
        · rw [← e, List.getElem?_set_self (by omega)]
        · rw [List.getElem?_set_ne e, hwj]
      have e1 := tot_set (b := wj) hwk
      have e2 := tot_set (b := wk) g2
      have tt : tot ((W.set k wj).set j wk) ≤ 2 * x.length + 12 := by omega
      have s6d : Same H6 Hd := fun b o e => by
        have nb := ne_of_none e nfl
        exact kd _ _ nb (kc _ _ nb (sb _ _ (sa _ _ e)))
      refine ⟨rfl, rfl, .ref fl, rfl, " ", fl, _, rfl, rfl, .inl (.of ed), szj tt, fin0 _ Hd s6d (fun z hz => ?_) tt⟩
      rcases List.mem_or_eq_of_mem_set hz with hz | e
      · rcases List.mem_or_eq_of_mem_set hz with hz | e
        · exact wa z hz
        · rw [e]
          exact wa wj mj
      · rw [e]
        exact wa wk mk
    refine ⟨.int way, rfl, rfl, _, rfl, iteD (fun q4 => ?_) (fun q4 => ?_)⟩
    · -- way 4
      refine ⟨.str x, rfl, szn 5, fun sl nsl => ?_⟩
      generalize hHa : upd H6 sl _ = Ha
      obtain ⟨sa, ea⟩ := alloc_eq nsl hHa
      refine ⟨.ref p, rfl, p, c, n + 4, 5, rfl, pen6.same sa, by omega, by decide, small_pow (by omega) (by omega), fun d Hb d0 d1 kb penb => ?_⟩
      have slp : sl ≠ p := pen6.newP nsl
      obtain ⟨g, hg2, ag, lg⟩ : ∃ g : Str, atI [V.str " ", .str "\n", .str " + 0", .str " - 0", .str " * a"] d = some (.str g) ∧ asciiB g = true ∧ g.length ≤ 4 := by
        have : d = 0 ∨ d = 1 ∨ d = 2 ∨ d = 3 ∨ d = 4 := by omega
        rcases this with e | e | e | e | e <;> rw [e]
        · exact ⟨_, rfl, by decide +kernel, by decide⟩
        · exact ⟨_, rfl, by decide +kernel, by decide⟩
        · exact ⟨_, rfl, by decide +kernel, by decide⟩
        · exact ⟨_, rfl, by decide +kernel, by decide⟩
        · exact ⟨_, rfl, by decide +kernel, by decide⟩
      refine ⟨sl, _, d, .str g, rfl, rfl, .of (kb _ _ slp ea), hg2, x, g, rfl, rfl, sz_le (by omega), q _ Hb ?_ ?_ ((k6.trans (But.same sa)).trans kb) penb⟩
      · refine List.all_eq_true.mpr fun e he => ?_
        have he : e ∈ tl (x ++ g) := he
        rw [tl_append] at he
        rcases List.mem_append.mp he with he | he
        · exact List.all_eq_true.mp ax e he
        · exact List.all_eq_true.mp ag e he
      · rw [len_tl, tl_append, List.length_append, ← len_tl, ← len_tl]
        omega
    -- way 5
    refine ⟨rfl, .ref wl, rfl, .int (k : Nat), rfl, (k : Nat), rfl, wl, _, rfl, .of hw6, fun a na => ?_⟩
    rw [ct]
    generalize hHa : upd H6 a _ = Ha
    obtain ⟨sa, ea⟩ := alloc_eq na hHa
    refine ⟨.str odd, rfl, szn 1, fun ol nol => ?_⟩
    rw [m1]
    generalize hHo : upd Ha ol _ = Ho
    obtain ⟨so, eo⟩ := alloc_eq nol hHo
    refine ⟨a, ol, _, _, rfl, rfl, so _ _ ea, eo, sz_le (by rw [List.length_map]; show (W.take k).length + 1 ≤ 100000; omega), fun u nu => ?_⟩
    rw [m2]
    generalize hHu : upd Ho u _ = Hu
    obtain ⟨su, eu⟩ := alloc_eq nu hHu
    have s6u := (sa.trans so).trans su
    refine ⟨.ref wl, rfl, .int (k : Nat), rfl, (k : Nat), 1, rfl, rfl, _, rfl, wl, _, rfl, .of (s6u _ _ hw6), fun b nb => ?_⟩
    rw [cf]
    generalize hHb : upd Hu b _ = Hb
    obtain ⟨sb, eb⟩ := alloc_eq nb hHb
    refine ⟨u, b, _, _, rfl, rfl, sb _ _ eu, eb, sz_le (by rw [List.length_map, List.length_map, List.length_append]; have := ldk (k + 1); show (W.take k).length + 1 + _ ≤ 100000; omega), fun r nr => ?_⟩
    rw [m2]
    generalize hHc : upd Hb r _ = Hc
    obtain ⟨scc, ec⟩ := alloc_eq nr hHc
    have tt : tot (W.take k ++ [odd] ++ W.drop (k + 1)) ≤ 2 * x.length + 12 := by
      rw [tot_append, tot_append, tot_cons, tot_nil]
      omega
    exact ⟨" ", r, _, rfl, rfl, .inl (.of ec), szj tt, fin0 _ Hc ((s6u.trans sb).trans scc) (a2 (a2 wtk ao1) wdk1) tt⟩
end
end LC
namespace LC
open PySem PySem.Spec PyProof.Rows L2 TL ClX LamX
theorem SumAt.butT {K : PySem.W.Frag} {C x q : Addr} {H H' : Hp} {ts : List Term} {xs : List V} (h : SumAt K C H x ts) (k : ButT q H H') (hq : H q = some (.lst xs)) : SumAt K C H' x ts := by
  obtain ⟨dx, T, N, us, h1, h2, h3, h4⟩ := h
  exact ⟨dx, T, N, us, k _ _ (ne_of h1 hq (fun z => nomatch z)) h1 (fun _ z => nomatch z), k.sqtN hq trivial h2, h3.butT k hq, k.sqtN hq trivial h4⟩
theorem noRead_of {z : Str} (h : (readF z).isNone = true) : readF z = none := by
  cases e : readF z with
  | none => rfl
  | some _ => rw [e] at h; cases h
/-- no text that can be read -/
def NoRead (K : PySem.W.Frag) (H : Hp) (v : V) : Prop := (∃ t, TyX K H v t ∧ PySem.W.kitOne K t (.type "str") = some false) ∨ ∃ z, v = .str z ∧ z.length ≤ 900 ∧ readF z = none
def tRead (K : PySem.W.Frag) (C CS CM : Addr) (i : Nat) : XK → TE := fun E => tCMeth C (spReadSum K C CS CM) E (tC (.ref C)) (tCons (tVar i) tNil)
theorem heard_bad {Tb : List (Addr × Str)} {CS CM C : Addr} {K : PySem.W.Frag} {σ : L2.St} {H : Hp} {Q : VK} {i : Nat} {v : V} (hT : Tabs Tb H) (hi : σ[i]? = some (some v)) (bi : ∀ H0, ExtN H H0 → NoRead K H0 v)
    (q : ∀ (t : Addr) (H2 : Hp), ExtN H H2 → Tabs Tb H2 → H2 t = some (.tup [.str "sum", .non]) → Q (.ref t) H2) : tLam Tb (TTh CS CM) (tRead K C CS CM i) σ H Q := by
  refine ⟨hT, fun H1 e1 T1 H0 E' Q' s0 hE hQ => ⟨rfl, v, hi, v, rfl, ?_⟩⟩
  have fin : ∀ cls d H', Same H0 H' → Bad CS CM "sum" .non cls d H' → E' cls d H' := fun cls d H3 s3 bad => hE cls d H3 ⟨"sum", .non, bad, fun t H4 s4 e4 => q t H4 (e1.trans (ExtN.of ((s0.trans s3).trans s4))) (Tabs.ext T1 ((s0.trans s3).trans s4)) e4⟩
  rcases bi H0 (e1.trans (ExtN.of s0)) with ⟨t, ty, k⟩ | ⟨z, rfl, l, r⟩
  · exact .inl ⟨t, ty, k, fin⟩
  · refine .inr ⟨z, rfl, l, ?_⟩
    rw [r]
    exact fin
theorem heard_good {Tb : List (Addr × Str)} {CS CM C : Addr} {K : PySem.W.Frag} {σ : L2.St} {H : Hp} {Q : VK} {i : Nat} {z : Str} {ts : List Term} (hT : Tabs Tb H) (hi : σ[i]? = some (some (.str z))) (hl : z.length ≤ 900) (r : readF z = some ts)
    (q : ∀ (l x : Addr) (H2 : Hp), ExtN H H2 → Tabs Tb H2 → H2 l = some (.lst [.ref x]) → SumAt K C H2 x ts → Q (.ref l) H2) : tLam Tb (TTh CS CM) (tRead K C CS CM i) σ H Q := by
  refine ⟨hT, fun H1 e1 T1 H0 E' Q' s0 hE hQ => ⟨rfl, .str z, hi, .str z, rfl, .inr ⟨z, rfl, hl, ?_⟩⟩⟩
  rw [r]
  exact fun x H3 nx s3 sx => hQ (.ref x) H3 fun l H4 s4 e4 => q l x H4 (e1.trans (ExtN.of ((s0.trans s3).trans s4))) (Tabs.ext T1 ((s0.trans s3).trans s4)) e4 (sx.same s4)
section
variable {P : Program} {w : World} {K : PySem.W.Frag} {mg : Str → Option Value} {base : Heap}
def spTextsRight (K : PySem.W.Frag) (Tb : List (Addr × Str)) : Sp := fun vs H Q _ => ∃ (p c : Addr) (n : Nat) (l : Addr) (us : List V) (ts : List Term), vs = [.ref p, .ref l] ∧ Pen H p c n ∧ n ≤ 70000 ∧ H l = some (.lst us) ∧ l ≠ p ∧ TermsV K H us ts ∧ Fine ts ∧ Tabs Tb H ∧
  ∀ (H' : Hp), ButT p H H' → Tabs Tb H' → Pen H' p c (n + 70) → Q (.bl true) H'
abbrev s_texts_right : Stmt := topS 57
theorem sc_texts_right : FnScope ["pen", "terms", "lap", "text", "due", "told", "odd"] ["pen", "terms"] (defScope s_texts_right) := ⟨rfl, rfl, rfl, by decide +kernel, rfl, by decide +kernel, by decide +kernel⟩
theorem ok_texts_right {f C CS CM cd Pt : Addr} {fd : FuncData} {Tb : List (Addr × Str)} (T : Txt mg) (SK : SumKit P w K mg base C CS CM) (D : HeardD P w K mg CS CM) (F : FnP K "_law_texts_right" s_texts_right f fd) (hcd : fd.code = .ref cd) (Mk : Mkr K mg base Tb cd Pt "_law_texts_right.<locals>.<lambda>")
    (c__law_draw : Cal P w K mg base CX0 9 "_law_draw" ["pen", "many"] spDraw) (c__law_pick : Cal P w K mg base CX0 9 "_law_pick" ["pen", "some"] spPick) (c__law_bent : Cal P w K mg base CX0 9 "_law_bent" ["pen", "text"] spBent) (c__law_text : Cal P w K mg base CX0 9 "_law_text" ["terms"] (spLawText K)) (c__law_read : Cal P w K mg base CX0 9 "_law_read" ["text"] (spLawRead K))
    (c__law_sum : Cal P w K mg base (L2.CX P w) 9 "_law_sum" ["terms"] (spSumG K C CS CM)) :
    GOk P w K mg base CX0 10 f fd ["pen", "terms"] (spTextsRight K Tb) := by
  have sc := sc_texts_right
  have S := SK.S
  obtain ⟨pT, gT, fdT, PT, FT, BT⟩ := SK.terms
  obtain ⟨fS, fdS, OS, FS, BS⟩ := SK.str
  obtain ⟨mc, pR, gR, fdR, gg, gV, rd, cm, FR, BR, KR, egv⟩ := SK.read
  have FR2 : FnR P w K mg base (L2.CX P w) 7 gR (spReadSum K C CS CM) := FnR.imp (FR.raw BR .nil) fun vs H Q E h => by
    rw [List.append_nil]
    exact h
  refine g_ofC F hcd sc (fun vs H Q E h => ?_) (fun A outer s H vs Q E hg hr h => ?_)
  · obtain ⟨p, c, n, l, us, ts, rfl, _⟩ := h
    rfl
  · obtain ⟨p, c, n, l, us, ts, rfl, hP, hn, hl, lp, hts, hf, hT, q⟩ := h
    refine ⟨_, PSs.nox (pss_cons (ps_for PassesOwn.never rfl (pi_range1 rfl T.n_range (pa_cons pe_int pa_nil)) (pg_name (i := 2) sc.nd rfl (.inl rfl))
  (Evl.pss_cut (ps_set (i := 3) sc.nd rfl (.inr rfl) (pe_cal c__law_bent hr (by rfl) pass0 (pa_cons (pv 0) (pa_cons (pe_cal c__law_text hr (by rfl) pass0 (pa_cons (pv 1) pa_nil)) pa_nil))))
  (Evl.pss_cut (ps_set (i := 3) sc.nd rfl (.inr rfl) (pe_ifExp (pt_cmpR op_eq (pe_cal c__law_draw hr (by rfl) pass0 (pa_cons (pv 0) (pa_cons pe_int pa_nil))) pe_int (nomark _)) (pe_cal c__law_bent hr (by rfl) pass0 (pa_cons (pv 0) (pa_cons (pv 3) pa_nil))) (pv 3)))
  (Evl.pss_cut (ps_par (i := 4) (j := 5) (by rfl) sc.nd rfl rfl (by decide) rfl rfl (pa_cons (pe_cal c__law_read hr (by rfl) pass0 (pa_cons (pv 3) pa_nil)) (pa_cons (pe_heard (t := fun E => tRead K C CS CM 3 E) T D Mk (by rfl) rfl hr (lamS_by (sc := defScope s_texts_right) (by decide +kernel)) rfl (fun _ _ _ _ _ => rfl) (fun _ _ _ _ _ _ _ hr2 => by exact (pe_cmeth (pe_gcls S.g_Sum) rd cm FR2 hr2 (passes_call (takes_of rfl rfl rfl rfl) fun _ _ _ _ h => h) (pa_cons (pv 3) pa_nil)))) pa_nil)) (by rfl))
  (Evl.pss_cut (ps_if (PW.pt (pw_and (pt_cmpR op_isN (pv 4) pe_non (nomark _)) (pw_and1 (pt_cmpR op_ne (pe_callB (call_reprD hg hr.units) (by rfl) T.n_repr (by decide +kernel) (pa_cons (pv 5) pa_nil)) (pe_callB (call_reprD hg hr.units) (by rfl) T.n_repr (by decide +kernel) (pa_cons (pe_tup (pa_cons pe_str (pa_cons pe_non pa_nil))) pa_nil)) (nomark _)))))
    (pss_one (ps_ret pe_bl))
    pss_nil)
  (Evl.pss_cut (ps_if (PW.pt (pw_and (pt_cmpR op_notN (pv 4) pe_non (nomark _)) (pw_and1 (pt_not (pt_val (pe_callB call_isi (by rfl) T.n_isinstance (by decide +kernel) (pa_cons (pv 5) (pa_cons (pe_bty "list" T.n_list (by decide +kernel)) pa_nil))))))))
    (pss_one (ps_ret pe_bl))
    pss_nil)
  (pss_one (ps_if (PW.pt (pw_and (pt_cmpR op_notN (pv 4) pe_non (nomark _)) (pw_and1 (pt_cmpR op_ne (pe_callB (call_reprD hg hr.units) (by rfl) T.n_repr (by decide +kernel) (pa_cons (pe_lst (pa_cons (pe_prop (pe_ix ix_list (pv 5) pe_int (fun _ _ => rfl)) S.cl PT FT (hr.mono (by decide)) BT .nil pass0 (by rfl)) (pa_cons (pe_callTy (call_strO OS FS BS (hr.mono (by decide)) pass0) (by rfl) T.n_str (by decide +kernel) (pa_cons (pe_ix ix_list (pv 5) pe_int (fun _ _ => rfl)) pa_nil)) pa_nil))) pa_nil)) (pe_callB (call_reprD hg hr.units) (by rfl) T.n_repr (by decide +kernel) (pa_cons (pe_lst (pa_cons (pe_callTy call_tuple_of (by rfl) T.n_tuple (by decide +kernel) (pa_cons (pv 4) pa_nil)) (pa_cons (pv 3) pa_nil))) pa_nil)) (nomark _)))))
    (pss_one (ps_ret pe_bl))
    pss_nil))))))))
(Evl.pss_cut (ps_set (i := 6) sc.nd rfl (.inr rfl) (pe_cal c__law_pick hr (by rfl) pass0 (pa_cons (pv 0) (pa_cons (pe_lst (pa_cons pe_non (pa_cons pe_int (pa_cons pe_bl (pa_cons (pe_tup pa_nil) (pa_cons (pe_lst pa_nil) (pa_cons (pe_lst (pa_cons pe_str pa_nil)) (pa_cons pe_dnewK (pa_cons (pe_tup (pa_cons pe_str (pa_cons pe_str (pa_cons pe_str pa_nil)))) (pa_cons (pe_cal c__law_sum hr (by rfl) passL (pa_cons (pv 1) pa_nil)) (pa_cons pe_str (pa_cons pe_str (pa_cons pe_str pa_nil))))))))))))) pa_nil))))
(pss_one (ps_ret (pe_cmpR op_eq (pe_callB (call_reprD hg hr.units) (by rfl) T.n_repr (by decide +kernel) (pa_cons (pe_heard (t := fun E => tRead K C CS CM 6 E) T D Mk (by rfl) rfl hr (lamS_by (sc := defScope s_texts_right) (by decide +kernel)) rfl (fun _ _ _ _ _ => rfl) (fun _ _ _ _ _ _ _ hr2 => by exact (pe_cmeth (pe_gcls S.g_Sum) rd cm FR2 hr2 (passes_call (takes_of rfl rfl rfl rfl) fun _ _ _ _ h => h) (pa_cons (pv 6) pa_nil)))) pa_nil)) (pe_callB (call_reprD hg hr.units) (by rfl) T.n_repr (by decide +kernel) (pa_cons (pe_tup (pa_cons pe_str (pa_cons pe_non pa_nil))) pa_nil)) (nomark _)))))), ?_⟩
    obtain ⟨px, hp0⟩ := hP.at_
    refine ⟨_, rfl, by decide, by decide, ?_⟩
    refine for_range (n := 6) (fun i σ H' => (∃ o2 o3 o4 o5 : Option V, σ = [some (.ref p), some (.ref l), o2, o3, o4, o5, none]) ∧ ButT p H H' ∧ Pen H' p c (n + 11 * i) ∧ Tabs Tb H') ?_ ?_ ?_
    · exact ⟨⟨_, _, _, _, rfl⟩, ButT.refl, hP, hT⟩
    · rintro i σ H1 hi ⟨⟨o2, o3, o4, o5, rfl⟩, k1, pen1, t1⟩
      have hl1 := k1.lst lp hl
      have hts1 := hts.butT k1 hp0
      obtain ⟨px1, hp1⟩ := pen1.at_
      -- text
      refine ⟨fun σ' H2 => ∃ x : Str, asciiB x = true ∧ x.length ≤ 412 ∧ But p H1 H2 ∧ Pen H2 p c (n + 11 * i + 5) ∧ σ' = [some (.ref p), some (.ref l), some (.int (0 + (i : Int))), some (.str x), o4, o5, none], ?_, ?_⟩
      · refine ⟨.ref p, rfl, .ref l, rfl, l, us, ts, rfl, .of hl1, hts1, hf.2.1, hf.2.2.1, fun H2 s2 => ⟨p, c, n + 11 * i, sumText ts, rfl, pen1.same s2, by omega, sumText_ascii hf.2.2.1, by have := sumText_short hf.2.1 hf.2.2.1; omega, fun y H3 ay ly k3 pen3 => ?_⟩⟩
        exact ⟨y, ay, by have := sumText_short hf.2.1 hf.2.2.1; omega, (But.same s2).trans k3, pen3, rfl⟩
      rintro σ' H2 ⟨x, ax, lx, k2, pen2, rfl⟩
      refine ⟨fun σ' H3 => ∃ x : Str, asciiB x = true ∧ x.length ≤ 836 ∧ But p H1 H3 ∧ Pen H3 p c (n + 11 * i + 11) ∧ σ' = [some (.ref p), some (.ref l), some (.int (0 + (i : Int))), some (.str x), o4, o5, none], ?_, ?_⟩
      · refine ⟨.ref p, rfl, p, c, n + 11 * i + 5, 3, rfl, pen2, by omega, by decide, small_pow (by omega) (by omega), fun d H3 d0 d1 k3 pen3 => ⟨rfl, _, rfl, iteD (fun e => ?_) (fun e => ?_)⟩⟩
        · refine ⟨.ref p, rfl, .str x, rfl, p, c, n + 11 * i + 6, x, rfl, pen3, by omega, ax, by omega, fun y H4 ay ly k4 pen4 => ?_⟩
          exact ⟨y, ay, by omega, (k2.trans k3).trans k4, pen4, rfl⟩
        · exact ⟨.str x, rfl, x, ax, by omega, k2.trans k3, pen3.mono (by omega), rfl⟩
      clear pen2 k2 lx ax x
      rintro σ' H3 ⟨x, ax, lx, k3, pen3, rfl⟩
      have t3 := LC.Tabs.but t1 k3 hp1
      -- due, told
      refine ⟨fun σ' H4 => ButT p H1 H4 ∧ Pen H4 p c (n + 11 * i + 11) ∧ Tabs Tb H4 ∧ ((∃ r : Addr, readF x = none ∧ H4 r = some (.tup [.str "sum", .non]) ∧ σ' = [some (.ref p), some (.ref l), some (.int (0 + (i : Int))), some (.str x), some .non, some (.ref r), none]) ∨ ∃ (ts' : List Term) (vs : List V) (dl r y : Addr), readF x = some ts' ∧ Fine ts' ∧ x = sumText ts' ∧ H4 dl = some (.lst vs) ∧ TermsV K H4 vs ts' ∧ H4 r = some (.lst [.ref y]) ∧ SumAt K C H4 y ts' ∧ σ' = [some (.ref p), some (.ref l), some (.int (0 + (i : Int))), some (.str x), some (.ref dl), some (.ref r), none]), ?_, ?_⟩
      · refine ⟨.str x, rfl, x, rfl, ax, by omega, fun v H4 s4 ov => ?_⟩
        rw [lawRead_eq] at ov
        have t4 := Tabs.ext t3 s4
        cases hr : readF x with
        | none =>
          rw [hr] at ov
          have ov : v = .non := ov
          subst ov
          refine heard_bad t4 rfl (fun H0 _ => .inr ⟨x, rfl, by omega, hr⟩) fun t H5 e5 t5 ht5 => ?_
          exact ⟨_, _, rfl, (k3.t.trans (ButT.of s4)).trans (ButT.ext e5), (pen3.same s4).ext e5, t5, .inl ⟨t, rfl, ht5, rfl⟩⟩
        | some ts' =>
          rw [hr] at ov
          obtain ⟨dl, vs, rfl, ndl, hdl, hvs⟩ := ov
          obtain ⟨f', ex⟩ := readF_iff.mp hr
          refine heard_good t4 rfl (by omega) hr fun r y H5 e5 t5 hr5 sy5 => ?_
          obtain ⟨px4, hp4⟩ := (pen3.same s4).at_
          exact ⟨_, _, rfl, (k3.t.trans (ButT.of s4)).trans (ButT.ext e5), (pen3.same s4).ext e5, t5, .inr ⟨ts', vs, dl, r, y, rfl, f', ex, e5 _ _ hdl (fun _ z => nomatch z), hvs.butT (ButT.ext e5) hp4, hr5, sy5, rfl⟩⟩
      rintro σ' H4 ⟨k4, pen4, t4, h4⟩
      have k14 := k1.trans k4
      have fin : ∀ {H5 : Hp} {a b d e : Option V}, Same H4 H5 → ((∃ o2 o3 o4 o5 : Option V, [some (.ref p), some (.ref l), a, b, d, e, none] = [some (.ref p), some (.ref l), o2, o3, o4, o5, none]) ∧ ButT p H H5 ∧ Pen H5 p c (n + 11 * (i + 1)) ∧ Tabs Tb H5) := fun {H5 a b d e} s5 =>
        ⟨⟨_, _, _, _, rfl⟩, k14.trans (ButT.of s5), (pen4.same s5).mono (by omega), Tabs.ext t4 s5⟩
      have shN := wpN_shw
      have dN : ∀ {H : Hp} {a : Addr}, H a = some (.tup [.str "sum", .non]) → Dp K H (.ref a) wpN.d := fun e => Two.dp (d := wpN) ⟨_, rfl, .of e⟩
      rcases h4 with ⟨r, hr, hr4, rfl⟩ | ⟨ts', vs, dl, r, y, hr, f', ex, hdl, hvs, hr4, sy4, rfl⟩
      · refine ⟨fun σ' H5 => Same H4 H5 ∧ σ' = [some (.ref p), some (.ref l), some (.int (0 + (i : Int))), some (.str x), some .non, some (.ref r), none], ?_, ?_⟩
        · refine ⟨.non, rfl, rfl, _, rfl, iteD (fun _ => ?_) (fun e => absurd rfl e)⟩
          refine ⟨.ref r, rfl, r, _, rfl, dN hr4, shN.lay, shN.sh, Nat.le_trans shN.dp (by decide), shN.len (by decide), szn 2, fun t nt => ?_⟩
          generalize hHa : upd H4 t _ = Ha
          obtain ⟨sa, ea⟩ := alloc_eq nt hHa
          refine ⟨t, _, rfl, dN ea, shN.lay, shN.sh, Nat.le_trans shN.dp (by decide), shN.len (by decide), rfl, _, rfl, ?_⟩
          rw [decide_eq_true rfl]
          exact iteF ⟨sa, rfl⟩
        rintro σ' H5 ⟨s5, rfl⟩
        refine ⟨fun σ' H6 => H6 = H5 ∧ σ' = [some (.ref p), some (.ref l), some (.int (0 + (i : Int))), some (.str x), some .non, some (.ref r), none], ?_, ?_⟩
        · exact ⟨.non, rfl, rfl, _, rfl, iteND (fun e => absurd rfl e) (fun _ => ⟨rfl, rfl⟩)⟩
        rintro σ' H6 ⟨rfl, rfl⟩
        exact ⟨.non, rfl, rfl, _, rfl, iteND (fun e => absurd rfl e) (fun _ => fin s5)⟩
      · subst ex
        have l4 := f'.2.1
        refine ⟨fun σ' H5 => H5 = H4 ∧ σ' = [some (.ref p), some (.ref l), some (.int (0 + (i : Int))), some (.str (sumText ts')), some (.ref dl), some (.ref r), none], ?_, ?_⟩
        · exact ⟨.ref dl, rfl, rfl, _, rfl, iteD (fun e => nomatch e) (fun _ => ⟨rfl, rfl⟩)⟩
        rintro σ' H5 ⟨rfl, rfl⟩
        refine ⟨fun σ' H6 => H6 = H5 ∧ σ' = [some (.ref p), some (.ref l), some (.int (0 + (i : Int))), some (.str (sumText ts')), some (.ref dl), some (.ref r), none], ?_, ?_⟩
        · refine ⟨.ref dl, rfl, rfl, _, rfl, iteND (fun _ => ?_) (fun e => nomatch e)⟩
          exact ⟨.ref r, rfl, .ref r, .ty "list", .type "list", .type "list", true, rfl, .ty _, .base (.lst hr4), kit_ty (by decide +kernel), _, rfl, iteF ⟨rfl, rfl⟩⟩
        rintro σ' H6 ⟨rfl, rfl⟩
        refine ⟨.ref dl, rfl, rfl, _, rfl, iteND (fun _ => ?_) (fun e => nomatch e)⟩
        obtain ⟨dx, T0, N, vs0, i1, i2, i3, i4⟩ := id sy4
        refine ⟨.ref r, rfl, r, _, 0, .ref y, rfl, rfl, .of hr4, rfl, y, dx, _, rfl, i1, y, dx, _, .ref T0, rfl, i1, sflds_terms _ _, .ref r, rfl, r, _, 0, .ref y, rfl, rfl, .of hr4, rfl, y, dx, _, rfl, i1, y, ts', rfl, sy4, f', fun H7 s7 => ⟨_, rfl, ?_⟩⟩
        refine ⟨szn 2, fun q4 nq4 => ?_⟩
        generalize hH8 : upd H7 q4 _ = H8
        obtain ⟨s8, e8⟩ := alloc_eq nq4 hH8
        have sh : Shw (.list [termsD ts', .str (sumText ts')]) 4 2000 := (Shw.lst (ShwL.cons (shw_terms f'.2.2.1) (ShwL.cons (shw_text f'.2.1 f'.2.2.1) ShwL.nil))).mono (by omega) (by omega)
        have s68 := s7.trans s8
        refine ⟨q4, _, rfl, .lst (.of e8) (.cons (.tup (sqt_same s68 i2) (dp_terms (i3.same s68))) (.cons (.str _) .nil)), sh.lay, sh.sh, Nat.le_trans sh.dp (by decide), sh.len (by decide), ?_⟩
        refine ⟨.ref dl, rfl, dl, vs, rfl, .inl ⟨.of (s68 _ _ hdl), fun t1 n1 => ?_⟩⟩
        generalize hH9 : upd H8 t1 _ = H9
        obtain ⟨s9, e9⟩ := alloc_eq n1 hH9
        refine ⟨.str (sumText ts'), rfl, szn 2, fun q5 nq5 => ?_⟩
        generalize hH10 : upd H9 q5 _ = H10
        obtain ⟨s10, e10⟩ := alloc_eq nq5 hH10
        have s610 := (s68.trans s9).trans s10
        refine ⟨q5, _, rfl, .lst (.of e10) (.cons (.tup (.of (s10 _ _ e9)) (dp_terms (hvs.same s610))) (.cons (.str _) .nil)), sh.lay, sh.sh, Nat.le_trans sh.dp (by decide), sh.len (by decide), rfl, _, rfl, ?_⟩
        rw [decide_eq_true rfl]
        exact iteF (fin s610)
    rintro σ H1 ⟨⟨o2, o3, o4, o5, rfl⟩, k1, pen1, t1⟩
    have hl1 := k1.lst lp hl
    have hts1 := hts.butT k1 hp0
    obtain ⟨px1, hp1⟩ := pen1.at_
    refine ⟨fun σ' H2 => But p H1 H2 ∧ Pen H2 p c (n + 70) ∧ ∃ v : V, (∀ H', ButT p H2 H' → NoRead K H' v) ∧ σ' = [some (.ref p), some (.ref l), o2, o3, o4, o5, some v], ?_, ?_⟩
    · refine ⟨.ref p, rfl, szn 0, fun a1 n1 => ?_⟩
      generalize hHa : upd H1 a1 _ = Ha
      obtain ⟨sa, ea⟩ := alloc_eq n1 hHa
      refine ⟨szn 0, fun a2 n2 => ?_⟩
      generalize hHb : upd Ha a2 _ = Hb
      obtain ⟨sb, eb⟩ := alloc_eq n2 hHb
      refine ⟨szn 1, fun a3 n3 => ?_⟩
      generalize hHc : upd Hb a3 _ = Hc
      obtain ⟨scc, ec⟩ := alloc_eq n3 hHc
      refine fun a4 n4 => ?_
      generalize hHd : upd Hc a4 _ = Hd
      obtain ⟨sd, ed⟩ := alloc_eq n4 hHd
      refine ⟨szn 3, fun a5 n5 => ?_⟩
      generalize hHe : upd Hd a5 _ = He
      obtain ⟨se, ee⟩ := alloc_eq n5 hHe
      have s1e := (((sa.trans sb).trans scc).trans sd).trans se
      refine ⟨.ref l, rfl, l, us, ts.map some, rfl, .of (s1e _ _ hl1), args_fine (hts1.same s1e) hf.2.2.1, by have := hf.2.1; have := hts.length; omega, ?_⟩
      rw [sumOut_fine hf]
      intro y Hf ny sf sy
      refine ⟨szn 12, fun ml nml => ?_⟩
      generalize hHg : upd Hf ml _ = Hg
      obtain ⟨sg, eg⟩ := alloc_eq nml hHg
      have s1g := (s1e.trans sf).trans sg
      have peng := pen1.same s1g
      obtain ⟨pxg, hpg⟩ := peng.at_
      refine ⟨p, c, _, ml, _, rfl, peng, by omega, eg, pen1.same (s1e.trans sf) |>.newP nml, by show 0 < 12; decide, by show 12 ≤ 1000; decide, fun v H2 hv k2 pen2 => ?_⟩
      refine ⟨(But.same s1g).trans k2, pen2.mono (by omega), v, fun H' k' => ?_, rfl⟩
      have kg : ButT p Hg H' := k2.t.trans k'
      have kind : ∀ {n : String}, n ∈ kinds → n ≠ "str" → PySem.W.kitOne K (.type n) (.type "str") = some false := fun h1 h2 => kit_strNo h1 h2
      have keepL : ∀ {a : Addr} {xs : List V}, H1 a = none → Hg a = some (.lst xs) → H' a = some (.lst xs) := fun {a xs} na e => kg.lst (pen1.newP na) e
      have sg1 : Same Ha Hg := ((((sb.trans scc).trans sd).trans se).trans sf).trans sg
      have sg2 : Same Hb Hg := (((scc.trans sd).trans se).trans sf).trans sg
      have sg3 : Same Hc Hg := ((sd.trans se).trans sf).trans sg
      have sg4 : Same Hd Hg := (se.trans sf).trans sg
      have sg5 : Same He Hg := sf.trans sg
      have tupAt : ∀ {a : Addr} {xs : List V}, Hg a = some (.tup xs) → NoRead K H' (.ref a) := fun {a xs} e => .inl ⟨.type "tuple", .base (.tup (kg _ _ (ne_of e hpg (fun z => nomatch z)) e fun _ z => nomatch z)), kind (by decide) (by decide)⟩
      have lstAt : ∀ {a : Addr} {xs : List V}, H1 a = none → Hg a = some (.lst xs) → NoRead K H' (.ref a) := fun {a xs} na e => .inl ⟨.type "list", .base (.lst (keepL na e)), kind (by decide) (by decide)⟩
      have txt : ∀ {z : Str}, z.length ≤ 900 → readF z = none → NoRead K H' (.str z) := fun {z} l r => .inr ⟨z, rfl, l, r⟩
      rcases List.mem_cons.mp hv with e | hv
      · rw [e]
        exact .inl ⟨.type "NoneType", .base .non, kind (by decide) (by decide)⟩
      rcases List.mem_cons.mp hv with e | hv
      · rw [e]
        exact .inl ⟨.type "int", .base (.int 5), kind (by decide) (by decide)⟩
      rcases List.mem_cons.mp hv with e | hv
      · rw [e]
        exact .inl ⟨.type "bool", .base (.bl true), kind (by decide) (by decide)⟩
      rcases List.mem_cons.mp hv with e | hv
      · rw [e]
        exact tupAt (sg1 _ _ ea)
      rcases List.mem_cons.mp hv with e | hv
      · rw [e]
        exact lstAt (none_back sa n2) (sg2 _ _ eb)
      rcases List.mem_cons.mp hv with e | hv
      · rw [e]
        exact lstAt (none_back (sa.trans sb) n3) (sg3 _ _ ec)
      rcases List.mem_cons.mp hv with e | hv
      · rw [e]
        have e4 := sg4 _ _ ed
        exact .inl ⟨.type "dict", .base (.dK (kg _ _ (ne_of e4 hpg (fun z => nomatch z)) e4 fun _ z => nomatch z)), kind (by decide) (by decide)⟩
      rcases List.mem_cons.mp hv with e | hv
      · rw [e]
        exact tupAt (sg5 _ _ ee)
      rcases List.mem_cons.mp hv with e | hv
      · rw [e]
        exact .inl ⟨.ref C, sum_ty S SK.I ((sy.same sg).butT kg hpg), SK.nstr⟩
      rcases List.mem_cons.mp hv with e | hv
      · rw [e]
        exact txt (by decide) (noRead_of (by decide +kernel))
      rcases List.mem_cons.mp hv with e | hv
      · rw [e]
        exact txt (by decide) (noRead_of (by decide +kernel))
      · rw [List.mem_singleton.mp hv]
        exact txt (by decide) (noRead_of (by decide +kernel))
    rintro σ' H2 ⟨k2, pen2, v, no, rfl⟩
    have t2 := LC.Tabs.but t1 k2 hp1
    have shN := wpN_shw
    have dN : ∀ {H : Hp} {a : Addr}, H a = some (.tup [.str "sum", .non]) → Dp K H (.ref a) wpN.d := fun e => Two.dp (d := wpN) ⟨_, rfl, .of e⟩
    refine heard_bad t2 rfl (fun H0 e => no H0 (ButT.ext e)) fun t H3 e3 t3 ht => ?_
    refine ⟨t, _, rfl, dN ht, shN.lay, shN.sh, Nat.le_trans shN.dp (by decide), shN.len (by decide), szn 2, fun u nu => ?_⟩
    generalize hHa : upd H3 u _ = Ha
    obtain ⟨sa, ea⟩ := alloc_eq nu hHa
    refine ⟨u, _, rfl, dN ea, shN.lay, shN.sh, Nat.le_trans shN.dp (by decide), shN.len (by decide), rfl, ?_⟩
    rw [decide_eq_true rfl]
    exact q Ha (((k1.trans k2.t).trans (ButT.ext e3)).trans (ButT.of sa)) (Tabs.ext t3 sa) ((pen2.ext e3).same sa)
end
end LC
namespace LC
open PySem PySem.Spec PyProof.Rows L2 TL ClX LamX
section
variable {P : Program} {w : World} {K : PySem.W.Frag} {mg : Str → Option Value} {base : Heap}
def spRefused (K : PySem.W.Frag) (Tb : List (Addr × Str)) : Sp := fun vs H Q _ => ∃ (p c : Addr) (n : Nat) (l : Addr) (us : List V) (ts : List Term), vs = [.ref p, .ref l] ∧ Pen H p c n ∧ n ≤ 80000 ∧ H l = some (.lst us) ∧ l ≠ p ∧ TermsV K H us ts ∧ Fine ts ∧ Tabs Tb H ∧
  ∀ (H' : Hp), ButT p H H' → Tabs Tb H' → Pen H' p c (n + 16) → Q (.bl true) H'
abbrev s_refused : Stmt := topS 51
theorem sc_refused : FnScope ["pen", "terms", "at", "odd", "more", "bent", "told", "due", "some", "five", "names", "wide"] ["pen", "terms"] (defScope s_refused) := ⟨rfl, rfl, rfl, by decide +kernel, rfl, by decide +kernel, by decide +kernel⟩
theorem ok_refused {f C CS CM cd Pt fI : Addr} {fd : FuncData} {Tb : List (Addr × Str)} (T : Txt mg) (SK : SumKit P w K mg base C CS CM) (D : HeardD P w K mg CS CM) (F : FnP K "_law_refused" s_refused f fd) (hcd : fd.code = .ref cd) (Mk : Mkr K mg base Tb cd Pt "_law_refused.<locals>.<lambda>")
    (M : L2.Mk K C fI) (FI : FnR P w K mg base (L2.CX P w) 4 fI (fun vs H Q E => ∃ ws rest, vs = ws ++ rest ∧ ws.length = 1 ∧ rest.length ≤ sizeLine ∧ ∀ p, H p = none → spInitG K C CS CM (ws ++ [V.ref p]) (upd H p (.tup rest)) Q E))
    (c__law_draw : Cal P w K mg base CX0 9 "_law_draw" ["pen", "many"] spDraw) (c__law_odd_term : Cal P w K mg base CX0 9 "_law_odd_term" ["pen"] (spOddTerm K)) (c__law_names : Cal P w K mg base CX0 9 "_law_names" ["pen", "many"] spNames) (c__law_factor : Cal P w K mg base CX0 9 "_law_factor" ["pen"] spFactor)
    (c__law_sum : Cal P w K mg base (L2.CX P w) 7 "_law_sum" ["terms"] (spSumG K C CS CM)) :
    GOk P w K mg base CX0 10 f fd ["pen", "terms"] (spRefused K Tb) := by
  have sc := sc_refused
  have S := SK.S
  refine g_ofC F hcd sc (fun vs H Q E h => ?_) (fun A outer s H vs Q E hg hr h => ?_)
  · obtain ⟨p, c, n, l, us, ts, rfl, _⟩ := h
    rfl
  · obtain ⟨p, c, n, l, us, ts, rfl, hP, hn, hl, lp, hts, hf, hT, q⟩ := h
    refine ⟨_, PSs.nox (Evl.pss_cut (ps_asg (pe_tup (pa_cons (pe_cal c__law_draw hr (by rfl) pass0 (pa_cons (pv 0) (pa_cons (pe_op op_add (pe_callB call_len (by rfl) T.n_len (by decide +kernel) (pa_cons (pv 1) pa_nil)) pe_int) pa_nil))) (pa_cons (pe_cal c__law_odd_term hr (by rfl) pass0 (pa_cons (pv 0) pa_nil)) (pa_cons (pe_cal c__law_odd_term hr (by rfl) pass0 (pa_cons (pv 0) pa_nil)) pa_nil)))) (pg_tup rfl (pgs_cons (pg_name (i := 2) sc.nd rfl (.inl rfl)) (pgs_cons (pg_name (i := 3) sc.nd rfl (.inr rfl)) (pgs_cons (pg_name (i := 4) sc.nd rfl (.inl rfl)) pgs_nil)))))
(Evl.pss_cut (ps_set (i := 5) sc.nd rfl (.inr rfl) (pe_op op_cat (pe_op op_cat (pe_slice sl_list (pv 1) po_none (po_some (pv 2))) (pe_lst (pa_cons (pv 3) pa_nil))) (pe_slice sl_list (pv 1) (po_some (pv 2)) po_none)))
(Evl.pss_cut (ps_set (i := 6) sc.nd rfl (.inl rfl) (pe_lst (pa_cons (pe_heard (t := fun E => tCal (spSumG K C CS CM) E (tCons (tVar 5) tNil)) T D Mk (by rfl) rfl hr (lamS_by (sc := defScope s_refused) (by decide +kernel)) rfl (fun _ _ _ _ _ => rfl) (fun _ _ _ _ _ _ _ hr2 => by exact (pe_cal c__law_sum hr2 (by rfl) (passes_call (takes_of rfl rfl rfl rfl) fun _ _ _ _ h => h) (pa_cons (pv 5) pa_nil)))) pa_nil)))
(Evl.pss_cut (ps_set (i := 7) sc.nd rfl (.inl rfl) (pe_lst (pa_cons (pe_ifExp (pt_cmpR op_lt (pe_callB call_len (by rfl) T.n_len (by decide +kernel) (pa_cons (pv 5) pa_nil)) pe_int (nomark _)) (pe_tup (pa_cons pe_str (pa_cons (pv 2) pa_nil))) (pe_tup (pa_cons pe_str (pa_cons pe_int pa_nil)))) pa_nil)))
(Evl.pss_cut (ps_set (i := 8) sc.nd rfl (.inr rfl) (pe_op op_cat (pe_slice sl_list (pv 1) po_none (po_some pe_int)) (pe_lst (pa_cons (pv 3) (pa_cons (pv 4) pa_nil)))))
(Evl.pss_cut (ps_expr (pe_bm PySem.F.plainAttrs_list PySem.F.slot_list_append PySem.F.type_list_append mt_append (pv 6) (pa_cons (pe_heard (t := fun E => tCal (spSumG K C CS CM) E (tCons (tVar 8) tNil)) T D Mk (by rfl) rfl hr (lamS_by (sc := defScope s_refused) (by decide +kernel)) rfl (fun _ _ _ _ _ => rfl) (fun _ _ _ _ _ _ _ hr2 => by exact (pe_cal c__law_sum hr2 (by rfl) (passes_call (takes_of rfl rfl rfl rfl) fun _ _ _ _ h => h) (pa_cons (pv 8) pa_nil)))) pa_nil)))
(Evl.pss_cut (ps_expr (pe_bm PySem.F.plainAttrs_list PySem.F.slot_list_append PySem.F.type_list_append mt_append (pv 7) (pa_cons (pe_tup (pa_cons pe_str (pa_cons (pe_callB call_len (by rfl) T.n_len (by decide +kernel) (pa_cons (pe_slice sl_list (pv 1) po_none (po_some pe_int)) pa_nil)) pa_nil))) pa_nil)))
(Evl.pss_cut (ps_set (i := 9) sc.nd rfl (.inr rfl) (pe_op op_cat (pe_op op_cat (pe_lst (pa_cons (pv 3) pa_nil)) (pe_slice sl_list (pe_op op_cat (pe_op op_cat (pe_op op_cat (pv 1) (pv 1)) (pv 1)) (pv 1)) po_none (po_some pe_int))) (pe_lst (pa_cons (pv 4) pa_nil))))
(Evl.pss_cut (ps_expr (pe_bm PySem.F.plainAttrs_list PySem.F.slot_list_append PySem.F.type_list_append mt_append (pv 6) (pa_cons (pe_heard (t := fun E => tCal (spSumG K C CS CM) E (tCons (tVar 9) tNil)) T D Mk (by rfl) rfl hr (lamS_by (sc := defScope s_refused) (by decide +kernel)) rfl (fun _ _ _ _ _ => rfl) (fun _ _ _ _ _ _ _ hr2 => by exact (pe_cal c__law_sum hr2 (by rfl) (passes_call (takes_of rfl rfl rfl rfl) fun _ _ _ _ h => h) (pa_cons (pv 9) pa_nil)))) pa_nil)))
(Evl.pss_cut (ps_expr (pe_bm PySem.F.plainAttrs_list PySem.F.slot_list_append PySem.F.type_list_append mt_append (pv 7) (pa_cons (pe_ifExp (pt_cmpR op_eq (pe_callB call_len (by rfl) T.n_len (by decide +kernel) (pa_cons (pv 9) pa_nil)) pe_int (nomark _)) (pe_tup (pa_cons pe_str (pa_cons pe_int pa_nil))) (pe_tup (pa_cons pe_str (pa_cons pe_int pa_nil)))) pa_nil)))
(Evl.pss_cut (ps_set (i := 10) sc.nd rfl (.inl rfl) (pe_cal c__law_names hr (by rfl) pass0 (pa_cons (pv 0) (pa_cons pe_int pa_nil))))
(Evl.pss_cut (ps_set (i := 11) sc.nd rfl (.inr rfl) (pe_lst (pa_cons (pe_tup (pa_cons pe_int (pa_cons (pe_callTy call_tuple_of (by rfl) T.n_tuple (by decide +kernel) (pa_cons (pe_slice sl_list (pv 10) po_none (po_some pe_int)) pa_nil)) pa_nil))) (pa_cons (pe_tup (pa_cons (pe_cal c__law_factor hr (by rfl) pass0 (pa_cons (pv 0) pa_nil)) (pa_cons (pe_tup (pa_cons (pe_ix ix_list (pv 10) pe_int (fun _ _ => rfl)) (pa_cons (pe_ix ix_list (pv 10) pe_int (fun _ _ => rfl)) pa_nil))) pa_nil))) pa_nil))))
(Evl.pss_cut (ps_expr (pe_bm PySem.F.plainAttrs_list PySem.F.slot_list_append PySem.F.type_list_append mt_append (pv 6) (pa_cons (pe_heard (t := fun E => tCal (spSumG K C CS CM) E (tCons (tVar 11) tNil)) T D Mk (by rfl) rfl hr (lamS_by (sc := defScope s_refused) (by decide +kernel)) rfl (fun _ _ _ _ _ => rfl) (fun _ _ _ _ _ _ _ hr2 => by exact (pe_cal c__law_sum hr2 (by rfl) (passes_call (takes_of rfl rfl rfl rfl) fun _ _ _ _ h => h) (pa_cons (pv 11) pa_nil)))) pa_nil)))
(Evl.pss_cut (ps_expr (pe_bm PySem.F.plainAttrs_list PySem.F.slot_list_append PySem.F.type_list_append mt_append (pv 7) (pa_cons (pe_tup (pa_cons pe_str (pa_cons pe_int pa_nil))) pa_nil)))
(Evl.pss_cut (ps_expr (pe_bm PySem.F.plainAttrs_list PySem.F.slot_list_append PySem.F.type_list_append mt_append (pv 6) (pa_cons (pe_heard (t := fun E => tCal (spSumG K C CS CM) E (tCons (tOp rCat (tVar 11) (tLst (tCons (tVar 3) tNil))) tNil)) T D Mk (by rfl) rfl hr (lamS_by (sc := defScope s_refused) (by decide +kernel)) rfl (fun _ _ _ _ _ => rfl) (fun _ _ _ _ _ _ _ hr2 => by exact (pe_cal c__law_sum hr2 (by rfl) (passes_call (takes_of rfl rfl rfl rfl) fun _ _ _ _ h => h) (pa_cons (pe_op op_cat (pv 11) (pe_lst (pa_cons (pv 3) pa_nil))) pa_nil)))) pa_nil)))
(Evl.pss_cut (ps_expr (pe_bm PySem.F.plainAttrs_list PySem.F.slot_list_append PySem.F.type_list_append mt_append (pv 7) (pa_cons (pe_tup (pa_cons pe_str (pa_cons pe_int pa_nil))) pa_nil)))
(Evl.pss_cut (ps_expr (pe_bm PySem.F.plainAttrs_list PySem.F.slot_list_append PySem.F.type_list_append mt_append (pv 6) (pa_cons (pe_heard (t := fun E => StX.tMakeR C (fun vs H Q E => ∃ ws rest, vs = ws ++ rest ∧ ws.length = 1 ∧ rest.length ≤ sizeLine ∧ ∀ p, H p = none → spInitG K C CS CM (ws ++ [V.ref p]) (upd H p (.tup rest)) Q E) E tNil) T D Mk (by rfl) rfl hr (lamS_by (sc := defScope s_refused) (by decide +kernel)) rfl (fun _ _ _ _ _ => rfl) (fun _ _ _ _ _ _ _ hr2 => by exact (pe_makeR0 M FI (hr2.mono (by decide)) (by rfl) S.g_Sum (passes_call (takes_of rfl rfl rfl rfl) fun _ _ _ _ h => h)))) pa_nil)))
(Evl.pss_cut (ps_expr (pe_bm PySem.F.plainAttrs_list PySem.F.slot_list_append PySem.F.type_list_append mt_append (pv 7) (pa_cons (pe_tup (pa_cons pe_str (pa_cons pe_non pa_nil))) pa_nil)))
(pss_one (ps_ret (pe_cmpR op_eq (pe_callB (call_reprD hg hr.units) (by rfl) T.n_repr (by decide +kernel) (pa_cons (pv 6) pa_nil)) (pe_callB (call_reprD hg hr.units) (by rfl) T.n_repr (by decide +kernel) (pa_cons (pv 7) pa_nil)) (nomark _)))))))))))))))))))))), ?_⟩
    obtain ⟨px, hp0⟩ := hP.at_
    have lu : us.length = ts.length := hts.length
    have l1 := hf.1
    have l4 := hf.2.1
    refine ⟨fun σ' H1 => ∃ (k : Nat) (v u : V), k ≤ ts.length ∧ (∀ H2, ButT p H1 H2 → ArgT K H2 v false) ∧ (∀ H2, ButT p H1 H2 → ArgT K H2 u false) ∧ But p H H1 ∧ Pen H1 p c (n + 3) ∧ Tabs Tb H1 ∧ σ' = [some (.ref p), some (.ref l), some (.int (k : Nat)), some v, some u, none, none, none, none, none, none, none], ?_, ?_⟩
    · refine ⟨.ref p, rfl, .ref l, rfl, .ref l, _, rfl, .inl ⟨_, .of hl, rfl⟩, _, 1, rfl, rfl, p, c, n, _, rfl, hP, by omega, by omega, small_pow (by omega) (by omega), fun d H1 d0 d1 k1 pen1 => ?_⟩
      refine ⟨.ref p, rfl, p, c, n + 1, rfl, pen1, by omega, fun v H2 no k2 pen2 => ?_⟩
      refine ⟨.ref p, rfl, p, c, n + 2, rfl, pen2, by omega, fun u H3 no2 k3 pen3 => ?_⟩
      refine ⟨szn 3, fun tp ntp => ?_⟩
      generalize hH4 : upd H3 tp _ = H4
      obtain ⟨s4, e4⟩ := alloc_eq ntp hH4
      refine ⟨tp, _, rfl, .of e4, rfl, .int d, [v, u], rfl, v, [u], rfl, u, [], rfl, rfl, ?_⟩
      have k4 : But p H3 H4 := .same s4
      obtain ⟨k, rfl⟩ : ∃ k : Nat, d = (k : Int) := ⟨d.toNat, (Int.toNat_of_nonneg d0).symm⟩
      exact ⟨k, v, u, by omega, fun H5 z => no H5 ((k3.trans k4).t.trans z), fun H5 z => no2 H5 (k4.t.trans z), ((k1.trans k2).trans k3).trans k4, pen3.same s4, LC.Tabs.but hT (((k1.trans k2).trans k3).trans k4) hp0, rfl⟩
    rintro σ' H1 ⟨k, v, u, kl, av, au, k1, pen1, t1, rfl⟩
    have hl1 := k1 _ _ lp hl
    have hts1 := hts.but k1 hp0
    obtain ⟨px1, hp1⟩ := pen1.at_
    have args1 : Paired (ArgO K H1) us (ts.map some) := args_fine hts1 hf.2.2.1
    -- bent
    refine ⟨fun σ' H2 => Same H1 H2 ∧ ∃ b, H1 b = none ∧ H2 b = some (.lst (us.take k ++ [v] ++ us.drop k)) ∧ σ' = [some (.ref p), some (.ref l), some (.int (k : Nat)), some v, some u, some (.ref b), none, none, none, none, none, none], ?_, ?_⟩
    · have ct : cutV us none (some ((k : Nat) : Int)) = us.take k := cut_to (by omega)
      have cf : cutV us (some ((k : Nat) : Int)) none = us.drop k := cut_from (k := k) (by omega)
      refine ⟨.ref l, rfl, .int (k : Nat), rfl, (k : Nat), rfl, l, _, rfl, .of hl1, fun a na => ?_⟩
      rw [ct]
      generalize hHa : upd H1 a _ = Ha
      obtain ⟨sa, ea⟩ := alloc_eq na hHa
      refine ⟨v, rfl, szn 1, fun lb nlb => ?_⟩
      generalize hHb : upd Ha lb _ = Hb
      obtain ⟨sb, eb⟩ := alloc_eq nlb hHb
      refine ⟨a, lb, _, _, rfl, rfl, sb _ _ ea, eb, sz_le (by rw [List.length_take]; simp only [List.length_cons, List.length_nil]; omega), fun r1 n1 => ?_⟩
      generalize hHc : upd Hb r1 _ = Hc
      obtain ⟨scc, ecc⟩ := alloc_eq n1 hHc
      have s1c : Same H1 Hc := (sa.trans sb).trans scc
      refine ⟨.ref l, rfl, .int (k : Nat), rfl, (k : Nat), rfl, l, _, rfl, .of (s1c _ _ hl1), fun c2 nc2 => ?_⟩
      rw [cf]
      generalize hHd : upd Hc c2 _ = Hd
      obtain ⟨sd, ed⟩ := alloc_eq nc2 hHd
      refine ⟨r1, c2, _, _, rfl, rfl, sd _ _ ecc, ed, sz_le (by rw [List.length_append, List.length_take, List.length_drop]; simp only [List.length_cons, List.length_nil]; omega), fun r2 n2 => ?_⟩
      generalize hHe : upd Hd r2 _ = He
      obtain ⟨se, ee⟩ := alloc_eq n2 hHe
      exact ⟨(s1c.trans sd).trans se, r2, none_back (s1c.trans sd) n2, ee, rfl⟩
    rintro σ' H2 ⟨s2, b, nb, hb, rfl⟩
    have bp : b ≠ p := new_ne hp1 nb
    have lb : (us.take k ++ [v] ++ us.drop k).length = ts.length + 1 := by
      rw [List.length_append, List.length_append, List.length_take, List.length_drop]
      simp only [List.length_cons, List.length_nil]
      omega
    obtain ⟨d0, so, dlt, dge, dsh⟩ : ∃ d0 : WP, sumOut ((ts.take k).map some ++ none :: (ts.drop k).map some) = .error (d0.1, d0.v) ∧ (ts.length + 1 < 5 → d0 = wpS (k : Nat)) ∧ (¬ ts.length + 1 < 5 → d0 = wpM 4) ∧ Shw d0.d 1 300 := by
      by_cases lt : ts.length + 1 < 5
      · refine ⟨wpS (k : Nat), ?_, fun _ => rfl, fun z => absurd lt z, wpS_shw (by omega)⟩
        rw [sumOut_at (by rw [List.length_take, List.length_map, List.length_drop]; omega), List.length_take, Nat.min_eq_left kl]
        rfl
      · exact ⟨wpM 4, sumOut_many (by rw [List.length_append, List.length_map, List.length_cons, List.length_map, List.length_take, List.length_drop]; omega), fun z => absurd z lt, fun _ => rfl, wpM_shw (by decide)⟩
    have tsAt : ∀ H', ButT p H1 H' → Paired (ArgO K H') us (ts.map some) := fun H' z => args_fine (hts1.butT z hp1) hf.2.2.1
    have bentAt : ∀ H', ButT p H1 H' → Paired (ArgO K H') (us.take k ++ [v] ++ us.drop k) ((ts.take k).map some ++ none :: (ts.drop k).map some) := fun H' z => by
      rw [List.append_assoc, List.map_take, List.map_drop]
      exact Paired.append (take_pairs k (tsAt H' z)) (.cons (av H' z) (drop_pairs k (tsAt H' z)))
    -- told
    refine ⟨fun σ' H3 => ∃ tl : Addr, Free H2 tl ∧ tl ≠ p ∧ tl ≠ c ∧ ButT p H2 H3 ∧ Pen H3 p c (n + 3) ∧ Tabs Tb H3 ∧ Lst2 K H3 tl [d0] ∧ σ' = [some (.ref p), some (.ref l), some (.int (k : Nat)), some v, some u, some (.ref b), some (.ref tl), none, none, none, none, none], ?_, ?_⟩
    · refine heard_sum (Tabs.ext t1 s2) so (fun H0 R e0 told => ?_) fun t H3 e3 t3 ht3 => ?_
      · exact ⟨.ref b, rfl, told b _ H0 (.refl _) (.of (e0 _ _ hb fun _ z => nomatch z)) (bentAt H0 ((ButT.of s2).trans (ButT.ext e0))) (by omega)⟩
      · refine ⟨szn 1, fun tl ntl => ?_⟩
        generalize hHa : upd H3 tl _ = Ha
        obtain ⟨sa, ea⟩ := alloc_eq ntl hHa
        have pen3 := (pen1.same s2).ext e3
        exact ⟨tl, Free.back (ButT.ext e3) (.of ntl) (pen3.newP ntl), pen3.newP ntl, pen3.newC ntl, (ButT.ext e3).trans (ButT.of sa), pen3.same sa, Tabs.ext t3 sa, ⟨_, ea, .cons ⟨t, rfl, .of (sa _ _ ht3)⟩ .nil⟩, rfl⟩
    rintro σ' H3 ⟨tl, ntl, tlp, tlc, k3, pen3, t3, lt3, rfl⟩
    -- due
    refine ⟨fun σ' H4 => ∃ dl : Addr, Same H3 H4 ∧ H3 dl = none ∧ Lst2 K H4 dl [d0] ∧ σ' = [some (.ref p), some (.ref l), some (.int (k : Nat)), some v, some u, some (.ref b), some (.ref tl), some (.ref dl), none, none, none, none], ?_, ?_⟩
    · refine ⟨.ref b, rfl, .ref b, _, rfl, .inl ⟨_, .of (k3 _ _ bp hb fun _ z => nomatch z), rfl⟩, _, 5, rfl, rfl, _, rfl, iteD (fun lt => ?_) (fun lt => ?_)⟩
      · have e0 := dlt (by omega)
        refine ⟨.int (k : Nat), rfl, szn 2, fun t nt => ?_⟩
        generalize hHa : upd H3 t _ = Ha
        obtain ⟨sa, ea⟩ := alloc_eq nt hHa
        refine ⟨szn 1, fun dl ndl => ?_⟩
        generalize hHb : upd Ha dl _ = Hb
        obtain ⟨sb, eb⟩ := alloc_eq ndl hHb
        exact ⟨dl, sa.trans sb, none_back sa ndl, ⟨_, eb, .cons ⟨t, rfl, by rw [e0]; exact .of (sb _ _ ea)⟩ .nil⟩, rfl⟩
      · have e0 := dge (by omega)
        refine ⟨szn 2, fun t nt => ?_⟩
        generalize hHa : upd H3 t _ = Ha
        obtain ⟨sa, ea⟩ := alloc_eq nt hHa
        refine ⟨szn 1, fun dl ndl => ?_⟩
        generalize hHb : upd Ha dl _ = Hb
        obtain ⟨sb, eb⟩ := alloc_eq ndl hHb
        exact ⟨dl, sa.trans sb, none_back sa ndl, ⟨_, eb, .cons ⟨t, rfl, by rw [e0]; exact .of (sb _ _ ea)⟩ .nil⟩, rfl⟩
    rintro σ' H4 ⟨dl, s4, ndl, ld4, rfl⟩
    have hB : Both K Tb p c tl dl (n + 3) H1 H4 [d0] [d0] := by
      obtain ⟨vs3, e3, r3⟩ := lt3
      obtain ⟨px3, hp3⟩ := pen3.at_
      exact ⟨(ButT.of s2).trans (k3.trans (ButT.of s4)), pen3.same s4, Tabs.ext t3 s4, ⟨vs3, s4 _ _ e3, twos_butT (ButT.of s4) hp3 r3⟩, ld4, (new_ne e3 ndl).symm, tlp, pen3.newP ndl, tlc, pen3.newC ndl, Free.back (ButT.of s2) ntl tlp, Free.back ((ButT.of s2).trans k3) (.of ndl) (pen3.newP ndl)⟩
    clear lt3 ld4
    have l4' : ∀ {H}, ButT p H1 H → H l = some (.lst us) := fun z => z.lst lp hl1
    -- some
    refine ⟨fun σ' H5 => Same H4 H5 ∧ ∃ a, H4 a = none ∧ H5 a = some (.lst (us.take 2 ++ [v, u])) ∧ σ' = [some (.ref p), some (.ref l), some (.int (k : Nat)), some v, some u, some (.ref b), some (.ref tl), some (.ref dl), some (.ref a), none, none, none], ?_, ?_⟩
    · have ct : cutV us none (some 2) = us.take 2 := cut_take 2
      refine ⟨.ref l, rfl, 2, rfl, l, _, rfl, .of (l4' hB.k), fun a na => ?_⟩
      rw [ct]
      generalize hHa : upd H4 a _ = Ha
      obtain ⟨sa, ea⟩ := alloc_eq na hHa
      refine ⟨v, rfl, u, rfl, szn 2, fun lb nlb => ?_⟩
      generalize hHb : upd Ha lb _ = Hb
      obtain ⟨sb, eb⟩ := alloc_eq nlb hHb
      refine ⟨a, lb, _, _, rfl, rfl, sb _ _ ea, eb, sz_le (by rw [List.length_take]; simp only [List.length_cons, List.length_nil]; omega), fun r1 n1 => ?_⟩
      generalize hHc : upd Hb r1 _ = Hc
      obtain ⟨scc, ecc⟩ := alloc_eq n1 hHc
      exact ⟨(sa.trans sb).trans scc, r1, none_back (sa.trans sb) n1, ecc, rfl⟩
    rintro σ' H5 ⟨s5, so5, nso, hso, rfl⟩
    have hB5 := hB.same s5
    obtain ⟨vs5, et5, _⟩ := id hB5.ta
    refine ⟨fun σ' H6 => Both K Tb p c tl dl (n + 3) H1 H6 [d0, wpS ((ts.take 2).length : Nat)] [d0] ∧ σ' = [some (.ref p), some (.ref l), some (.int (k : Nat)), some v, some u, some (.ref b), some (.ref tl), some (.ref dl), some (.ref so5), none, none, none], ?_, ?_⟩
    · refine ⟨.ref tl, rfl, .inl ⟨rfl, _, .inl (.inl et5)⟩, ?_⟩
      have so2 : sumOut ((ts.take 2).map some ++ none :: [none]) = .error ((wpS ((ts.take 2).length : Nat)).1, (wpS ((ts.take 2).length : Nat)).v) := sumOut_at (by rw [List.length_take]; simp only [List.length_cons, List.length_nil]; omega)
      refine heard_sum hB5.tabs so2 (fun H0 R e0 told => ?_) fun t H6 e6 t6 ht6 => ?_
      · have z0 : ButT p H1 H0 := hB5.k.trans (ButT.ext e0)
        refine ⟨.ref so5, rfl, told so5 _ H0 (.refl _) (.of (e0 _ _ hso fun _ z => nomatch z)) ?_ (by rw [List.length_append, List.length_take]; simp only [List.length_cons, List.length_nil]; omega)⟩
        rw [List.map_take]
        exact Paired.append (take_pairs 2 (tsAt H0 z0)) (.cons (av H0 z0) (.cons (au H0 z0) .nil))
      · have hB6 := hB5.ext e6 t6
        obtain ⟨vs6, et6, r6⟩ := id hB6.ta
        refine ⟨tl, _, _, rfl, rfl, et6, sz_lt (by rw [r6.length]; show 1 < 100000; decide), ?_⟩
        exact ⟨hB6.add1 et6 ⟨t, rfl, .of ht6⟩ rfl, rfl⟩
    rintro σ' H6 ⟨hB6, rfl⟩
    obtain ⟨vs6, et6, _⟩ := id hB6.da
    have hl6 := l4' hB6.k
    refine ⟨fun σ' H7 => Both K Tb p c tl dl (n + 3) H1 H7 [d0, wpS ((ts.take 2).length : Nat)] [d0, wpS ((ts.take 2).length : Nat)] ∧ σ' = [some (.ref p), some (.ref l), some (.int (k : Nat)), some v, some u, some (.ref b), some (.ref tl), some (.ref dl), some (.ref so5), none, none, none], ?_, ?_⟩
    · have ct : cutV us none (some 2) = us.take 2 := cut_take 2
      refine ⟨.ref dl, rfl, .inl ⟨rfl, _, .inl (.inl et6)⟩, .ref l, rfl, 2, rfl, l, _, rfl, .of hl6, fun a na => ?_⟩
      rw [ct]
      generalize hHa : upd H6 a _ = Ha
      obtain ⟨sa, ea⟩ := alloc_eq na hHa
      refine ⟨.ref a, _, rfl, .inl ⟨_, .of ea, rfl⟩, szn 2, fun t nt => ?_⟩
      generalize hHb : upd Ha t _ = Hb
      obtain ⟨sb, eb⟩ := alloc_eq nt hHb
      have hBb := hB6.same (sa.trans sb)
      obtain ⟨vsb, etb, rb⟩ := id hBb.da
      refine ⟨dl, _, _, rfl, rfl, etb, sz_lt (by rw [rb.length]; show 1 < 100000; decide), ?_⟩
      exact ⟨hBb.add2 etb ⟨t, rfl, by rw [List.length_take, ← lu, ← List.length_take]; exact .of eb⟩ rfl, rfl⟩
    rintro σ' H7 ⟨hB7, rfl⟩
    generalize hdS : wpS ((ts.take 2).length : Nat) = dS at *
    have dSs : Shw dS.d 1 300 := by
      rw [← hdS]
      exact wpS_shw (by rw [List.length_take]; omega)
    -- five
    have hl7 := l4' hB7.k
    refine ⟨fun σ' H8 => Same H7 H8 ∧ ∃ (f9 : Addr) (xs : List V) (os : List (Option Term)), H7 f9 = none ∧ H8 f9 = some (.lst xs) ∧ xs.length = 5 ∧ os.length = 5 ∧ (∀ H', ButT p H1 H' → Paired (ArgO K H') xs os) ∧ σ' = [some (.ref p), some (.ref l), some (.int (k : Nat)), some v, some u, some (.ref b), some (.ref tl), some (.ref dl), some (.ref so5), some (.ref f9), none, none], ?_, ?_⟩
    · refine ⟨v, rfl, szn 1, fun lb nlb => ?_⟩
      generalize hHb : upd H7 lb _ = Hb
      obtain ⟨sb, eb⟩ := alloc_eq nlb hHb
      have hlb := sb _ _ hl7
      refine ⟨.ref l, rfl, .ref l, rfl, l, l, _, _, rfl, rfl, hlb, hlb, sz_le (by omega), fun r1 n1 => ?_⟩
      generalize hHc : upd Hb r1 _ = Hc
      obtain ⟨scc, ecc⟩ := alloc_eq n1 hHc
      have hlc := scc _ _ hlb
      refine ⟨.ref l, rfl, r1, l, _, _, rfl, rfl, ecc, hlc, sz_le (by rw [List.length_append]; omega), fun r2 n2 => ?_⟩
      generalize hHd : upd Hc r2 _ = Hd
      obtain ⟨sd, ed⟩ := alloc_eq n2 hHd
      have hld := sd _ _ hlc
      refine ⟨.ref l, rfl, r2, l, _, _, rfl, rfl, ed, hld, sz_le (by rw [List.length_append, List.length_append]; omega), fun r3 n3 => ?_⟩
      generalize hHe : upd Hd r3 _ = He
      obtain ⟨se, ee⟩ := alloc_eq n3 hHe
      have ct : cutV (us ++ us ++ us ++ us) none (some 3) = (us ++ us ++ us ++ us).take 3 := cut_take 3
      refine ⟨3, rfl, r3, _, rfl, .of ee, fun a na => ?_⟩
      rw [ct]
      generalize hHf : upd He a _ = Hf
      obtain ⟨sf, ef⟩ := alloc_eq na hHf
      have sbf := ((scc.trans sd).trans se).trans sf
      refine ⟨lb, a, _, _, rfl, rfl, sbf _ _ eb, ef, sz_le (by rw [List.length_take]; simp only [List.length_cons, List.length_nil]; omega), fun r4 n4 => ?_⟩
      generalize hHg : upd Hf r4 _ = Hg
      obtain ⟨sg, eg⟩ := alloc_eq n4 hHg
      refine ⟨u, rfl, szn 1, fun lc nlc => ?_⟩
      generalize hHh : upd Hg lc _ = Hh
      obtain ⟨sh, eh⟩ := alloc_eq nlc hHh
      refine ⟨r4, lc, _, _, rfl, rfl, sh _ _ eg, eh, sz_le (by rw [List.length_append, List.length_take]; simp only [List.length_cons, List.length_nil]; omega), fun r5 n5 => ?_⟩
      generalize hHi : upd Hh r5 _ = Hi
      obtain ⟨si, ei⟩ := alloc_eq n5 hHi
      have sall := ((sb.trans sbf).trans sg).trans sh
      have l3 : (us ++ us ++ us ++ us).length = 4 * ts.length := by
        rw [List.length_append, List.length_append, List.length_append]
        omega
      refine ⟨sall.trans si, r5, _, none :: ((ts ++ ts ++ ts ++ ts).take 3).map some ++ [none], none_back sall n5, ei, ?_, ?_, fun H' z => ?_, rfl⟩
      · rw [List.length_append, List.length_append, List.length_take, l3]
        simp only [List.length_cons, List.length_nil]
        omega
      · have l3 : (ts ++ ts ++ ts ++ ts).length = 4 * ts.length := by
          rw [List.length_append, List.length_append, List.length_append]
          omega
        rw [List.length_append, List.length_cons, List.length_map, List.length_take, l3]
        simp only [List.length_cons, List.length_nil]
        omega
      · have p4 : Paired (ArgO K H') (us ++ us ++ us ++ us) ((ts ++ ts ++ ts ++ ts).map some) := by
          rw [List.map_append, List.map_append, List.map_append]
          exact Paired.append (Paired.append (Paired.append (tsAt H' z) (tsAt H' z)) (tsAt H' z)) (tsAt H' z)
        rw [List.map_take]
        exact Paired.append (Paired.cons (av H' z) (take_pairs 3 p4)) (.cons (au H' z) .nil)
    rintro σ' H8 ⟨s8, f9, xs5, os5, nf9, hf9, lx5, lo5, at5, rfl⟩
    have hB8 := hB7.same s8
    obtain ⟨vs8, et8, _⟩ := id hB8.ta
    have ftl : f9 ≠ tl := by
      obtain ⟨_, e, _⟩ := hB7.ta
      exact new_ne e nf9
    refine ⟨fun σ' H9 => H9 f9 = some (.lst xs5) ∧ Both K Tb p c tl dl (n + 3) H1 H9 [d0, dS, wpM 4] [d0, dS] ∧ σ' = [some (.ref p), some (.ref l), some (.int (k : Nat)), some v, some u, some (.ref b), some (.ref tl), some (.ref dl), some (.ref so5), some (.ref f9), none, none], ?_, ?_⟩
    · refine ⟨.ref tl, rfl, .inl ⟨rfl, _, .inl (.inl et8)⟩, ?_⟩
      have so2 : sumOut os5 = .error ((wpM 4).1, (wpM 4).v) := sumOut_many (by omega)
      refine heard_sum hB8.tabs so2 (fun H0 R e0 told => ?_) fun t H9 e9 t9 ht9 => ?_
      · exact ⟨.ref f9, rfl, told f9 _ H0 (.refl _) (.of (e0 _ _ hf9 fun _ z => nomatch z)) (at5 H0 (hB8.k.trans (ButT.ext e0))) (by omega)⟩
      · have hB9 := hB8.ext e9 t9
        obtain ⟨vs9, et9, r9⟩ := id hB9.ta
        refine ⟨tl, _, _, rfl, rfl, et9, sz_lt (by rw [r9.length]; show 2 < 100000; decide), ?_⟩
        refine ⟨?_, hB9.add1 et9 ⟨t, rfl, .of ht9⟩ rfl, rfl⟩
        rw [upd_ne ftl]
        exact e9 _ _ hf9 fun _ z => nomatch z
    rintro σ' H9 ⟨hf9, hB9, rfl⟩
    obtain ⟨vs9, et9, _⟩ := id hB9.da
    refine ⟨fun σ' H10 => Both K Tb p c tl dl (n + 3) H1 H10 [d0, dS, wpM 4] [d0, dS, wpM 4] ∧ σ' = [some (.ref p), some (.ref l), some (.int (k : Nat)), some v, some u, some (.ref b), some (.ref tl), some (.ref dl), some (.ref so5), some (.ref f9), none, none], ?_, ?_⟩
    · refine ⟨.ref dl, rfl, .inl ⟨rfl, _, .inl (.inl et9)⟩, .ref f9, rfl, .ref f9, _, rfl, .inl ⟨_, .of hf9, rfl⟩, rfl, _, rfl, iteD (fun e => ?_) (fun e => absurd (by rw [lx5]; rfl) e)⟩
      refine ⟨szn 2, fun t nt => ?_⟩
      generalize hHb : upd H9 t _ = Hb
      obtain ⟨sb, eb⟩ := alloc_eq nt hHb
      have hBb := hB9.same sb
      obtain ⟨vsb, etb, rb⟩ := id hBb.da
      refine ⟨dl, _, _, rfl, rfl, etb, sz_lt (by rw [rb.length]; show 2 < 100000; decide), ?_⟩
      exact ⟨hBb.add2 etb ⟨t, rfl, .of eb⟩ rfl, rfl⟩
    rintro σ' H10 ⟨hB10, rfl⟩
    clear hf9 et9 et8
    -- names
    refine ⟨fun σ' H11 => ∃ (r10 : Addr) (na nb nc nd : Str), [na, nb, nc, nd].Nodup ∧ (∀ z ∈ [na, nb, nc, nd], nameB z = true) ∧ r10 ≠ p ∧ H11 r10 = some (.lst [.str na, .str nb, .str nc, .str nd]) ∧ Both K Tb p c tl dl (n + 13) H1 H11 [d0, dS, wpM 4] [d0, dS, wpM 4] ∧ σ' = [some (.ref p), some (.ref l), some (.int (k : Nat)), some v, some u, some (.ref b), some (.ref tl), some (.ref dl), some (.ref so5), some (.ref f9), some (.ref r10), none], ?_, ?_⟩
    · refine ⟨.ref p, rfl, p, c, n + 3, 4, rfl, hB10.pen, by omega, by decide, by decide, fun r ys H11 nd nm ln nr er rp k11 pen11 => ?_⟩
      obtain ⟨na, nb, nc, nd', rfl⟩ : ∃ a b c d, ys = [a, b, c, d] := by
        match ys, ln with
        | [a, b, c, d], _ => exact ⟨a, b, c, d, rfl⟩
        | [], h => exact absurd h (by decide)
        | [_], h => exact absurd h (by simp)
        | [_, _], h => exact absurd h (by simp)
        | [_, _, _], h => exact absurd h (by simp)
        | _ :: _ :: _ :: _ :: _ :: _, h => exact absurd h (by simp; omega)
      obtain ⟨px10, hp10⟩ := hB10.pen.at_
      exact ⟨r, na, nb, nc, nd', nd, nm, rp, er, hB10.butT k11.t pen11 (LC.Tabs.but hB10.tabs k11 hp10), rfl⟩
    rintro σ' H11 ⟨r10, na, nb, nc, nd, nodup, nms, r10p, h10, hB11, rfl⟩
    have nma := nms na (by simp)
    have nmb := nms nb (by simp)
    have nmc := nms nc (by simp)
    have nmd := nms nd (by simp)
    -- wide
    refine ⟨fun σ' H12 => ∃ (w11 : Addr) (ws : List V) (fc : Int), -999999 ≤ fc ∧ fc ≤ 999999 ∧ H12 w11 = some (.lst ws) ∧ TermsV K H12 ws [(1, [na, nb, nc]), (fc, [nd, na])] ∧ w11 ≠ p ∧ w11 ≠ tl ∧ w11 ≠ dl ∧ Both K Tb p c tl dl (n + 16) H1 H12 [d0, dS, wpM 4] [d0, dS, wpM 4] ∧ σ' = [some (.ref p), some (.ref l), some (.int (k : Nat)), some v, some u, some (.ref b), some (.ref tl), some (.ref dl), some (.ref so5), some (.ref f9), some (.ref r10), some (.ref w11)], ?_, ?_⟩
    · have ct : cutV [V.str na, .str nb, .str nc, .str nd] none (some 3) = [.str na, .str nb, .str nc] := cut_take 3
      refine ⟨.ref r10, rfl, 3, rfl, r10, _, rfl, .of h10, fun a na' => ?_⟩
      rw [ct]
      generalize hHa : upd H11 a _ = Ha
      obtain ⟨sa, ea⟩ := alloc_eq na' hHa
      refine ⟨a, _, rfl, .inl ⟨.of ea, fun t1 nt1 => ?_⟩⟩
      generalize hHb : upd Ha t1 _ = Hb
      obtain ⟨sb, eb⟩ := alloc_eq nt1 hHb
      refine ⟨szn 2, fun t2 nt2 => ?_⟩
      generalize hHc : upd Hb t2 _ = Hc
      obtain ⟨scc, ecc⟩ := alloc_eq nt2 hHc
      have sac := (sa.trans sb).trans scc
      have hBc := hB11.same sac
      refine ⟨.ref p, rfl, p, c, n + 13, rfl, hBc.pen, by omega, fun fc Hd fc0 fc1 kd pend => ?_⟩
      obtain ⟨pxc, hpc⟩ := hBc.pen.at_
      have hBd := hBc.butT kd.t pend (LC.Tabs.but hBc.tabs kd hpc)
      have h10d := kd _ _ r10p (sac _ _ h10)
      have tq1 : TermV K Hc (.ref t2) (1, [na, nb, nc]) := ⟨t2, t1, rfl, .of ecc, .of (scc _ _ eb)⟩
      have tq1d := tq1.but kd hpc
      refine ⟨.ref r10, rfl, r10, _, 3, .str nd, rfl, rfl, .of h10d, rfl, .ref r10, rfl, r10, _, 0, .str na, rfl, rfl, .of h10d, rfl, szn 2, fun t3 nt3 => ?_⟩
      generalize hHe : upd Hd t3 _ = He
      obtain ⟨se, ee⟩ := alloc_eq nt3 hHe
      refine ⟨szn 2, fun t4 nt4 => ?_⟩
      generalize hHf : upd He t4 _ = Hf
      obtain ⟨sf, ef⟩ := alloc_eq nt4 hHf
      refine ⟨szn 2, fun w11 nw => ?_⟩
      generalize hHg : upd Hf w11 _ = Hg
      obtain ⟨sg, eg⟩ := alloc_eq nw hHg
      have hBf := hBd.same (se.trans sf)
      have tq2 : TermV K Hf (.ref t4) (fc, [nd, na]) := ⟨t4, t3, rfl, .of ef, .of (sf _ _ ee)⟩
      obtain ⟨_, eT, _⟩ := hBf.ta
      obtain ⟨_, eD, _⟩ := hBf.da
      exact ⟨w11, _, fc, fc0, fc1, eg, .cons (tq1d.same ((se.trans sf).trans sg)) (.cons (tq2.same sg) .nil), hBf.pen.newP nw, new_ne eT nw, new_ne eD nw, hBf.same sg, rfl⟩
    rintro σ' H12 ⟨w11, ws, fc, fc0, fc1, hw, htw, wp, wt, wd, hB12, rfl⟩
    have lw : ws.length = 2 := htw.length
    have fineW : ∀ t ∈ [((1 : Int), [na, nb, nc]), (fc, [nd, na])], TermFine t := fun t ht => by
      rcases List.mem_cons.mp ht with e | ht
      · rw [e]
        exact ⟨by show (-999999 : Int) ≤ 1; decide, by show (1 : Int) ≤ 999999; decide, by show 3 ≤ 3; decide, fun z hz => nms z (by simp at hz ⊢; rcases hz with h | h | h <;> simp [h])⟩
      · rw [List.mem_singleton.mp ht]
        exact ⟨fc0, fc1, by show 2 ≤ 3; decide, fun z hz => nms z (by simp at hz ⊢; rcases hz with h | h <;> simp [h])⟩
    obtain ⟨vs12, et12, _⟩ := id hB12.ta
    -- told.append(.. wide)
    refine ⟨fun σ' H13 => H13 w11 = some (.lst ws) ∧ TermsV K H13 ws [(1, [na, nb, nc]), (fc, [nd, na])] ∧ Both K Tb p c tl dl (n + 16) H1 H13 [d0, dS, wpM 4, wpM 3] [d0, dS, wpM 4] ∧ σ' = [some (.ref p), some (.ref l), some (.int (k : Nat)), some v, some u, some (.ref b), some (.ref tl), some (.ref dl), some (.ref so5), some (.ref f9), some (.ref r10), some (.ref w11)], ?_, ?_⟩
    · refine ⟨.ref tl, rfl, .inl ⟨rfl, _, .inl (.inl et12)⟩, ?_⟩
      have so2 : sumOut ([((1 : Int), [na, nb, nc]), (fc, [nd, na])].map some) = .error ((wpM 3).1, (wpM 3).v) := sumOut_wide (by show 1 ≤ 2; decide) (by show 2 ≤ 4; decide) (by rw [wide_unlike nodup]; decide)
      refine heard_sum hB12.tabs so2 (fun H0 R e0 told => ?_) fun t H9 e9 t9 ht9 => ?_
      · obtain ⟨pxx, hpx⟩ := hB12.pen.at_
        exact ⟨.ref w11, rfl, told w11 _ H0 (.refl _) (.of (e0 _ _ hw fun _ z => nomatch z)) (args_fine (htw.butT (ButT.ext e0) hpx) fineW) (by omega)⟩
      · have hB9 := hB12.ext e9 t9
        obtain ⟨vs9, et9, r9⟩ := id hB9.ta
        obtain ⟨pxx, hpx⟩ := hB12.pen.at_
        refine ⟨tl, _, _, rfl, rfl, et9, sz_lt (by rw [r9.length]; show 3 < 100000; decide), ?_⟩
        generalize hHz : upd H9 tl _ = Hz
        obtain ⟨kz, ez⟩ := put_but hHz
        exact ⟨kz _ _ wt (e9 _ _ hw fun _ z => nomatch z), (htw.butT (ButT.ext e9) hpx).but kz et9, hB9.add1 et9 ⟨t, rfl, .of ht9⟩ hHz, rfl⟩
    rintro σ' H13 ⟨hw13, htw13, hB13, rfl⟩
    clear et12 hw htw
    obtain ⟨vs13, et13, _⟩ := id hB13.da
    refine ⟨fun σ' H14 => H14 w11 = some (.lst ws) ∧ TermsV K H14 ws [(1, [na, nb, nc]), (fc, [nd, na])] ∧ Both K Tb p c tl dl (n + 16) H1 H14 [d0, dS, wpM 4, wpM 3] [d0, dS, wpM 4, wpM 3] ∧ σ' = [some (.ref p), some (.ref l), some (.int (k : Nat)), some v, some u, some (.ref b), some (.ref tl), some (.ref dl), some (.ref so5), some (.ref f9), some (.ref r10), some (.ref w11)], ?_, ?_⟩
    · refine ⟨.ref dl, rfl, .inl ⟨rfl, _, .inl (.inl et13)⟩, szn 2, fun t nt => ?_⟩
      generalize hHb : upd H13 t _ = Hb
      obtain ⟨sb, eb⟩ := alloc_eq nt hHb
      have hBb := hB13.same sb
      obtain ⟨vsb, etb, rb⟩ := id hBb.da
      refine ⟨dl, _, _, rfl, rfl, etb, sz_lt (by rw [rb.length]; show 3 < 100000; decide), ?_⟩
      generalize hHz : upd Hb dl _ = Hz
      obtain ⟨kz, ez⟩ := put_but hHz
      exact ⟨kz _ _ wd (sb _ _ hw13), (htw13.same sb).but kz etb, hBb.add2 etb ⟨t, rfl, .of eb⟩ hHz, rfl⟩
    rintro σ' H14 ⟨hw14, htw14, hB14, rfl⟩
    clear et13 hw13 htw13
    obtain ⟨vs14, et14, _⟩ := id hB14.ta
    -- told.append(.. wide + [odd])
    refine ⟨fun σ' H15 => Both K Tb p c tl dl (n + 16) H1 H15 [d0, dS, wpM 4, wpM 3, wpS 2] [d0, dS, wpM 4, wpM 3] ∧ σ' = [some (.ref p), some (.ref l), some (.int (k : Nat)), some v, some u, some (.ref b), some (.ref tl), some (.ref dl), some (.ref so5), some (.ref f9), some (.ref r10), some (.ref w11)], ?_, ?_⟩
    · refine ⟨.ref tl, rfl, .inl ⟨rfl, _, .inl (.inl et14)⟩, ?_⟩
      have so2 : sumOut ([((1 : Int), [na, nb, nc]), (fc, [nd, na])].map some ++ none :: []) = .error ((wpS 2).1, (wpS 2).v) := sumOut_at (by show 3 ≤ 4; decide)
      refine heard_sum hB14.tabs so2 (fun H0 R e0 told => ?_) fun t H9 e9 t9 ht9 => ?_
      · obtain ⟨pxx, hpx⟩ := hB14.pen.at_
        have tw := htw14.butT (ButT.ext e0) hpx
        refine ⟨.ref w11, rfl, v, rfl, szn 1, fun lb nlb => ?_⟩
        generalize hHb : upd H0 lb _ = Hb
        obtain ⟨sb, eb⟩ := alloc_eq nlb hHb
        refine ⟨w11, lb, _, _, rfl, rfl, sb _ _ (e0 _ _ hw14 fun _ z => nomatch z), eb, sz_le (by rw [lw]; show 3 ≤ 100000; decide), fun r nr => ?_⟩
        generalize hHc : upd Hb r _ = Hc
        obtain ⟨scc, ecc⟩ := alloc_eq nr hHc
        have z0 : ButT p H1 Hc := (hB14.k.trans (ButT.ext e0)).trans (ButT.of (sb.trans scc))
        exact told r _ Hc (sb.trans scc) (.of ecc) (Paired.append (args_fine (tw.same (sb.trans scc)) fineW) (.cons (av Hc z0) .nil)) (by rw [List.length_append, lw]; show 3 ≤ 5; decide)
      · have hB9 := hB14.ext e9 t9
        obtain ⟨vs9, et9, r9⟩ := id hB9.ta
        refine ⟨tl, _, _, rfl, rfl, et9, sz_lt (by rw [r9.length]; show 4 < 100000; decide), ?_⟩
        exact ⟨hB9.add1 et9 ⟨t, rfl, .of ht9⟩ rfl, rfl⟩
    rintro σ' H15 ⟨hB15, rfl⟩
    obtain ⟨vs15, et15, _⟩ := id hB15.da
    refine ⟨fun σ' H16 => Both K Tb p c tl dl (n + 16) H1 H16 [d0, dS, wpM 4, wpM 3, wpS 2] [d0, dS, wpM 4, wpM 3, wpS 2] ∧ σ' = [some (.ref p), some (.ref l), some (.int (k : Nat)), some v, some u, some (.ref b), some (.ref tl), some (.ref dl), some (.ref so5), some (.ref f9), some (.ref r10), some (.ref w11)], ?_, ?_⟩
    · refine ⟨.ref dl, rfl, .inl ⟨rfl, _, .inl (.inl et15)⟩, szn 2, fun t nt => ?_⟩
      generalize hHb : upd H15 t _ = Hb
      obtain ⟨sb, eb⟩ := alloc_eq nt hHb
      have hBb := hB15.same sb
      obtain ⟨vsb, etb, rb⟩ := id hBb.da
      refine ⟨dl, _, _, rfl, rfl, etb, sz_lt (by rw [rb.length]; show 4 < 100000; decide), ?_⟩
      exact ⟨hBb.add2 etb ⟨t, rfl, .of eb⟩ rfl, rfl⟩
    rintro σ' H16 ⟨hB16, rfl⟩
    obtain ⟨vs16, et16, _⟩ := id hB16.ta
    -- told.append(.. Sum())
    refine ⟨fun σ' H17 => Both K Tb p c tl dl (n + 16) H1 H17 [d0, dS, wpM 4, wpM 3, wpS 2, wpN] [d0, dS, wpM 4, wpM 3, wpS 2] ∧ σ' = [some (.ref p), some (.ref l), some (.int (k : Nat)), some v, some u, some (.ref b), some (.ref tl), some (.ref dl), some (.ref so5), some (.ref f9), some (.ref r10), some (.ref w11)], ?_, ?_⟩
    · refine ⟨.ref tl, rfl, .inl ⟨rfl, _, .inl (.inl et16)⟩, ?_⟩
      refine heard_none (C := C) hB16.tabs fun t H9 e9 t9 ht9 => ?_
      have hB9 := hB16.ext e9 t9
      obtain ⟨vs9, et9, r9⟩ := id hB9.ta
      refine ⟨tl, _, _, rfl, rfl, et9, sz_lt (by rw [r9.length]; show 5 < 100000; decide), ?_⟩
      exact ⟨hB9.add1 et9 ⟨t, rfl, .of ht9⟩ rfl, rfl⟩
    rintro σ' H17 ⟨hB17, rfl⟩
    obtain ⟨vs17, et17, _⟩ := id hB17.da
    refine ⟨fun σ' H18 => Both K Tb p c tl dl (n + 16) H1 H18 [d0, dS, wpM 4, wpM 3, wpS 2, wpN] [d0, dS, wpM 4, wpM 3, wpS 2, wpN] ∧ σ' = [some (.ref p), some (.ref l), some (.int (k : Nat)), some v, some u, some (.ref b), some (.ref tl), some (.ref dl), some (.ref so5), some (.ref f9), some (.ref r10), some (.ref w11)], ?_, ?_⟩
    · refine ⟨.ref dl, rfl, .inl ⟨rfl, _, .inl (.inl et17)⟩, szn 2, fun t nt => ?_⟩
      generalize hHb : upd H17 t _ = Hb
      obtain ⟨sb, eb⟩ := alloc_eq nt hHb
      have hBb := hB17.same sb
      obtain ⟨vsb, etb, rb⟩ := id hBb.da
      refine ⟨dl, _, _, rfl, rfl, etb, sz_lt (by rw [rb.length]; show 5 < 100000; decide), ?_⟩
      exact ⟨hBb.add2 etb ⟨t, rfl, .of eb⟩ rfl, rfl⟩
    rintro σ' H18 ⟨hB18, rfl⟩
    obtain ⟨vsT, eT, rT⟩ := id hB18.ta
    obtain ⟨vsD, eD, rD⟩ := id hB18.da
    have sh : Shw (.list ([d0, dS, wpM 4, wpM 3, wpS 2, wpN].map WP.d)) 2 2000 := (Shw.lst (ShwL.cons dsh (ShwL.cons dSs (ShwL.cons (wpM_shw (by decide)) (ShwL.cons (wpM_shw (by decide)) (ShwL.cons (wpS_shw (by decide)) (ShwL.cons wpN_shw ShwL.nil))))))).mono (by decide) (by decide)
    refine ⟨.ref tl, rfl, tl, _, rfl, .lst (.of eT) (twos_dp rT), sh.lay, sh.sh, Nat.le_trans sh.dp (by decide), sh.len (by decide), ?_⟩
    refine ⟨.ref dl, rfl, dl, _, rfl, .lst (.of eD) (twos_dp rD), sh.lay, sh.sh, Nat.le_trans sh.dp (by decide), sh.len (by decide), rfl, ?_⟩
    rw [decide_eq_true rfl]
    exact q H18 (k1.t.trans hB18.k) hB18.tabs hB18.pen
end
end LC
namespace LC
open PySem PySem.Spec PyProof.Rows L2 TL ClX LamX
theorem CalG.mono {P : Program} {w : World} {K : PySem.W.Frag} {mg : Str → Option Value} {base : Heap} {CX : CXT} {j k : Nat} {x : Str} {ps : List Str} {sp : Sp} (c : CalG P w K mg base CX j x ps sp) (h : j ≤ k) : CalG P w K mg base CX k x ps sp := by
  obtain ⟨f, fd, m, F, kp, b⟩ := c
  exact ⟨f, fd, m, F.mono h, kp, b⟩
theorem fine_of {ys : List Str} {ts : List Term} (h1 : 1 ≤ ts.length) (h4 : ts.length ≤ 4) (ho : ∀ t ∈ ts, TermOk ys t) (hn : ∀ y ∈ ys, nameB y = true) (hy : ys.length ≤ 3) : Fine ts :=
  ⟨h1, h4, fun t ht => ⟨(ho t ht).1, (ho t ht).2.1, (ho t ht).2.2.1, fun x hx => hn x ((ho t ht).2.2.2 x hx)⟩, Nat.le_trans (unlike_le fun t ht z hz => (ho t ht).2.2.2 z hz) hy⟩
section
variable {P : Program} {w : World} {K : PySem.W.Frag} {mg : Str → Option Value} {base : Heap}
abbrev s_pen : Stmt := topS 36
theorem sc_pen : FnScope ["script"] ["script"] (defScope s_pen) := ⟨rfl, rfl, rfl, by decide +kernel, rfl, by decide +kernel, by decide +kernel⟩
def spPen (K : PySem.W.Frag) : Sp := fun vs H Q _ => ∃ (a : Addr) (ns : List Int), vs = [.ref a] ∧ SqL K H a (ns.map V.int) ∧ ns.length ≤ 63 ∧ ∀ (p c : Addr) (H' : Hp), Same H H' → Pen H' p c 0 → Q (.ref p) H'
theorem ok_pen {f : Addr} {fd : FuncData} (T : Txt mg) (F : FnP K "_law_pen" s_pen f fd) : FnOk P w K mg base CX0 1 f fd ["script"] (spPen K) := by
  have sc := sc_pen
  refine F.ok sc (fun vs H Q E h => ?_) (fun cdv A outer s H vs Q E hr h => ?_)
  · obtain ⟨a, ns, rfl, _⟩ := h
    rfl
  · obtain ⟨a, ns, rfl, ha, hl, q⟩ := h
    refine ⟨_, PSs.nox (pss_one (ps_ret (pe_lst (pa_cons (pe_callTy call_list_of (by rfl) T.n_list (by decide +kernel) (pa_cons (pe_slice sl_list (pv 0) po_none (po_some pe_int)) pa_nil)) (pa_cons pe_int (pa_cons pe_int pa_nil)))))), ?_⟩
    have e : cutV (ns.map V.int) none (some 63) = ns.map V.int := by
      unfold cutV
      have e2 : HT.sIx (ns.map V.int).length (ns.map V.int).length (some 63) = min 63 (ns.map V.int).length := HT.sIx_nat _ _ 63
      rw [HT.sIx_none, List.drop_zero, e2]
      exact List.take_of_length_le (by rw [List.length_map]; omega)
    refine ⟨.ref a, rfl, 63, rfl, a, _, rfl, ha, fun sl n1 => ?_⟩
    rw [e]
    generalize hH1 : upd H sl _ = H1
    obtain ⟨s1, e1⟩ := alloc_eq n1 hH1
    refine ⟨sl, _, rfl, .inl (.of e1), fun c n2 => ?_⟩
    generalize hH2 : upd H1 c _ = H2
    obtain ⟨s2, e2⟩ := alloc_eq n2 hH2
    refine ⟨szn 3, fun p n3 => ?_⟩
    generalize hH3 : upd H2 p _ = H3
    obtain ⟨s3, e3⟩ := alloc_eq n3 hH3
    exact q p c H3 ((s1.trans s2).trans s3) ⟨ns, 0, 0, e3, s3 _ _ e2, hl, Int.le_refl _, Int.le_refl _⟩
abbrev s_law : Stmt := topS 58
theorem sc_law : FnScope ["script", "pen", "lap", "names", "terms", "other", "alike", "told"] ["script"] (defScope s_law) := ⟨rfl, rfl, rfl, by decide +kernel, rfl, by decide +kernel, by decide +kernel⟩
def spLaw (K : PySem.W.Frag) (Tb : List (Addr × Str)) : Sp := fun vs H Q _ => ∃ (a : Addr) (ns : List Int), vs = [.ref a] ∧ SqL K H a (ns.map V.int) ∧ ns.length ≤ 63 ∧ Tabs Tb H ∧ ∀ H', Q (.bl true) H'
theorem ok_law {f C CS CM : Addr} {fd : FuncData} {Tb : List (Addr × Str)} (T : Txt mg) (SK : SumKit P w K mg base C CS CM) (F : FnP K "law" s_law f fd) (c__law_pen : Cal P w K mg base CX0 10 "_law_pen" ["script"] (spPen K)) (c__law_names : Cal P w K mg base CX0 10 "_law_names" ["pen", "many"] spNames)
    (c__law_terms : Cal P w K mg base CX0 10 "_law_terms" ["pen", "names"] (spTerms K)) (c__law_sum : Cal P w K mg base (L2.CX P w) 10 "_law_sum" ["terms"] (spSumG K C CS CM)) (c__law_other : Cal P w K mg base CX0 10 "_law_other" ["pen", "terms"] (spOther K))
    (c__law_made_right : CalG P w K mg base CX0 10 "_law_made_right" ["pen", "terms"] (spMadeRight K)) (c__law_refused : CalG P w K mg base CX0 10 "_law_refused" ["pen", "terms"] (spRefused K Tb)) (c__law_texts_right : CalG P w K mg base CX0 10 "_law_texts_right" ["pen", "terms"] (spTextsRight K Tb)) :
    GOk P w K mg base CX0 11 f fd ["script"] (spLaw K Tb) := by
  have sc := sc_law
  have S := SK.S
  obtain ⟨fE, fdE, OE, FE, BE⟩ := SK.eq
  refine g_of F sc (fun vs H Q E h => ?_) (fun cdv A outer s H vs Q E hg hr h => ?_)
  · obtain ⟨a, ns, rfl, _⟩ := h
    rfl
  · obtain ⟨a, ns, rfl, ha, hl, hT, q⟩ := h
    refine ⟨_, PSs.nox (pss_cons (ps_set (i := 1) sc.nd rfl (.inl rfl) (pe_cal c__law_pen hr (by rfl) pass0 (pa_cons (pv 0) pa_nil)))
(pss_cons (ps_for PassesOwn.never rfl (pi_range1 rfl T.n_range (pa_cons pe_int pa_nil)) (pg_name (i := 2) sc.nd rfl (.inl rfl))
  (pss_cons (ps_set (i := 3) sc.nd rfl (.inl rfl) (pe_cal c__law_names hr (by rfl) pass0 (pa_cons (pv 1) (pa_cons pe_int pa_nil))))
  (pss_cons (ps_set (i := 4) sc.nd rfl (.inl rfl) (pe_cal c__law_terms hr (by rfl) pass0 (pa_cons (pv 1) (pa_cons (pv 3) pa_nil))))
  (Evl.pss_cut (ps_if (PW.pt (pw_or (pt_not (pt_val (pe_calG c__law_made_right hg hr (by rfl) pass0 (pa_cons (pv 1) (pa_cons (pv 4) pa_nil))))) (pw_or (pt_not (pt_val (pe_calG c__law_refused hg hr (by rfl) pass0 (pa_cons (pv 1) (pa_cons (pv 4) pa_nil))))) (pw_or1 (pt_not (pt_val (pe_calG c__law_texts_right hg hr (by rfl) pass0 (pa_cons (pv 1) (pa_cons (pv 4) pa_nil)))))))))
    (pss_one (ps_ret pe_bl))
    pss_nil)
  (Evl.pss_cut (ps_set (i := 5) sc.nd rfl (.inl rfl) (pe_cal c__law_other hr (by rfl) pass0 (pa_cons (pv 1) (pa_cons (pv 4) pa_nil))))
  (pss_cons (ps_set (i := 6) sc.nd rfl (.inl rfl) (pe_cmpR (op_eqD hr.units) (pv 5) (pv 4) (nomark _)))
  (pss_cons (ps_set (i := 7) sc.nd rfl (.inl rfl) (pe_lst (pa_cons (pe_cmpR (op_eqO OE FE BE (hr.mono (by decide)) pass0) (pe_cal c__law_sum hr (by rfl) passL (pa_cons (pv 4) pa_nil)) (pe_cal c__law_sum hr (by rfl) passL (pa_cons (pv 5) pa_nil)) (nomark _)) (pa_cons (pe_cmpR (op_neO OE FE BE (hr.mono (by decide)) pass0) (pe_cal c__law_sum hr (by rfl) passL (pa_cons (pv 5) pa_nil)) (pe_cal c__law_sum hr (by rfl) passL (pa_cons (pv 4) pa_nil)) (nomark _)) pa_nil))))
  (pss_one (ps_if (pt_cmpR op_ne (pe_callB (call_reprD hg hr.units) (by rfl) T.n_repr (by decide +kernel) (pa_cons (pv 7) pa_nil)) (pe_callB (call_reprD hg hr.units) (by rfl) T.n_repr (by decide +kernel) (pa_cons (pe_lst (pa_cons (pv 6) (pa_cons (pe_not (pv 6)) pa_nil))) pa_nil)) (nomark _))
    (pss_one (ps_ret pe_bl))
    pss_nil)))))))))
(pss_one (ps_ret pe_bl)))), ?_⟩
    refine ⟨.ref a, rfl, a, ns, rfl, ha, hl, fun p c H0 s0 P0 => ?_⟩
    have T0 := Tabs.ext hT s0
    refine ⟨_, rfl, by decide, by decide, ?_⟩
    refine for_range (n := 4) (fun i σ H' => (∃ o2 o3 o4 o5 o6 o7 : Option V, σ = [some (.ref a), some (.ref p), o2, o3, o4, o5, o6, o7]) ∧ Pen H' p c (300 * i) ∧ Tabs Tb H') ?_ ?_ ?_
    · exact ⟨⟨none, none, none, none, none, none, rfl⟩, P0, T0⟩
    · rintro i σ H1 hi ⟨⟨o2, o3, o4, o5, o6, o7, rfl⟩, P1, t1⟩
      obtain ⟨p1, hp1⟩ := P1.at_
      refine ⟨.ref p, rfl, p, c, _, 3, rfl, P1, by omega, by decide, by decide, fun nl ys H2 nd hnm hy3 nnl enl nlp k2 P2 => ?_⟩
      have hy3' : ys.length = 3 := by omega
      refine ⟨.ref p, rfl, .ref nl, rfl, p, c, _, nl, ys, rfl, P2, by omega, enl, nlp, by omega, hnm, fun l us ts H3 hts h1 h4 ho nl3 hl3 lp k3 P3 => ?_⟩
      have hf := fine_of h1 h4 ho hnm (by omega)
      have t3 := LC.Tabs.but t1 (k2.trans k3) hp1
      refine ⟨fun σ' H4 => H4 l = some (.lst us) ∧ TermsV K H4 us ts ∧ Pen H4 p c (300 * i + 204) ∧ Tabs Tb H4 ∧ σ' = [some (.ref a), some (.ref p), some (.int (0 + (i : Int))), some (.ref nl), some (.ref l), o5, o6, o7], ?_, ?_⟩
      · refine ⟨.ref p, rfl, .ref l, rfl, p, c, _, l, us, ts, rfl, P3, by omega, hl3, lp, hts, hf, fun H4 k4 P4 => ⟨_, rfl, iteF ?_⟩⟩
        obtain ⟨p3, hp3⟩ := P3.at_
        have t4 := LC.Tabs.but t3 k4 hp3
        have hts4 := hts.but k4 hp3
        have hl4 := k4 _ _ lp hl3
        refine ⟨.ref p, rfl, .ref l, rfl, p, c, _, l, us, ts, rfl, P4, by omega, hl4, lp, hts4, hf, t4, fun H5 k5 t5 P5 => ⟨_, rfl, iteF ?_⟩⟩
        obtain ⟨p4, hp4⟩ := P4.at_
        have hl5 := k5.lst lp hl4
        have hts5 := hts4.butT k5 hp4
        refine ⟨.ref p, rfl, .ref l, rfl, p, c, _, l, us, ts, rfl, P5, by omega, hl5, lp, hts5, hf, t5, fun H6 k6 t6 P6 => ⟨_, rfl, iteF ?_⟩⟩
        obtain ⟨p5, hp5⟩ := P5.at_
        exact ⟨k6.lst lp hl5, hts5.butT k6 hp5, P6.mono (by omega), t6, rfl⟩
      rintro σ' H4 ⟨hl4, hts4, P4, t4, rfl⟩
      refine ⟨fun σ' H5 => H5 l = some (.lst us) ∧ TermsV K H5 us ts ∧ Pen H5 p c (300 * i + 206) ∧ Tabs Tb H5 ∧ ∃ (r : Addr) (ws : List V) (ts' : List Term), Fine ts' ∧ H5 r = some (.lst ws) ∧ TermsV K H5 ws ts' ∧ σ' = [some (.ref a), some (.ref p), some (.int (0 + (i : Int))), some (.ref nl), some (.ref l), some (.ref r), o6, o7], ?_, ?_⟩
      · refine ⟨.ref p, rfl, .ref l, rfl, p, c, _, l, us, ts, rfl, P4, by omega, hl4, lp, hts4, hf, fun r ws ts' H5 f' rp hr5 hws k5 P5 => ?_⟩
        obtain ⟨p4, hp4⟩ := P4.at_
        exact ⟨k5 _ _ lp hl4, hts4.but k5 hp4, P5, LC.Tabs.but t4 k5 hp4, r, ws, ts', f', hr5, hws, rfl⟩
      rintro σ' H5 ⟨hl5, hts5, P5, t5, r, ws, ts', f', hr5, hws, rfl⟩
      -- alike
      have shape : ∀ {xs : List Term}, (∀ t ∈ xs, TermFine t) → SeqAt.shaped (.list (xs.map termD)) = true := fun {xs} h => (Shw.lst (ShwL.all fun t ht => shw_term (h t ht))).shaped (by decide)
      refine ⟨.ref r, rfl, .ref l, rfl, .list (ts'.map termD), .list (ts.map termD), .lst (.of hr5) (dp_terms hws), .lst (.of hl5) (dp_terms hts5), shape f'.2.2.1, shape hf.2.2.1, ?_⟩
      have al : PyData.eqv (.list (ts'.map termD)) (.list (ts.map termD)) = decide (ts' = ts) := terms_eqv ts' ts
      rw [al]
      have lu : us.length ≤ 5 := by have := hf.2.1; have := hts5.length; omega
      have lw : ws.length ≤ 5 := by have := f'.2.1; have := hws.length; omega
      refine ⟨.ref l, rfl, l, us, ts.map some, rfl, .of hl5, args_fine hts5 hf.2.2.1, lu, ?_⟩
      rw [sumOut_fine hf]
      intro x1 Ha n1 sa sx1
      refine ⟨.ref r, rfl, r, ws, ts'.map some, rfl, .of (sa _ _ hr5), args_fine (hws.same sa) f'.2.2.1, lw, ?_⟩
      rw [sumOut_fine f']
      intro y1 Hb n2 sb sy1
      have sx1b := sx1.same sb
      obtain ⟨dx, T0, N, vs0, i1, _⟩ := id sx1b
      refine ⟨x1, dx, _, .ref C, rfl, i1, sum_ty S SK.I sy1, SK.nfs, x1, .ref y1, ts, rfl, sx1b, hf.2.2.1, .inr ⟨y1, ts', rfl, sy1, f'.2.2.1, _, rfl, ?_⟩⟩
      have sab := sa.trans sb
      refine ⟨.ref r, rfl, r, ws, ts'.map some, rfl, .of (sab _ _ hr5), args_fine (hws.same sab) f'.2.2.1, lw, ?_⟩
      rw [sumOut_fine f']
      intro y2 Hc n3 scc sy2
      have sac := sab.trans scc
      refine ⟨.ref l, rfl, l, us, ts.map some, rfl, .of (sac _ _ hl5), args_fine (hts5.same sac) hf.2.2.1, lu, ?_⟩
      rw [sumOut_fine hf]
      intro x2 Hd n4 sd sx2
      have sy2d := sy2.same sd
      obtain ⟨dy, T1, N1, vs1, j1, _⟩ := id sy2d
      refine ⟨y2, dy, _, .ref C, rfl, j1, sum_ty S SK.I sx2, SK.nfs, y2, .ref x2, ts', rfl, sy2d, f'.2.2.1, .inr ⟨x2, ts, rfl, sx2, hf.2.2.1, _, rfl, ?_⟩⟩
      have sym : decide (ts' = ts) = decide (ts = ts') := decide_eq_decide.mpr ⟨Eq.symm, Eq.symm⟩
      rw [sym]
      generalize decide (ts = ts') = bb
      refine ⟨szn 2, fun tl ntl => ?_⟩
      generalize hHe : upd Hd tl _ = He
      obtain ⟨se, ee⟩ := alloc_eq ntl hHe
      have sh : Shw (.list [.bool bb, .bool !bb]) 1 2 := (Shw.lst (ShwL.cons (Shw.bl _) (ShwL.cons (Shw.bl _) ShwL.nil))).mono (by decide) (by decide)
      refine ⟨.ref tl, rfl, tl, _, rfl, .lst (.of ee) (.cons (.bl _) (.cons (.bl _) .nil)), sh.lay, sh.sh, Nat.le_trans sh.dp (by decide), sh.len (by decide), ?_⟩
      refine ⟨.bl bb, rfl, .bl bb, rfl, bb, rfl, szn 2, fun t2 nt2 => ?_⟩
      generalize hHf : upd He t2 _ = Hf
      obtain ⟨sf, ef⟩ := alloc_eq nt2 hHf
      refine ⟨t2, _, rfl, .lst (.of ef) (.cons (.bl _) (.cons (.bl _) .nil)), sh.lay, sh.sh, Nat.le_trans sh.dp (by decide), sh.len (by decide), rfl, _, rfl, ?_⟩
      rw [decide_eq_true rfl]
      have s5f := (((sac.trans sd).trans se).trans sf)
      exact iteF ⟨⟨_, _, _, _, _, _, rfl⟩, (P5.same s5f).mono (by omega), Tabs.ext t5 s5f⟩
    · rintro σ H1 ⟨⟨o2, o3, o4, o5, o6, o7, rfl⟩, P1, t1⟩
      exact q H1
end
end LC
/-! LcHead: what the look at the head's end asks of classes of exceptions, properties, class methods. -/
namespace LC
open PySem PySem.Spec PyProof.Rows L2 TL ClX LamX
def oexB (K : PySem.W.Frag) (C : Addr) : Bool := (match K.lookup C with
  | some ⟨.type c, _, .cls r, sl⟩ => decide (c = "type") && (match r.mro with
    | .ref a :: bm => decide (a = C) && PySem.HandSPX.refsVE bm
    | _ => false) && r.hasDict && !r.hasDel && (match sl.toList with
    | [_, _, _, _, some (.builtin s), _] => decide (s = "ValueError.__new__")
    | _ => false)
  | _ => false) && decide (PySem.W.findIn K (.ref C) "__setattr__" = some (some (.builtin "object.__setattr__"))) && decide (PySem.W.subIn K (.ref C) (.type "BaseException") = some true) && decide (PySem.W.typeIn K (.ref C) = some (.type "type")) && PySem.W.keepIn K (.ref C)
theorem oexC_of {K : PySem.W.Frag} {C : Addr} (h : oexB K C = true) : OexC K C := by
  unfold oexB at h
  simp only [Bool.and_eq_true, decide_eq_true_eq] at h
  obtain ⟨⟨⟨⟨h1, h2⟩, h3⟩, h4⟩, h5⟩ := h
  refine ⟨?_, h2, h3, h4, h5⟩
  cases q : K.lookup C with
  | none =>
    rw [q] at h1
    cases h1
  | some o =>
    obtain ⟨oc, od, dt, osl⟩ := o
    rw [q] at h1
    cases oc with
    | type c =>
      cases dt with
      | cls r =>
        obtain ⟨nm, bs, mro, ns, qn, hd, sn, sub, ab, col, del⟩ := r
        simp only [Bool.and_eq_true, decide_eq_true_eq, Bool.not_eq_true'] at h1
        obtain ⟨⟨⟨⟨c1, c2⟩, c3⟩, c4⟩, c5⟩ := h1
        obtain ⟨bm, rfl, rv⟩ : ∃ bm, mro = .ref C :: bm ∧ PySem.HandSPX.refsVE bm = true := by
          split at c2
          · rename_i a bm
            obtain ⟨ea, rv⟩ := Bool.and_eq_true_iff.mp c2
            exact ⟨bm, by rw [of_decide_eq_true ea], rv⟩
          · cases c2
        obtain ⟨k0, k1, k2, k3, k5, esl⟩ : ∃ k0 k1 k2 k3 k5, osl.toList = [k0, k1, k2, k3, some (.builtin "ValueError.__new__"), k5] := by
          split at c5
          · rename_i k0 k1 k2 k3 s k5 e
            exact ⟨k0, k1, k2, k3, k5, by rw [e, of_decide_eq_true c5]⟩
          · cases c5
        have e2 : osl = #[k0, k1, k2, k3, some (.builtin "ValueError.__new__"), k5] := by
          rw [← Array.toArray_toList (xs := osl), esl]
        subst c1 c3 c4 e2
        exact ⟨nm, qn, ns, bs, bm, sn, sub, ab, col, od, k0, k1, k2, k3, k5, rfl, rv⟩
      | _ => cases h1
    | _ => cases dt <;> cases h1
/-! ### a def at an address -/
def fnAt (K : PySem.W.Frag) (a : Addr) : He.FnW := match K.lookup a with
  | some ⟨_, _, .func fd, _⟩ => some (fd.name, fd.qualname, fd.params, fd.body, fd.scope, fd.globals, fd.closure, fd.builtins)
  | _ => none
def okAt (K : PySem.W.Frag) (a : Addr) (d : He.DefD) : Bool := PySem.W.keepIn K (.ref a) && (match K.lookup a with
  | some ⟨_, _, .func fd, _⟩ => PySem.W.codeIn K fd.code d.qual && (He.dflB K fd.defaults (d.dvs K) && He.kwdB K fd.kwdefaults (d.kws K))
  | _ => false)
theorem funAt {K : PySem.W.Frag} {a : Addr} {d : He.DefD} (e : fnAt K a = d.val) (c : okAt K a d = true) : ∃ fd, FunD K d.name d.qual d.params d.body d.scope (d.dvs K) (d.kws K) a fd := by
  obtain ⟨kp, c2⟩ := He.ba c
  unfold fnAt at e
  cases q : K.lookup a with
  | none =>
    rw [q] at c2
    cases c2
  | some o =>
    obtain ⟨oc, od, dt, osl⟩ := o
    rw [q] at c2 e
    cases dt with
    | func fd =>
      obtain ⟨n1, n2, n3, n4, n5, n6, n7, n8, n9, n10, n11, n12, n13, n14, n15⟩ := fd
      have e2 : (some (n1, n2, n3, n4, n5, n6, n7, n15) : He.FnW) = some (d.name, d.qual, d.params, .stmts d.body, d.scope, mainGlobals, [], builtinsNs) := e
      simp only [Option.some.injEq, Prod.mk.injEq] at e2
      obtain ⟨h1, h2, h3, h4, h5, h6, h7, h8⟩ := e2
      subst h1 h2 h3 h4 h5 h6 h7 h8
      have c3 : (PySem.W.codeIn K n13 d.qual && (He.dflB K n8 (d.dvs K) && He.kwdB K n9 (d.kws K))) = true := c2
      obtain ⟨k1, k2⟩ := He.ba c3
      obtain ⟨k3, k4⟩ := He.ba k2
      exact ⟨_, ⟨oc, od, n8, n9, n10, n11, n12, n13, n14, osl, rfl, q, k1, He.dflB_ok k3, He.kwdB_ok k4⟩, kp⟩
    | _ => cases c2
/-- what a record tells first -/
def recOf (K : PySem.W.Frag) (p : Addr) (kind : String) : Addr := match PySem.W.recIn K p kind with
  | some (.ref g :: _) => g
  | _ => 0
def propB (K : PySem.W.Frag) (C : Addr) (f : Str) : Bool := decide (PySem.W.findIn K (.ref C) f = some (some (.ref (He.ma K C f)))) && decide (PySem.W.specialIn K (.ref (He.ma K C f)) "__get__" = some (some (.builtin "property.__get__"))) && decide (PySem.W.takesIn K (.ref (He.ma K C f)) = some true) && (match PySem.W.recIn K (He.ma K C f) "property" with
  | some (.ref _ :: _) => true
  | _ => false)
theorem prop_of {K : PySem.W.Frag} {C : Addr} {f : Str} (h : propB K C f = true) : PropOf K C f (He.ma K C f) (recOf K (He.ma K C f) "property") := by
  unfold propB at h
  simp only [Bool.and_eq_true, decide_eq_true_eq] at h
  obtain ⟨⟨⟨h1, h2⟩, h3⟩, h4⟩ := h
  refine ⟨h1, h2, h3, ?_⟩
  unfold recOf
  split at h4
  · rename_i g r e
    rw [e]
    exact ⟨_, rfl⟩
  · cases h4
def cmetB (K : PySem.W.Frag) (C : Addr) (mc : Value) (m : Str) : Bool := PySem.W.readsIn K C mc && decide (PySem.W.specialIn K (.ref C) "__getattribute__" = some (some (.builtin "type.__getattribute__"))) && (match PySem.W.findCls K (.ref C) mc m with
  | some (.get (.builtin s) (.ref p) .none (.ref D)) => decide (s = "classmethod.__get__") && decide (p = He.ma K C m) && decide (D = C)
  | _ => false) && (match PySem.W.recIn K (He.ma K C m) "classmethod" with
  | some (.ref _ :: _) => true
  | _ => false) && PySem.W.fnIn K (recOf K (He.ma K C m) "classmethod")
theorem cmet_of {K : PySem.W.Frag} {C : Addr} {mc : Value} {m : Str} (h : cmetB K C mc m = true) : CRead K C mc ∧ CMet K C mc m (He.ma K C m) (recOf K (He.ma K C m) "classmethod") := by
  unfold cmetB at h
  simp only [Bool.and_eq_true, decide_eq_true_eq] at h
  obtain ⟨⟨⟨⟨h1, h2⟩, h3⟩, h4⟩, h5⟩ := h
  refine ⟨⟨h1, h2⟩, ?_, ?_, h5⟩
  · split at h3
    · rename_i s p D e
      simp only [Bool.and_eq_true, decide_eq_true_eq] at h3
      obtain ⟨⟨e1, e2⟩, e3⟩ := h3
      rw [e, e1, e2, e3]
    · cases h3
  · unfold recOf
    split at h4
    · rename_i g r e
      rw [e]
      exact ⟨_, rfl⟩
    · cases h4
/-! ### the hook: HeadHook4's, over the interpreter's statics too, and defs at addresses -/
abbrev Gs : Type := List ((PySem.W.Frag → Addr) × He.DefD)
structure SaysY (fa : List He.Fa) (fn : List He.DefD) (tf : List He.Defn) (gs : Gs) (ex : PySem.W.Frag → Bool) (w : World) (h : Heap) (K : PySem.W.Frag) : Prop where
  x : He.SaysX fa fn [] tf (fun K => ex K && gs.all fun q => okAt K (q.1 K) q.2) w h K
  g : gs.map (fun q => fnAt K (q.1 K)) = gs.map (·.2.val)
/-- what is looked at -/
def KY (n : Nat) (g : Addr → Option Obj) : PySem.W.Frag := He.frT g (cStatics :: He.asD g n)
abbrev AlY : Type := (He.AlT × Bool) × List He.FnW
def lookY (fa : List He.Fa) (fn : List He.DefD) (tf : List He.Defn) (gs : Gs) (ex : PySem.W.Frag → Bool) (g : Addr → Option Obj) (K : PySem.W.Frag) : AlY := ((He.obsT fa fn [] K, (ex K && gs.all fun q => okAt K (q.1 K) q.2) && He.tabsB g tf K), gs.map fun q => fnAt K (q.1 K))
def obsY (n : Nat) (fa : List He.Fa) (fn : List He.DefD) (tf : List He.Defn) (gs : Gs) (ex : PySem.W.Frag → Bool) (g : Addr → Option Obj) : AlY := lookY fa fn tf gs ex g (KY n g)
def valY (fn : List He.DefD) (gs : Gs) (w : World) : AlY := ((He.valT fn [] w, true), gs.map (·.2.val))
theorem saysY_of {fa : List He.Fa} {fn : List He.DefD} {tf : List He.Defn} {gs : Gs} {ex : PySem.W.Frag → Bool} {w : World} {h : Heap} {as : List Addr} (e : lookY fa fn tf gs ex h.get? (He.frT h.get? as) = valY fn gs w) : SaysY fa fn tf gs ex w h (He.frT h.get? as) := by
  have eT := congrArg (fun z : AlY => z.1.1) e
  have eB := congrArg (fun z : AlY => z.1.2) e
  have eG := congrArg (fun z : AlY => z.2) e
  obtain ⟨eM, eE⟩ := Bool.and_eq_true_iff.mp eB
  have tell : ∀ p ∈ tf, PySem.W.codeHdIn (He.frT h.get? as) (He.cT (He.frT h.get? as) p).1 (He.cT (He.frT h.get? as) p).2 = true ∧ ∃ ob, h.get? (He.cT (He.frT h.get? as) p).2 = some ob ∧ He.emptyTab ob = true := by
    intro p hp
    obtain ⟨a, b⟩ := Bool.and_eq_true_iff.mp (List.all_eq_true.mp eE p hp)
    refine ⟨a, ?_⟩
    split at b
    · rename_i ob eq
      exact ⟨ob, eq, b⟩
    · cases b
  exact ⟨⟨eT, eM, fun p hp => (tell p hp).1, fun p hp => (tell p hp).2.elim fun _ z => He.frT_none z.1 z.2, fun p hp => (tell p hp).2.elim fun _ z => z.1.trans (congrArg some (He.emptyTab_eq z.2))⟩, eG⟩
def hookY (n : Nat) (fa : List He.Fa) (fn : List He.DefD) (tf : List He.Defn) (gs : Gs) (ex : PySem.W.Frag → Bool) : PySem.W.Hook where
  α := AlY
  obs := fun s => obsY n fa fn tf gs ex s.heap.get?
  val := fun w => valY fn gs w
  says := fun w h => ∃ K : PySem.W.Frag, K.In h ∧ SaysY fa fn tf gs ex w h K
  of := fun _ _ e => ⟨_, He.frT_in, saysY_of e⟩
  keeps := fun _ _ _ ⟨K, hK, c⟩ k => ⟨K, PySem.W.Frag.In.keeps hK k, ⟨⟨c.x.t, c.x.more, c.x.hd, c.x.out, fun p hp => k _ _ (c.x.empty p hp)⟩, c.g⟩⟩
theorem obsY_eq {n : Nat} {fa : List He.Fa} {fn : List He.DefD} {tf : List He.Defn} {gs : Gs} {ex : PySem.W.Frag → Bool} {g : Addr → Option Obj} {s : Shared} (h : ∀ a, g a = s.heap.get? a) : obsY n fa fn tf gs ex g = (hookY n fa fn tf gs ex).obs s := by
  have same : g = s.heap.get? := funext h
  rw [same] <;> rfl
section
variable {fa : List He.Fa} {fn : List He.DefD} {tf : List He.Defn} {gs : Gs} {ex : PySem.W.Frag → Bool} {w : World} {h : Heap} {K : PySem.W.Frag}
theorem SaysY.told (c : SaysY fa fn tf gs ex w h K) : ex K = true := (Bool.and_eq_true_iff.mp c.x.more).1
theorem SaysY.def_ (c : SaysY fa fn tf gs ex w h K) (i : Nat) {q : (PySem.W.Frag → Addr) × He.DefD} (hi : gs[i]? = some q := by rfl) : ∃ fd, FunD K q.2.name q.2.qual q.2.params q.2.body q.2.scope (q.2.dvs K) (q.2.kws K) (q.1 K) fd := by
  have c2 := (Bool.and_eq_true_iff.mp c.x.more).2
  have e2 : (gs.map (fun q => fnAt K (q.1 K)))[i]? = (gs.map (·.2.val))[i]? := by rw [c.g]
  rw [List.getElem?_map, List.getElem?_map, hi] at e2
  exact funAt (Option.some.inj e2) (List.all_eq_true.mp c2 q (List.mem_of_getElem? hi))
end
end LC
/-! LcEndT: the end of a law whose defs make lambdas and call repr. -/
namespace LC
open PySem PySem.Spec PyProof.Rows L2 LamX
/-- an empty table of code objects -/
abbrev bareTab : Obj := { cls := .none, data := .fields #[] }
theorem law_callGT {P : Program} {w : World} {K : PySem.W.Frag} {mg mb : Str → Option Value} {CX : CXT} {k : Nat} {fa scr : Addr} {tabs : List (Addr × Addr)} {fd : FuncData} {x : Str} {sp : Sp} {st : Shared} {items : List Value} {nums : List Int}
    (inK : K.In st.heap) (glob : st.heap.Ns mainGlobals mg) (boot : st.heap.Ns builtinsNs mb) (bootN : ∀ y : Str, y ≠ "__name__" → mb y = bootBuiltins y) (lim : st.heap.NoLimit) (noGen : st.gens = #[])
    (bare : ∀ q ∈ tabs, st.heap.get? q.2 = some bareTab) (outK : ∀ q ∈ tabs, K.lookup q.2 = none) (heads : ∀ q ∈ tabs, PySem.W.codeHdIn K q.1 q.2 = true)
    (bmod : ∃ (bm : Addr) (ob : Obj), mg "__builtins__" = some (.ref bm) ∧ bm ≠ builtinsNs ∧ st.heap.get? bm = some ob ∧ ob.cls = .type "module" ∧ ob.dict = some builtinsNs ∧ ob.data = .plain)
    (at_ : st.heap.get? scr = some { cls := .type "list", data := .seq items.toArray }) (are : IntsAre items nums) (few : nums.length ≤ sizeLine) (room : Room k callerA)
    (F : ∀ base : Heap, K.In base → base.Ns mainGlobals mg → (∀ q ∈ tabs, TabB base mg q.1 q.2) → GOk P w K mg base CX k fa fd [x] sp) (binds : ∀ (s : Shared) (u : Value), BindsTo s fd ⟨[u], []⟩ [(x, u)])
    (told : ∀ H : Hp, (∀ q ∈ tabs, H q.2 = some (.tbl #[])) → SqL K H scr (nums.map V.int) → sp [.ref scr] H (fun v _ => v = .bl true) fun _ _ _ => False) (calm : ∀ H e s', CX [] H st (fun _ _ _ => False) e s' → False) :
    codeAny (model P w) callerA (.call (.ref fa) ⟨[.ref scr], []⟩) (fun r s' => r = .ok (.ret (.bool true)) ∧ OldK st.heap s'.heap ∧ s'.os = st.os ∧ AllBare s'.gens) st := by
  have rel := vals_ints are
  let isTab : Addr → Prop := fun b => ∃ q ∈ tabs, q.2 = b
  have tabAt : ∀ b, isTab b → st.heap.get? b = some bareTab := fun b hb => by
    obtain ⟨q, hq, rfl⟩ := hb
    exact bare q hq
  have scrOut : ¬ isTab scr := fun z => by
    have e := tabAt scr z
    rw [at_] at e
    have d := congrArg Obj.data (Option.some.inj e)
    cases d
  have main : ∀ H : Hp, (∀ q ∈ tabs, H q.2 = some (.tbl #[])) → (∀ b, H b = none ∨ isTab b ∨ ∃ o xs, H b = some (.frz o (.lst xs))) → SqL K H scr (nums.map V.int) → HOk P w H st.heap → (∀ b u, H b = some u → b = scr ∨ isTab b) → (∀ u, H scr = some u → K.lookup scr = none) →
      codeAny (model P w) callerA (.call (.ref fa) ⟨[.ref scr], []⟩) (fun r s' => r = .ok (.ret (.bool true)) ∧ OldK st.heap s'.heap ∧ s'.os = st.os ∧ AllBare s'.gens) st := by
    intro H hTab hForm hScr hok hOnly hFree
    have clear : ∀ {b : Addr} {o : Obj}, st.heap.get? b = some o → (∀ vs n, o.data ≠ .seq vs n) → (∀ vs, o.data ≠ .fields vs) → H b = none := fun {b o} e n1 n2 => by
      cases z : H b with
      | none => rfl
      | some u =>
        rcases hOnly b u z with rfl | t
        · rw [at_] at e
          rw [← Option.some.inj e] at n1
          exact absurd rfl (n1 _ _)
        · rw [tabAt b t] at e
          rw [← Option.some.inj e] at n2
          exact absurd rfl (n2 _)
    have clearD : ∀ {b : Addr} {o : Obj} {es : Array DictEntry} {ep : Nat}, st.heap.get? b = some o → o.data = .dict es ep → H b = none := fun {b o es ep} e d => clear e (fun vs n z => by rw [d] at z; cases z) fun vs z => by rw [d] at z; cases z
    have clearP : ∀ {b : Addr} {o : Obj}, st.heap.get? b = some o → o.data = .plain → H b = none := fun {b o} e d => clear e (fun vs n z => by rw [d] at z; cases z) fun vs z => by rw [d] at z; cases z
    have nsAt : ∀ {b : Addr} {m : Str → Option Value}, st.heap.Ns b m → (hidT st.heap H).Ns b m := fun {b m} ⟨o, es, ep, e, d, r⟩ => ⟨o, es, ep, hidT_get e (clearD e d), d, r⟩
    have kinB : K.In (hidT st.heap H) := fun b o e => hidT_get (inK b o e) (by
      cases z : H b with
      | none => rfl
      | some u =>
        rcases hOnly b u z with rfl | ⟨q, hq, rfl⟩
        · rw [hFree u z] at e
          cases e
        · rw [outK q hq] at e
          cases e)
    obtain ⟨mc, l1, l2⟩ := lim
    have modB : Mod K mg (hidT st.heap H) := ⟨kinB, nsAt glob, ⟨mb, nsAt boot, bootN⟩, ⟨mc, nsAt l1, l2⟩⟩
    have noFr : ∀ b : Addr, b ∉ frs [] := fun b z => by cases z
    have env : Env0 P w K mg (hidT st.heap H) callerA [] st H := ⟨rfl, modB, fun b o e => of_hidT e, Nat.le_of_eq (hidT_size _ _), trivial, fun b z => absurd z (noFr b), hok, .of_eq noGen⟩
    have TB : ∀ q ∈ tabs, TabB (hidT st.heap H) mg q.1 q.2 := fun q hq => by
      obtain ⟨bm, ob, m1, m2, m3, m4, m5, m6⟩ := bmod
      have gMain : bm ≠ mainGlobals := fun z => by
        obtain ⟨o, es, ep, e, d, _⟩ := glob
        rw [← z, m3] at e
        rw [← Option.some.inj e, m6] at d
        cases d
      have gTab : bm ≠ q.2 := fun z => by
        have e := bare q hq
        rw [← z, m3] at e
        rw [Option.some.inj e] at m6
        cases m6
      refine NdefX.tabB_of_K kinB (heads q hq) ⟨bm, ob, m1, m2, gMain, gTab, hidT_get m3 (clearP m3 m6), m4, m5, m6⟩ fun z => ?_
      obtain ⟨o, es, ep, e, d, _⟩ := glob
      rw [z, bare q hq] at e
      rw [← Option.some.inj e] at d
      cases d
    refine codeAny_mono ((F _ kinB (nsAt glob) TB).go callerA [] st H ⟨[.ref scr], []⟩ [.ref scr] [.ref scr] _ _ rfl room env (binds st (.ref scr)) (.cons rfl .nil) (told H hTab hScr)) fun r s' out => ?_
    match r, out with
    | .error e, out => exact (calm H e s' out).elim
    | .ok .next, out => exact False.elim out
    | .ok .brk, out => exact False.elim out
    | .ok .cont, out => exact False.elim out
    | .ok (.ret u), out =>
      obtain ⟨v, H', os, gensB, un, hok', ru, ev⟩ := out
      cases (show v = .bl true from ev)
      cases (show u = Value.bool true from ru)
      have stays : ∀ b o, ¬ isTab b → st.heap.get? b = some o → s'.heap.get? b = some o := fun b o nt e => by
        cases z : H b with
        | none => exact un.keep b o e z (noFr b) (fun y => by cases y)
        | some u =>
          rcases hForm b with y | y | ⟨ob, xs, y⟩
          · rw [z] at y
            cases y
          · exact absurd y nt
          · have e1 := And.left (hok b _ y)
            have e2 := And.left (hok' b _ (un.frzs b ob _ y))
            rw [e] at e1
            cases e1
            exact e2
      have grows : ∀ q ∈ tabs, ∃ more : Array Value, s'.heap.get? q.2 = some { cls := .none, data := .fields more } := fun q hq => by
        obtain ⟨more, z⟩ := un.tbls q.2 #[] (hTab q hq)
        exact ⟨_, hok' q.2 _ z⟩
      refine ⟨rfl, ⟨fun b o e => ?_, fun b o e => ?_⟩, os, gensB⟩
      · by_cases t : isTab b
        · obtain ⟨q, hq, rfl⟩ := t
          obtain ⟨more, hm⟩ := grows q hq
          rw [bare q hq] at e
          cases e
          refine .inr (.inl ⟨((PySem.W.codeHd_of_K inK (heads q hq)).tab (bare q hq)).isCodeTable, rfl, #[], more, rfl, ?_⟩)
          rw [hm, Array.empty_append]
        · exact .inl (stays b o t e)
      · by_cases t : isTab b
        · obtain ⟨q, hq, rfl⟩ := t
          obtain ⟨more, hm⟩ := grows q hq
          exact ⟨_, hm⟩
        · exact ⟨o, stays b o t e⟩
  have tq : ∀ q ∈ tabs, isTab q.2 := fun q hq => ⟨q, hq, rfl⟩
  have nlen : (nums.map V.int).length ≤ sizeLine := by
    rw [List.length_map]
    exact few
  open Classical in
  cases hk : K.lookup scr with
  | some o =>
    have e := inK scr o hk
    rw [at_] at e
    cases e
    have form : ∀ b u, (fun b : Addr => if isTab b then some (HO.tbl #[]) else none) b = some u → isTab b ∧ u = HO.tbl #[] := fun b u z => by
      by_cases t : isTab b
      · exact ⟨t, (Option.some.inj ((if_pos t).symm.trans z)).symm⟩
      · cases (if_neg t).symm.trans z
    refine main (fun b => if isTab b then some (.tbl #[]) else none) (fun q hq => if_pos (tq q hq)) (fun b => ?_) (.inr ⟨_, items.toArray, _, hk, rfl, rfl, rfl, ?_, by simpa using rel⟩) (fun b u z => ?_) (fun b u z => .inr (form b u z).1) fun u z => absurd (form scr u z).1 scrOut
    · by_cases t : isTab b
      · exact .inr (.inl t)
      · exact .inl (if_neg t)
    · rw [List.size_toArray, are.length]
      exact few
    · obtain ⟨t, rfl⟩ := form b u z
      exact tabAt b t
  | none =>
    have form : ∀ b u, (fun b : Addr => if b = scr then some (HO.frz { cls := .type "list", data := .seq items.toArray } (.lst (nums.map V.int))) else if isTab b then some (HO.tbl #[]) else none) b = some u → (b = scr ∧ u = HO.frz { cls := .type "list", data := .seq items.toArray } (.lst (nums.map V.int))) ∨ (isTab b ∧ u = HO.tbl #[]) := fun b u z => by
      by_cases s : b = scr
      · exact .inl ⟨s, (Option.some.inj ((if_pos s).symm.trans z)).symm⟩
      · have z := (if_neg s).symm.trans z
        by_cases t : isTab b
        · exact .inr ⟨t, (Option.some.inj ((if_pos t).symm.trans z)).symm⟩
        · cases (if_neg t).symm.trans z
    refine main (fun b => if b = scr then some (.frz { cls := .type "list", data := .seq items.toArray } (.lst (nums.map V.int))) else if isTab b then some (.tbl #[]) else none) (fun q hq => ?_) (fun b => ?_) (.inl (.inr ⟨_, if_pos rfl⟩)) (fun b u z => ?_) (fun b u z => (form b u z).imp (·.1) (·.1)) fun _ _ => hk
    · have s : ¬ q.2 = scr := fun z => scrOut ⟨q, hq, z⟩
      show (if q.2 = scr then _ else _) = _
      rw [if_neg s]
      exact if_pos (tq q hq)
    · by_cases s : b = scr
      · exact .inr (.inr ⟨_, _, if_pos s⟩)
      · by_cases t : isTab b
        · exact .inr (.inl t)
        · exact .inl ((if_neg s).trans (if_neg t))
    · rcases form b u z with ⟨rfl, rfl⟩ | ⟨t, rfl⟩
      · exact ⟨at_, nlen, items, _, rel, at_⟩
      · exact tabAt b t
theorem walk_GT {l : PySem.W.OpenLaw} {n k : Nat} {q : Program} {loose : List Str} {XP : (Str → Option Value) → Heap → Prop} {YP : World → Heap → Prop} {d : DefRec} {CX : World → CXT} {x : Str} (hn : l.most = some n) (hn2 : n ≤ sizeLine) (hdf : d.params.defaults = []) (hr : Room k callerA)
    (F : ∀ (w : World) (mg : Str → Option Value) (fa : Addr) (h : Heap), YP w h → h.Ns mainGlobals mg → mg d.name = some (.ref fa) →
      ∃ (K : PySem.W.Frag) (fd : FuncData) (sp : Sp) (tabs : List (Addr × Addr)), K.In h ∧ (∀ q ∈ tabs, h.get? q.2 = some bareTab) ∧ (∀ q ∈ tabs, K.lookup q.2 = none) ∧ (∀ q ∈ tabs, PySem.W.codeHdIn K q.1 q.2 = true) ∧ (∀ (s : Shared) (u : Value), BindsTo s fd ⟨[u], []⟩ [(x, u)]) ∧
        (∀ (H : Hp) (a : Addr) (ns : List Int), ns.length ≤ n → (∀ q ∈ tabs, H q.2 = some (.tbl #[])) → SqL K H a (ns.map V.int) → sp [.ref a] H (fun v _ => v = .bl true) fun _ _ _ => False) ∧
        ∀ base : Heap, K.In base → base.Ns mainGlobals mg → (∀ q ∈ tabs, TabB base mg q.1 q.2) → GOk l.prog w K mg base (CX w) k fa fd [x] sp)
    (hCX : ∀ (w : World) (H : Hp) (s : Shared) (e : Value) (s' : Shared), CX w [] H s (fun _ _ _ => False) e s' → False) : PySem.W.WalkO q loose XP YP l.row.toRowW d [] (fun f vs => PySem.call f vs) := by
  refine Att.attach_call hn hdf fun w s0 s1 mg mb fa o pm cd doc a vs ns G Y ho hd hcd hmg hobj hints hlen hg => ?_
  obtain ⟨K, fd, sp, tabs, KX, bare, outK, heads, hb, hsp, hF⟩ := F w mg fa _ Y G.T.g hmg
  exact law_callGT KX G.T.g G.T.b G.T.builtins G.T.nolimit hg bare outK heads G.T.bmain hobj hints (Nat.le_trans hlen hn2) hr hF hb (fun H t hS => hsp H a ns hlen t hS) fun H e s' => hCX w H s1 e s'
end LC
namespace LC
open PySem PySem.Spec PyProof.Rows L2
/-- a def of the top, a method -/
def dP (x : Str) (st : Stmt) : He.DefD := ⟨(x, none), x, x, defArgs st, defBody st, defScope st, [], []⟩
def dC (C m q : Str) (st : Stmt) : He.DefD := ⟨(C, some m), m, q, defArgs st, defBody st, defScope st, [], []⟩
def d_is_integer : He.DefD := dP "is_integer" s_is_integer
def d_is_within : He.DefD := dP "is_within" s_is_within
def d_is_name : He.DefD := dP "is_name" s_is_name
def d_is_decimal : He.DefD := dP "is_decimal" s_is_decimal
def d_term_text : He.DefD := dP "term_text" s_term_text
def d_sum_words : He.DefD := dP "sum_words" s_sum_words
def d_terms_of : He.DefD := dP "terms_of" s_terms_of
def d_term_at : He.DefD := dP "term_at" s_term_at
def d_names_at : He.DefD := dP "names_at" s_names_at
def d_name_fits : He.DefD := dP "name_fits" s_name_fits
def d_factor_of : He.DefD := dP "factor_of" s_factor_of
def d_is_term : He.DefD := dP "is_term" s_is_term
def d_unlike_names : He.DefD := dP "unlike_names" s_unlike_names
def d_pen : He.DefD := dP "_law_pen" s_pen
def d_draw : He.DefD := dP "_law_draw" s_draw
def d_pick : He.DefD := dP "_law_pick" s_pick
def d_some : He.DefD := dP "_law_some" s_some
def d_names : He.DefD := dP "_law_names" s_names
def d_factor : He.DefD := dP "_law_factor" s_factor
def d_terms : He.DefD := dP "_law_terms" s_terms
def d_sum : He.DefD := dP "_law_sum" s_sum
def d_text : He.DefD := dP "_law_text" s_text
def d_unlike : He.DefD := dP "_law_unlike" s_unlike
def d_heard : He.DefD := dP "_law_heard" s_heard
def d_passed : He.DefD := dP "_law_passed" s_passed
def d_made_right : He.DefD := dP "_law_made_right" s_made_right
def d_other : He.DefD := dP "_law_other" s_other
def d_odd_term : He.DefD := dP "_law_odd_term" s_odd_term
def d_refused : He.DefD := dP "_law_refused" s_refused
def d_is_number : He.DefD := dP "_law_is_number" s_is_number
def d_law_is_name : He.DefD := dP "_law_is_name" s_law_is_name
def d_term : He.DefD := dP "_law_term" s_term
def d_read : He.DefD := dP "_law_read" s_read
def d_bent : He.DefD := dP "_law_bent" s_bent
def d_texts_right : He.DefD := dP "_law_texts_right" s_texts_right
def d_law : He.DefD := dP "law" s_law
def d_BadSum_init : He.DefD := dC "BadSum" "__init__" "BadSum.__init__" s_BadSum_init
def d_TooMany_init : He.DefD := dC "TooMany" "__init__" "TooMany.__init__" s_TooMany_init
def d_BadText_init : He.DefD := dC "BadText" "__init__" "BadText.__init__" s_BadText_init
def d_Sum_init : He.DefD := dC "Sum" "__init__" "Sum.__init__" s_Sum_init
def d_Sum_eq : He.DefD := dC "Sum" "__eq__" "Sum.__eq__" s_Sum_eq
def d_Sum_str : He.DefD := dC "Sum" "__str__" "Sum.__str__" s_Sum_str
def d_Sum_terms : He.DefD := dC "Sum" "terms" "Sum.terms" s_Sum_terms
def d_Sum_names : He.DefD := dC "Sum" "names" "Sum.names" s_Sum_names
def d_Sum_is_flat : He.DefD := dC "Sum" "is_flat" "Sum.is_flat" s_Sum_is_flat
def d_Sum_read : He.DefD := dC "Sum" "read" "Sum.read" s_Sum_read
def fn : List He.DefD := [d_is_integer, d_is_within, d_is_name, d_is_decimal, d_term_text, d_sum_words, d_terms_of, d_term_at, d_names_at, d_name_fits, d_factor_of, d_is_term, d_unlike_names, d_pen, d_draw, d_pick, d_some, d_names, d_factor, d_terms, d_sum, d_text, d_unlike, d_heard, d_passed, d_made_right, d_other, d_odd_term, d_refused, d_is_number, d_law_is_name, d_term, d_read, d_bent, d_texts_right, d_law, d_BadSum_init, d_TooMany_init, d_BadText_init, d_Sum_init, d_Sum_eq, d_Sum_str]
def gs : Gs := [(fun K => recOf K (He.ma K (He.ga K "Sum") "terms") "property", d_Sum_terms), (fun K => recOf K (He.ma K (He.ga K "Sum") "names") "property", d_Sum_names), (fun K => recOf K (He.ma K (He.ga K "Sum") "is_flat") "property", d_Sum_is_flat), (fun K => recOf K (He.ma K (He.ga K "Sum") "read") "classmethod", d_Sum_read)]
def fa0 : List He.Fa := [.glo "is_integer", .glo "is_within", .glo "is_name", .glo "is_decimal", .glo "term_text", .glo "sum_words", .glo "terms_of", .glo "term_at", .glo "names_at", .glo "name_fits", .glo "factor_of", .glo "is_term", .glo "unlike_names", .glo "_law_pen", .glo "_law_draw", .glo "_law_pick", .glo "_law_some", .glo "_law_names", .glo "_law_factor", .glo "_law_terms", .glo "_law_sum", .glo "_law_text", .glo "_law_unlike", .glo "_law_heard", .glo "_law_passed", .glo "_law_made_right", .glo "_law_other", .glo "_law_odd_term", .glo "_law_refused", .glo "_law_is_number"]
def fa1 : List He.Fa := [.glo "_law_is_name", .glo "_law_term", .glo "_law_read", .glo "_law_bent", .glo "_law_texts_right", .glo "law", .glo "Sum", .glo "LeastError", .glo "BadSum", .glo "TooMany", .glo "BadName", .glo "BadNumber", .glo "BadText", .glo "BadWork", .glo "Twice", .free "len", .free "int", .free "list", .free "abs", .free "min", .free "range", .free "tuple", .free "str", .free "bool", .free "isinstance", .free "all", .free "enumerate", .free "dict", .free "repr", .free "ValueError"]
def fa2 : List He.Fa := [.int "MOST_LETTERS" 6, .int "MOST_FACTOR" 999999, .int "MOST_TERMS" 4, .int "MOST_TERM_NAMES" 3, .int "MOST_UNLIKE" 3, .int "FACTOR_DIGITS" 6, .str "LETTERS" "abcdefghijklmnopqrstuvwxyz", .str "DIGITS" "0123456789", .cls "Sum", .noat "Sum" "_terms", .noat "Sum" "_names", .mkr "Sum", .meth "Sum" "__eq__", .meth "Sum" "__str__", .meth "BadSum" "__init__", .meth "TooMany" "__init__", .meth "BadText" "__init__"]
def fa : List He.Fa := fa0 ++ fa1 ++ fa2
def exL (K : PySem.W.Frag) : List Bool := [heldB K (He.ga K "BadSum"),
  heldB K (He.ga K "TooMany"),
  oexB K (He.ga K "BadSum"),
  oexB K (He.ga K "TooMany"),
  oexB K (He.ga K "BadText"),
  decide (PySem.W.exmOne K (.ref (He.ga K "BadSum")) (.ref (He.ga K "LeastError")) = some true),
  decide (PySem.W.exmOne K (.ref (He.ga K "TooMany")) (.ref (He.ga K "LeastError")) = some true),
  decide (PySem.W.exmOne K (.ref (He.ga K "BadText")) (.ref (He.ga K "BadText")) = some true),
  decide (PySem.W.kitAny K (.ref (He.ga K "BadSum")) [.ref (He.ga K "BadName"), .ref (He.ga K "BadNumber"), .ref (He.ga K "BadText"), .ref (He.ga K "BadWork"), .ref (He.ga K "Twice")] = some false),
  decide (PySem.W.kitAny K (.ref (He.ga K "TooMany")) [.ref (He.ga K "BadName"), .ref (He.ga K "BadNumber"), .ref (He.ga K "BadText"), .ref (He.ga K "BadWork"), .ref (He.ga K "Twice")] = some false),
  decide (PySem.W.kitOne K (.ref (He.ga K "BadSum")) (.type "ValueError") = some true),
  decide (PySem.W.kitOne K (.ref (He.ga K "TooMany")) (.type "ValueError") = some true),
  decide (PySem.W.kitOne K (.ref (He.ga K "BadSum")) (.ref (He.ga K "BadSum")) = some true),
  decide (PySem.W.kitOne K (.ref (He.ga K "BadSum")) (.ref (He.ga K "TooMany")) = some false),
  decide (PySem.W.kitOne K (.ref (He.ga K "TooMany")) (.ref (He.ga K "BadSum")) = some false),
  decide (PySem.W.kitOne K (.ref (He.ga K "TooMany")) (.ref (He.ga K "TooMany")) = some true),
  He.eqO (PySem.W.findIn K (.ref (He.ga K "BadSum")) "at") (some none),
  He.eqO (PySem.W.findIn K (.ref (He.ga K "TooMany")) "most") (some none),
  He.eqO (PySem.W.findIn K (.ref (He.ga K "BadText")) "line") (some none),
  He.eqO (PySem.W.findIn K (.ref (He.ga K "BadText")) "word") (some none),
  decide (PySem.W.typeIn K (.ref (He.ma K (He.ga K "BadSum") "__init__")) = some (.type "function")),
  decide (PySem.W.typeIn K (.ref (He.ma K (He.ga K "TooMany") "__init__")) = some (.type "function")),
  decide (PySem.W.typeIn K (.ref (He.ma K (He.ga K "BadText") "__init__")) = some (.type "function")),
  He.eqO (PySem.W.findIn K (.ref (He.ga K "Sum")) "__class__") (some (some (.builtin "object.__class__"))),
  He.eqO (PySem.W.specialIn K (.builtin "object.__class__") "__get__") (some (some (.builtin "getset_descriptor.__get__"))),
  decide (PySem.W.takesIn K (.builtin "object.__class__") = some true),
  decide (PySem.W.mroIn K (He.ga K "Sum") (.type "object") = some true),
  decide (PySem.W.kitOne K (.ref (He.ga K "Sum")) (.ref (He.ga K "Sum")) = some true),
  kinds.all fun n => decide (PySem.W.kitOne K (.type n) (.ref (He.ga K "Sum")) = some false),
  kinds.all fun n => PySem.W.notFirst K (He.ga K "Sum") (.type n),
  decide (PySem.W.kitOne K (.ref (He.ga K "Sum")) (.type "str") = some false),
  He.eqO (PySem.W.findIn K (.ref (He.ga K "Sum")) "__ne__") (some (some (.builtin "object.__ne__"))),
  propB K (He.ga K "Sum") "terms",
  propB K (He.ga K "Sum") "names",
  propB K (He.ga K "Sum") "is_flat",
  cmetB K (He.ga K "Sum") (.type "type") "read",
  decide ((He.cT K ("_law_refused", none)).2 ≠ (He.cT K ("_law_texts_right", none)).2)]
def exB (K : PySem.W.Frag) : Bool := (exL K).all id
theorem exB_at {K : PySem.W.Frag} (h : exB K = true) (i : Nat) {b : Bool} (e : (exL K)[i]? = some b) : b = true := List.all_eq_true.mp h b (List.mem_of_getElem? e)
abbrev tf : List He.Defn := [("_law_refused", none), ("_law_texts_right", none)]
abbrev SY (w : World) (h : Heap) (K : PySem.W.Frag) : Prop := SaysY fa fn tf gs exB w h K
abbrev TB (K : PySem.W.Frag) : List (Addr × Str) := [((He.cT K ("_law_refused", none)).2, "_law_refused.<locals>.<lambda>"), ((He.cT K ("_law_texts_right", none)).2, "_law_texts_right.<locals>.<lambda>")]
theorem kb_read {f : Addr} {K : PySem.W.Frag} {fd : FuncData} (F : FunD K "read" "Sum.read" (defArgs s_Sum_read) (defBody s_Sum_read) (defScope s_Sum_read) [] [] f fd) : KBn K fd ["cls", "text"] 1 ["text"] (fun a b => a ++ b) (fun a b => a ++ b) := by
  obtain ⟨oc, od, dV, kV, doc, pm, an, cdv, ct, osl, rfl, lk, hcd, hD, hK⟩ := F.ex
  rcases hD with ⟨_, rfl⟩ | ⟨e, _⟩
  · refine ⟨fun s us ws X l1 l2 => ?_, fun r1 r2 => r1.append r2⟩
    match us, l1, ws, l2 with
    | [u], _, [m], _ => exact .of_eq rfl
  · exact absurd rfl e
theorem tabs_of {K : PySem.W.Frag} {H : Hp} (h : ∀ q ∈ [He.cT K ("_law_refused", none), He.cT K ("_law_texts_right", none)], H q.2 = some (.tbl #[])) : LamX.Tabs (TB K) H := fun p hp => by
  have key : ∀ q ∈ [He.cT K ("_law_refused", none), He.cT K ("_law_texts_right", none)], ∀ z, LamX.TabS H q.2 z := fun q hq z => ⟨#[], h q hq, by first | trivial | exact .nil | decide, fun pos cv hc => by cases hc⟩
  rcases List.mem_cons.mp hp with rfl | hp
  · exact key _ (List.mem_cons_self ..) _
  · rcases List.mem_cons.mp hp with rfl | hp
    · exact key _ (List.mem_cons_of_mem _ (List.mem_cons_self ..)) _
    · cases hp
theorem cd_of {K : PySem.W.Frag} {x : Str} {st : Stmt} {fd : FuncData} {p : He.Defn} (F : FunD K x x (defArgs st) (defBody st) (defScope st) [] [] (He.fAd K p) fd) : fd.code = .ref (He.cT K p).1 := by
  obtain ⟨oc, od, dV, kV, doc, pm, an, cdv, ct, osl, rfl, lk, hcd, hD, hK⟩ := F.ex
  obtain ⟨cc, e⟩ := He.codeIn_ref hcd
  have z := He.codeOf_eq lk e
  show cdv = .ref (He.codeOf K p)
  rw [z, ← e]
theorem facts {P : Program} {w : World} {K : PySem.W.Frag} {h : Heap} {mg : Str → Option Value} {f : Addr} (X : K.In h) (G : h.Ns mainGlobals mg) (hfa : mg ("law" : Str) = some (.ref f)) (c : SY w h K) :
    ∃ fd : FuncData, (∀ (s : Shared) (v : Value), BindsTo s fd ⟨[v], []⟩ [("script", v)]) ∧ ∀ base : Heap, K.In base → base.Ns mainGlobals mg → (∀ q ∈ [He.cT K ("_law_refused", none), He.cT K ("_law_texts_right", none)], LamX.TabB base mg q.1 q.2) → GOk P w K mg base CX0 11 f fd ["script"] (spLaw K (TB K)) := by
  have XE : exB K = true := c.told
  obtain ⟨fd_is_integer, F_is_integer⟩ := c.x.t.d.def_ 0 (d := d_is_integer) rfl
  obtain ⟨fd_is_within, F_is_within⟩ := c.x.t.d.def_ 1 (d := d_is_within) rfl
  obtain ⟨fd_is_name, F_is_name⟩ := c.x.t.d.def_ 2 (d := d_is_name) rfl
  obtain ⟨fd_is_decimal, F_is_decimal⟩ := c.x.t.d.def_ 3 (d := d_is_decimal) rfl
  obtain ⟨fd_term_text, F_term_text⟩ := c.x.t.d.def_ 4 (d := d_term_text) rfl
  obtain ⟨fd_sum_words, F_sum_words⟩ := c.x.t.d.def_ 5 (d := d_sum_words) rfl
  obtain ⟨fd_terms_of, F_terms_of⟩ := c.x.t.d.def_ 6 (d := d_terms_of) rfl
  obtain ⟨fd_term_at, F_term_at⟩ := c.x.t.d.def_ 7 (d := d_term_at) rfl
  obtain ⟨fd_names_at, F_names_at⟩ := c.x.t.d.def_ 8 (d := d_names_at) rfl
  obtain ⟨fd_name_fits, F_name_fits⟩ := c.x.t.d.def_ 9 (d := d_name_fits) rfl
  obtain ⟨fd_factor_of, F_factor_of⟩ := c.x.t.d.def_ 10 (d := d_factor_of) rfl
  obtain ⟨fd_is_term, F_is_term⟩ := c.x.t.d.def_ 11 (d := d_is_term) rfl
  obtain ⟨fd_unlike_names, F_unlike_names⟩ := c.x.t.d.def_ 12 (d := d_unlike_names) rfl
  obtain ⟨fd_pen, F_pen⟩ := c.x.t.d.def_ 13 (d := d_pen) rfl
  obtain ⟨fd_draw, F_draw⟩ := c.x.t.d.def_ 14 (d := d_draw) rfl
  obtain ⟨fd_pick, F_pick⟩ := c.x.t.d.def_ 15 (d := d_pick) rfl
  obtain ⟨fd_some, F_some⟩ := c.x.t.d.def_ 16 (d := d_some) rfl
  obtain ⟨fd_names, F_names⟩ := c.x.t.d.def_ 17 (d := d_names) rfl
  obtain ⟨fd_factor, F_factor⟩ := c.x.t.d.def_ 18 (d := d_factor) rfl
  obtain ⟨fd_terms, F_terms⟩ := c.x.t.d.def_ 19 (d := d_terms) rfl
  obtain ⟨fd_sum, F_sum⟩ := c.x.t.d.def_ 20 (d := d_sum) rfl
  obtain ⟨fd_text, F_text⟩ := c.x.t.d.def_ 21 (d := d_text) rfl
  obtain ⟨fd_unlike, F_unlike⟩ := c.x.t.d.def_ 22 (d := d_unlike) rfl
  obtain ⟨fd_heard, F_heard⟩ := c.x.t.d.def_ 23 (d := d_heard) rfl
  obtain ⟨fd_passed, F_passed⟩ := c.x.t.d.def_ 24 (d := d_passed) rfl
  obtain ⟨fd_made_right, F_made_right⟩ := c.x.t.d.def_ 25 (d := d_made_right) rfl
  obtain ⟨fd_other, F_other⟩ := c.x.t.d.def_ 26 (d := d_other) rfl
  obtain ⟨fd_odd_term, F_odd_term⟩ := c.x.t.d.def_ 27 (d := d_odd_term) rfl
  obtain ⟨fd_refused, F_refused⟩ := c.x.t.d.def_ 28 (d := d_refused) rfl
  obtain ⟨fd_is_number, F_is_number⟩ := c.x.t.d.def_ 29 (d := d_is_number) rfl
  obtain ⟨fd_law_is_name, F_law_is_name⟩ := c.x.t.d.def_ 30 (d := d_law_is_name) rfl
  obtain ⟨fd_term, F_term⟩ := c.x.t.d.def_ 31 (d := d_term) rfl
  obtain ⟨fd_read, F_read⟩ := c.x.t.d.def_ 32 (d := d_read) rfl
  obtain ⟨fd_bent, F_bent⟩ := c.x.t.d.def_ 33 (d := d_bent) rfl
  obtain ⟨fd_texts_right, F_texts_right⟩ := c.x.t.d.def_ 34 (d := d_texts_right) rfl
  obtain ⟨fd_law, F_law⟩ := c.x.t.d.def_ 35 (d := d_law) rfl
  obtain ⟨fd_BadSum_init, F_BadSum_init⟩ := c.x.t.d.def_ 36 (d := d_BadSum_init) rfl
  obtain ⟨fd_TooMany_init, F_TooMany_init⟩ := c.x.t.d.def_ 37 (d := d_TooMany_init) rfl
  obtain ⟨fd_BadText_init, F_BadText_init⟩ := c.x.t.d.def_ 38 (d := d_BadText_init) rfl
  obtain ⟨fd_Sum_init, F_Sum_init⟩ := c.x.t.d.def_ 39 (d := d_Sum_init) rfl
  obtain ⟨fd_Sum_eq, F_Sum_eq⟩ := c.x.t.d.def_ 40 (d := d_Sum_eq) rfl
  obtain ⟨fd_Sum_str, F_Sum_str⟩ := c.x.t.d.def_ 41 (d := d_Sum_str) rfl
  obtain ⟨fd_Sum_terms, F_Sum_terms⟩ := c.def_ 0 (q := (fun K => recOf K (He.ma K (He.ga K "Sum") "terms") "property", d_Sum_terms)) rfl
  obtain ⟨fd_Sum_names, F_Sum_names⟩ := c.def_ 1 (q := (fun K => recOf K (He.ma K (He.ga K "Sum") "names") "property", d_Sum_names)) rfl
  obtain ⟨fd_Sum_is_flat, F_Sum_is_flat⟩ := c.def_ 2 (q := (fun K => recOf K (He.ma K (He.ga K "Sum") "is_flat") "property", d_Sum_is_flat)) rfl
  obtain ⟨fd_Sum_read, F_Sum_read⟩ := c.def_ 3 (q := (fun K => recOf K (He.ma K (He.ga K "Sum") "read") "classmethod", d_Sum_read)) rfl
  have e := hfa.symm.trans (He.glo_ok X G (c.x.t.d.fact 35 (f := .glo "law") rfl))
  cases e
  have T : Txt mg := ⟨He.free_ok X G (c.x.t.d.fact 45 (f := .free "len") rfl), He.free_ok X G (c.x.t.d.fact 46 (f := .free "int") rfl), He.free_ok X G (c.x.t.d.fact 47 (f := .free "list") rfl), He.free_ok X G (c.x.t.d.fact 48 (f := .free "abs") rfl), He.free_ok X G (c.x.t.d.fact 49 (f := .free "min") rfl), He.free_ok X G (c.x.t.d.fact 50 (f := .free "range") rfl), He.free_ok X G (c.x.t.d.fact 51 (f := .free "tuple") rfl), He.free_ok X G (c.x.t.d.fact 52 (f := .free "str") rfl), He.free_ok X G (c.x.t.d.fact 53 (f := .free "bool") rfl), He.free_ok X G (c.x.t.d.fact 54 (f := .free "isinstance") rfl), He.free_ok X G (c.x.t.d.fact 55 (f := .free "all") rfl), He.free_ok X G (c.x.t.d.fact 56 (f := .free "enumerate") rfl), He.free_ok X G (c.x.t.d.fact 57 (f := .free "dict") rfl), He.free_ok X G (c.x.t.d.fact 58 (f := .free "repr") rfl), He.int_ok X G (c.x.t.d.fact 60 (f := .int "MOST_LETTERS" 6) rfl), He.int_ok X G (c.x.t.d.fact 61 (f := .int "MOST_FACTOR" 999999) rfl), He.int_ok X G (c.x.t.d.fact 62 (f := .int "MOST_TERMS" 4) rfl), He.int_ok X G (c.x.t.d.fact 63 (f := .int "MOST_TERM_NAMES" 3) rfl), He.int_ok X G (c.x.t.d.fact 64 (f := .int "MOST_UNLIKE" 3) rfl), He.str_ok X G (c.x.t.d.fact 66 (f := .str "LETTERS" "abcdefghijklmnopqrstuvwxyz") rfl)⟩
  have gF := He.int_ok X G (c.x.t.d.fact 65 (f := .int "FACTOR_DIGITS" 6) rfl)
  have gD := He.str_ok X G (c.x.t.d.fact 67 (f := .str "DIGITS" "0123456789") rfl)
  have S : SumTxt K mg (He.ga K "Sum") := ⟨He.cls_ok (c.x.t.d.fact 68 (f := .cls "Sum") rfl), He.noat_ok (c.x.t.d.fact 69 (f := .noat "Sum" "_terms") rfl), He.noat_ok (c.x.t.d.fact 70 (f := .noat "Sum" "_names") rfl), He.glo_ok X G (c.x.t.d.fact 36 (f := .glo "Sum") rfl)⟩
  have M := He.mkr_ok (c.x.t.d.fact 71 (f := .mkr "Sum") rfl)
  have mE := He.meth_ok (c.x.t.d.fact 72 (f := .meth "Sum" "__eq__") rfl)
  have mStr := He.meth_ok (c.x.t.d.fact 73 (f := .meth "Sum" "__str__") rfl)
  have mS := He.meth_ok (c.x.t.d.fact 74 (f := .meth "BadSum" "__init__") rfl)
  have mM := He.meth_ok (c.x.t.d.fact 75 (f := .meth "TooMany" "__init__") rfl)
  have mT := He.meth_ok (c.x.t.d.fact 76 (f := .meth "BadText" "__init__") rfl)
  have I : SumIs K (He.ga K "Sum") := ⟨(He.eqO_ok (exB_at XE 23 (b := He.eqO (PySem.W.findIn K (.ref (He.ga K "Sum")) "__class__") (some (some (.builtin "object.__class__")))) rfl)), (He.eqO_ok (exB_at XE 24 (b := He.eqO (PySem.W.specialIn K (.builtin "object.__class__") "__get__") (some (some (.builtin "getset_descriptor.__get__")))) rfl)), (of_decide_eq_true (exB_at XE 25 (b := decide (PySem.W.takesIn K (.builtin "object.__class__") = some true)) rfl)), (of_decide_eq_true (exB_at XE 26 (b := decide (PySem.W.mroIn K (He.ga K "Sum") (.type "object") = some true)) rfl)), (of_decide_eq_true (exB_at XE 27 (b := decide (PySem.W.kitOne K (.ref (He.ga K "Sum")) (.ref (He.ga K "Sum")) = some true)) rfl)), fun n hn => of_decide_eq_true (List.all_eq_true.mp (exB_at XE 28 (b := kinds.all fun n => decide (PySem.W.kitOne K (.type n) (.ref (He.ga K "Sum")) = some false)) rfl) n hn)⟩
  have HF : HeardF K mg (He.ga K "LeastError") (He.ga K "BadSum") (He.ga K "TooMany") (He.ga K "BadName") (He.ga K "BadNumber") (He.ga K "BadText") (He.ga K "BadWork") (He.ga K "Twice") := ⟨He.free_ok X G (c.x.t.d.fact 59 (f := .free "ValueError") rfl), (He.glo_ok X G (c.x.t.d.fact 37 (f := .glo "LeastError") rfl)), (He.glo_ok X G (c.x.t.d.fact 38 (f := .glo "BadSum") rfl)), (He.glo_ok X G (c.x.t.d.fact 39 (f := .glo "TooMany") rfl)), (He.glo_ok X G (c.x.t.d.fact 40 (f := .glo "BadName") rfl)), (He.glo_ok X G (c.x.t.d.fact 41 (f := .glo "BadNumber") rfl)), (He.glo_ok X G (c.x.t.d.fact 42 (f := .glo "BadText") rfl)), (He.glo_ok X G (c.x.t.d.fact 43 (f := .glo "BadWork") rfl)), (He.glo_ok X G (c.x.t.d.fact 44 (f := .glo "Twice") rfl)), heldC_of (exB_at XE 0 (b := heldB K (He.ga K "BadSum")) rfl), heldC_of (exB_at XE 1 (b := heldB K (He.ga K "TooMany")) rfl), (of_decide_eq_true (exB_at XE 5 (b := decide (PySem.W.exmOne K (.ref (He.ga K "BadSum")) (.ref (He.ga K "LeastError")) = some true)) rfl)), (of_decide_eq_true (exB_at XE 6 (b := decide (PySem.W.exmOne K (.ref (He.ga K "TooMany")) (.ref (He.ga K "LeastError")) = some true)) rfl)), (of_decide_eq_true (exB_at XE 8 (b := decide (PySem.W.kitAny K (.ref (He.ga K "BadSum")) [.ref (He.ga K "BadName"), .ref (He.ga K "BadNumber"), .ref (He.ga K "BadText"), .ref (He.ga K "BadWork"), .ref (He.ga K "Twice")] = some false)) rfl)), (of_decide_eq_true (exB_at XE 9 (b := decide (PySem.W.kitAny K (.ref (He.ga K "TooMany")) [.ref (He.ga K "BadName"), .ref (He.ga K "BadNumber"), .ref (He.ga K "BadText"), .ref (He.ga K "BadWork"), .ref (He.ga K "Twice")] = some false)) rfl)), (of_decide_eq_true (exB_at XE 10 (b := decide (PySem.W.kitOne K (.ref (He.ga K "BadSum")) (.type "ValueError") = some true)) rfl)), (of_decide_eq_true (exB_at XE 11 (b := decide (PySem.W.kitOne K (.ref (He.ga K "TooMany")) (.type "ValueError") = some true)) rfl)), (of_decide_eq_true (exB_at XE 12 (b := decide (PySem.W.kitOne K (.ref (He.ga K "BadSum")) (.ref (He.ga K "BadSum")) = some true)) rfl)), (of_decide_eq_true (exB_at XE 13 (b := decide (PySem.W.kitOne K (.ref (He.ga K "BadSum")) (.ref (He.ga K "TooMany")) = some false)) rfl)), (of_decide_eq_true (exB_at XE 14 (b := decide (PySem.W.kitOne K (.ref (He.ga K "TooMany")) (.ref (He.ga K "BadSum")) = some false)) rfl)), (of_decide_eq_true (exB_at XE 15 (b := decide (PySem.W.kitOne K (.ref (He.ga K "TooMany")) (.ref (He.ga K "TooMany")) = some true)) rfl)), (He.eqO_ok (exB_at XE 16 (b := He.eqO (PySem.W.findIn K (.ref (He.ga K "BadSum")) "at") (some none)) rfl)), (He.eqO_ok (exB_at XE 17 (b := He.eqO (PySem.W.findIn K (.ref (He.ga K "TooMany")) "most") (some none)) rfl))⟩
  have b_is_integer := F_is_integer.bindsN (ps := ["value"]) fun _ _ _ _ _ _ us hl => match us, hl with | [_], _ => rfl
  have b_is_within := F_is_within.bindsN (ps := ["value", "least", "most"]) fun _ _ _ _ _ _ us hl => match us, hl with | [_, _, _], _ => rfl
  have b_is_name := F_is_name.bindsN (ps := ["value"]) fun _ _ _ _ _ _ us hl => match us, hl with | [_], _ => rfl
  have b_is_decimal := F_is_decimal.bindsN (ps := ["word", "most"]) fun _ _ _ _ _ _ us hl => match us, hl with | [_, _], _ => rfl
  have b_term_text := F_term_text.bindsN (ps := ["factor", "names"]) fun _ _ _ _ _ _ us hl => match us, hl with | [_, _], _ => rfl
  have b_sum_words := F_sum_words.bindsN (ps := ["terms"]) fun _ _ _ _ _ _ us hl => match us, hl with | [_], _ => rfl
  have b_terms_of := F_terms_of.bindsN (ps := ["words", "start", "line"]) fun _ _ _ _ _ _ us hl => match us, hl with | [_, _, _], _ => rfl
  have b_term_at := F_term_at.bindsN (ps := ["words", "start", "at", "sign", "line"]) fun _ _ _ _ _ _ us hl => match us, hl with | [_, _, _, _, _], _ => rfl
  have b_names_at := F_names_at.bindsN (ps := ["words", "start", "at", "line"]) fun _ _ _ _ _ _ us hl => match us, hl with | [_, _, _, _], _ => rfl
  have b_name_fits := F_name_fits.bindsN (ps := ["words", "start", "at"]) fun _ _ _ _ _ _ us hl => match us, hl with | [_, _, _], _ => rfl
  have b_factor_of := F_factor_of.bindsN (ps := ["word", "sign"]) fun _ _ _ _ _ _ us hl => match us, hl with | [_, _], _ => rfl
  have b_is_term := F_is_term.bindsN (ps := ["value"]) fun _ _ _ _ _ _ us hl => match us, hl with | [_], _ => rfl
  have b_unlike_names := F_unlike_names.bindsN (ps := ["terms"]) fun _ _ _ _ _ _ us hl => match us, hl with | [_], _ => rfl
  have b_pen := F_pen.bindsN (ps := ["script"]) fun _ _ _ _ _ _ us hl => match us, hl with | [_], _ => rfl
  have b_draw := F_draw.bindsN (ps := ["pen", "many"]) fun _ _ _ _ _ _ us hl => match us, hl with | [_, _], _ => rfl
  have b_pick := F_pick.bindsN (ps := ["pen", "some"]) fun _ _ _ _ _ _ us hl => match us, hl with | [_, _], _ => rfl
  have b_some := F_some.bindsN (ps := ["pen", "pool", "least", "most"]) fun _ _ _ _ _ _ us hl => match us, hl with | [_, _, _, _], _ => rfl
  have b_names := F_names.bindsN (ps := ["pen", "many"]) fun _ _ _ _ _ _ us hl => match us, hl with | [_, _], _ => rfl
  have b_factor := F_factor.bindsN (ps := ["pen"]) fun _ _ _ _ _ _ us hl => match us, hl with | [_], _ => rfl
  have b_terms := F_terms.bindsN (ps := ["pen", "names"]) fun _ _ _ _ _ _ us hl => match us, hl with | [_, _], _ => rfl
  have b_sum := F_sum.bindsN (ps := ["terms"]) fun _ _ _ _ _ _ us hl => match us, hl with | [_], _ => rfl
  have b_text := F_text.bindsN (ps := ["terms"]) fun _ _ _ _ _ _ us hl => match us, hl with | [_], _ => rfl
  have b_unlike := F_unlike.bindsN (ps := ["terms"]) fun _ _ _ _ _ _ us hl => match us, hl with | [_], _ => rfl
  have b_heard := F_heard.bindsN (ps := ["ask"]) fun _ _ _ _ _ _ us hl => match us, hl with | [_], _ => rfl
  have b_passed := F_passed.bindsN (ps := ["pen", "terms"]) fun _ _ _ _ _ _ us hl => match us, hl with | [_, _], _ => rfl
  have b_made_right := F_made_right.bindsN (ps := ["pen", "terms"]) fun _ _ _ _ _ _ us hl => match us, hl with | [_, _], _ => rfl
  have b_other := F_other.bindsN (ps := ["pen", "terms"]) fun _ _ _ _ _ _ us hl => match us, hl with | [_, _], _ => rfl
  have b_odd_term := F_odd_term.bindsN (ps := ["pen"]) fun _ _ _ _ _ _ us hl => match us, hl with | [_], _ => rfl
  have b_refused := F_refused.bindsN (ps := ["pen", "terms"]) fun _ _ _ _ _ _ us hl => match us, hl with | [_, _], _ => rfl
  have b_is_number := F_is_number.bindsN (ps := ["word"]) fun _ _ _ _ _ _ us hl => match us, hl with | [_], _ => rfl
  have b_law_is_name := F_law_is_name.bindsN (ps := ["word"]) fun _ _ _ _ _ _ us hl => match us, hl with | [_], _ => rfl
  have b_term := F_term.bindsN (ps := ["words", "sign"]) fun _ _ _ _ _ _ us hl => match us, hl with | [_, _], _ => rfl
  have b_read := F_read.bindsN (ps := ["text"]) fun _ _ _ _ _ _ us hl => match us, hl with | [_], _ => rfl
  have b_bent := F_bent.bindsN (ps := ["pen", "text"]) fun _ _ _ _ _ _ us hl => match us, hl with | [_, _], _ => rfl
  have b_texts_right := F_texts_right.bindsN (ps := ["pen", "terms"]) fun _ _ _ _ _ _ us hl => match us, hl with | [_, _], _ => rfl
  have b_BadSum_init := F_BadSum_init.bindsN (ps := ["self", "at"]) fun _ _ _ _ _ _ us hl => match us, hl with | [_, _], _ => rfl
  have b_TooMany_init := F_TooMany_init.bindsN (ps := ["self", "most"]) fun _ _ _ _ _ _ us hl => match us, hl with | [_, _], _ => rfl
  have b_BadText_init := F_BadText_init.bindsN (ps := ["self", "line", "word"]) fun _ _ _ _ _ _ us hl => match us, hl with | [_, _, _], _ => rfl
  have b_Sum_eq := F_Sum_eq.bindsN (ps := ["self", "other"]) fun _ _ _ _ _ _ us hl => match us, hl with | [_, _], _ => rfl
  have b_Sum_str := F_Sum_str.bindsN (ps := ["self"]) fun _ _ _ _ _ _ us hl => match us, hl with | [_], _ => rfl
  have b_Sum_terms := F_Sum_terms.bindsN (ps := ["self"]) fun _ _ _ _ _ _ us hl => match us, hl with | [_], _ => rfl
  have b_Sum_names := F_Sum_names.bindsN (ps := ["self"]) fun _ _ _ _ _ _ us hl => match us, hl with | [_], _ => rfl
  have b_Sum_is_flat := F_Sum_is_flat.bindsN (ps := ["self"]) fun _ _ _ _ _ _ us hl => match us, hl with | [_], _ => rfl
  have b_Sum_read := F_Sum_read.bindsN (ps := ["cls", "text"]) fun _ _ _ _ _ _ us hl => match us, hl with | [_, _], _ => rfl
  have bL := F_law.bindsA (ps := ["script"]) fun _ _ _ _ _ _ us hl => match us, hl with | [_], _ => rfl
  have c1 := cd_of (K := K) (x := "_law_refused") (st := s_refused) (p := ("_law_refused", none)) F_refused
  have c2 := cd_of (K := K) (x := "_law_texts_right") (st := s_texts_right) (p := ("_law_texts_right", none)) F_texts_right
  have ne2 := (of_decide_eq_true (exB_at XE 36 (b := decide ((He.cT K ("_law_refused", none)).2 ≠ (He.cT K ("_law_texts_right", none)).2)) rfl))
  have pr1 := prop_of (exB_at XE 32 (b := propB K (He.ga K "Sum") "terms") rfl)
  have pr2 := prop_of (exB_at XE 33 (b := propB K (He.ga K "Sum") "names") rfl)
  have pr3 := prop_of (exB_at XE 34 (b := propB K (He.ga K "Sum") "is_flat") rfl)
  obtain ⟨rd, cmr⟩ := cmet_of (exB_at XE 35 (b := cmetB K (He.ga K "Sum") (.type "type") "read") rfl)
  have kbr := kb_read F_Sum_read
  refine ⟨fd_law, fun s v => bL s [v] rfl, fun base _ _ tabB => ?_⟩
  have tb1 := tabB _ (List.mem_cons_self ..)
  have tb2 := tabB _ (List.mem_cons_of_mem _ (List.mem_cons_self ..))
  have ES : ErrC P w K mg base "BadSum" "at" (He.ga K "BadSum") _ fd_BadSum_init := ⟨(He.glo_ok X G (c.x.t.d.fact 38 (f := .glo "BadSum") rfl)), oexC_of (exB_at XE 2 (b := oexB K (He.ga K "BadSum")) rfl), mS.1, (of_decide_eq_true (exB_at XE 20 (b := decide (PySem.W.typeIn K (.ref (He.ma K (He.ga K "BadSum") "__init__")) = some (.type "function"))) rfl)), ok_BadSum (oexC_of (exB_at XE 2 (b := oexB K (He.ga K "BadSum")) rfl)) (He.eqO_ok (exB_at XE 16 (b := He.eqO (PySem.W.findIn K (.ref (He.ga K "BadSum")) "at") (some none)) rfl)) F_BadSum_init, b_BadSum_init⟩
  have EM : ErrC P w K mg base "TooMany" "most" (He.ga K "TooMany") _ fd_TooMany_init := ⟨(He.glo_ok X G (c.x.t.d.fact 39 (f := .glo "TooMany") rfl)), oexC_of (exB_at XE 3 (b := oexB K (He.ga K "TooMany")) rfl), mM.1, (of_decide_eq_true (exB_at XE 21 (b := decide (PySem.W.typeIn K (.ref (He.ma K (He.ga K "TooMany") "__init__")) = some (.type "function"))) rfl)), ok_TooMany (oexC_of (exB_at XE 3 (b := oexB K (He.ga K "TooMany")) rfl)) (He.eqO_ok (exB_at XE 17 (b := He.eqO (PySem.W.findIn K (.ref (He.ga K "TooMany")) "most") (some none)) rfl)) F_TooMany_init, b_TooMany_init⟩
  have ET : ErrC2 P w K mg base "BadText" "line" "word" (He.ga K "BadText") _ fd_BadText_init := ⟨(He.glo_ok X G (c.x.t.d.fact 42 (f := .glo "BadText") rfl)), oexC_of (exB_at XE 4 (b := oexB K (He.ga K "BadText")) rfl), mT.1, (of_decide_eq_true (exB_at XE 22 (b := decide (PySem.W.typeIn K (.ref (He.ma K (He.ga K "BadText") "__init__")) = some (.type "function"))) rfl)), ok_BadText (oexC_of (exB_at XE 4 (b := oexB K (He.ga K "BadText")) rfl)) (He.eqO_ok (exB_at XE 18 (b := He.eqO (PySem.W.findIn K (.ref (He.ga K "BadText")) "line") (some none)) rfl)) (He.eqO_ok (exB_at XE 19 (b := He.eqO (PySem.W.findIn K (.ref (He.ga K "BadText")) "word") (some none)) rfl)) F_BadText_init, b_BadText_init⟩
  have EH : ErrH P w K mg base "BadSum" "at" (He.ga K "BadSum") _ fd_BadSum_init := ⟨ES, ok_BadSumH (oexC_of (exB_at XE 2 (b := oexB K (He.ga K "BadSum")) rfl)) (He.eqO_ok (exB_at XE 16 (b := He.eqO (PySem.W.findIn K (.ref (He.ga K "BadSum")) "at") (some none)) rfl)) F_BadSum_init⟩
  have k_draw : Cal P w K mg base CX0 1 "_law_draw" _ _ := ⟨_, _, (He.glo_ok X G (c.x.t.d.fact 14 (f := .glo "_law_draw") rfl)), ok_draw T F_draw, F_draw.kp, b_draw⟩
  have k_pick : Cal P w K mg base CX0 2 "_law_pick" _ _ := ⟨_, _, (He.glo_ok X G (c.x.t.d.fact 15 (f := .glo "_law_pick") rfl)), ok_pick T F_pick k_draw, F_pick.kp, b_pick⟩
  have k_some : Cal P w K mg base CX0 2 "_law_some" _ _ := ⟨_, _, (He.glo_ok X G (c.x.t.d.fact 16 (f := .glo "_law_some") rfl)), ok_some T F_some k_draw, F_some.kp, b_some⟩
  have k_names : Cal P w K mg base CX0 3 "_law_names" _ _ := ⟨_, _, (He.glo_ok X G (c.x.t.d.fact 17 (f := .glo "_law_names") rfl)), ok_names T F_names k_pick k_some, F_names.kp, b_names⟩
  have k_factor : Cal P w K mg base CX0 3 "_law_factor" _ _ := ⟨_, _, (He.glo_ok X G (c.x.t.d.fact 18 (f := .glo "_law_factor") rfl)), ok_factor T F_factor (k_draw.mono (by decide)) k_pick, F_factor.kp, b_factor⟩
  have k_terms : Cal P w K mg base CX0 4 "_law_terms" _ _ := ⟨_, _, (He.glo_ok X G (c.x.t.d.fact 19 (f := .glo "_law_terms") rfl)), ok_terms T F_terms (k_draw.mono (by decide)) (k_pick.mono (by decide)) k_factor, F_terms.kp, b_terms⟩
  have k_unlike : Cal P w K mg base CX0 1 "_law_unlike" _ _ := ⟨_, _, (He.glo_ok X G (c.x.t.d.fact 22 (f := .glo "_law_unlike") rfl)), ok_unlike T F_unlike, F_unlike.kp, b_unlike⟩
  have k_is_integer : Cal P w K mg base CX0 1 "is_integer" _ _ := ⟨_, _, (He.glo_ok X G (c.x.t.d.fact 0 (f := .glo "is_integer") rfl)), ok_is_integer T F_is_integer, F_is_integer.kp, b_is_integer⟩
  have k_is_within : Cal P w K mg base CX0 2 "is_within" _ _ := ⟨_, _, (He.glo_ok X G (c.x.t.d.fact 1 (f := .glo "is_within") rfl)), ok_is_within T F_is_within k_is_integer, F_is_within.kp, b_is_within⟩
  have k_is_name : Cal P w K mg base CX0 1 "is_name" _ _ := ⟨_, _, (He.glo_ok X G (c.x.t.d.fact 2 (f := .glo "is_name") rfl)), ok_is_name T F_is_name, F_is_name.kp, b_is_name⟩
  have k_is_term : Cal P w K mg base CX0 3 "is_term" _ _ := ⟨_, _, (He.glo_ok X G (c.x.t.d.fact 11 (f := .glo "is_term") rfl)), ok_is_term T F_is_term k_is_within (k_is_name.mono (by decide)), F_is_term.kp, b_is_term⟩
  have k_unlike_names : Cal P w K mg base CX0 1 "unlike_names" _ _ := ⟨_, _, (He.glo_ok X G (c.x.t.d.fact 12 (f := .glo "unlike_names") rfl)), ok_unlike_names T F_unlike_names, F_unlike_names.kp, b_unlike_names⟩
  have FI := fr_initG T S ES EM F_Sum_init k_is_term (k_unlike_names.mono (by decide))
  have k_sum : Cal P w K mg base (L2.CX P w) 6 "_law_sum" _ _ := ⟨_, _, (He.glo_ok X G (c.x.t.d.fact 20 (f := .glo "_law_sum") rfl)), ok_sumG T S M F_sum FI, F_sum.kp, b_sum⟩
  have k_term_text : Cal P w K mg base CX0 1 "term_text" _ _ := ⟨_, _, (He.glo_ok X G (c.x.t.d.fact 4 (f := .glo "term_text") rfl)), ok_term_text T F_term_text, F_term_text.kp, b_term_text⟩
  have k_sum_words : Cal P w K mg base CX0 2 "sum_words" _ _ := ⟨_, _, (He.glo_ok X G (c.x.t.d.fact 5 (f := .glo "sum_words") rfl)), ok_sum_words T F_sum_words k_term_text, F_sum_words.kp, b_sum_words⟩
  have k_text : Cal P w K mg base CX0 1 "_law_text" _ _ := ⟨_, _, (He.glo_ok X G (c.x.t.d.fact 21 (f := .glo "_law_text") rfl)), ok_law_text T F_text, F_text.kp, b_text⟩
  have k_is_decimal : Cal P w K mg base CX0 1 "is_decimal" _ _ := ⟨_, _, (He.glo_ok X G (c.x.t.d.fact 3 (f := .glo "is_decimal") rfl)), ok_is_decimal T gD F_is_decimal, F_is_decimal.kp, b_is_decimal⟩
  have k_factor_of : Cal P w K mg base CX0 2 "factor_of" _ _ := ⟨_, _, (He.glo_ok X G (c.x.t.d.fact 10 (f := .glo "factor_of") rfl)), ok_factor_of T gF F_factor_of k_is_decimal, F_factor_of.kp, b_factor_of⟩
  have k_name_fits : Cal P w K mg base CX0 3 "name_fits" _ _ := ⟨_, _, (He.glo_ok X G (c.x.t.d.fact 9 (f := .glo "name_fits") rfl)), ok_name_fits T F_name_fits (k_is_name.mono (by decide)), F_name_fits.kp, b_name_fits⟩
  have k_names_at : Cal P w K mg base (L2N.CX P w) 4 "names_at" _ _ := ⟨_, _, (He.glo_ok X G (c.x.t.d.fact 8 (f := .glo "names_at") rfl)), ok_names_at T ET F_names_at k_name_fits, F_names_at.kp, b_names_at⟩
  have k_term_at : Cal P w K mg base (L2N.CX P w) 5 "term_at" _ _ := ⟨_, _, (He.glo_ok X G (c.x.t.d.fact 7 (f := .glo "term_at") rfl)), ok_term_at T ET F_term_at (k_is_name.mono (by decide)) (k_factor_of.mono (by decide)) k_names_at, F_term_at.kp, b_term_at⟩
  have k_terms_of : Cal P w K mg base (L2N.CX P w) 6 "terms_of" _ _ := ⟨_, _, (He.glo_ok X G (c.x.t.d.fact 6 (f := .glo "terms_of") rfl)), ok_terms_of T ET F_terms_of k_term_at, F_terms_of.kp, b_terms_of⟩
  have RD := ok_read T S M EH (He.glo_ok X G (c.x.t.d.fact 42 (f := .glo "BadText") rfl)) (of_decide_eq_true (exB_at XE 7 (b := decide (PySem.W.exmOne K (.ref (He.ga K "BadText")) (.ref (He.ga K "BadText")) = some true)) rfl)) FI k_terms_of F_Sum_read
  have SK : SumKit P w K mg base (He.ga K "Sum") (He.ga K "BadSum") (He.ga K "TooMany") := ⟨S, I, ⟨_, _, _, pr1, ok_getTerms S F_Sum_terms, b_Sum_terms⟩, ⟨_, _, _, pr2, ok_getNames S F_Sum_names, b_Sum_names⟩, ⟨_, _, _, pr3, ok_flat T S F_Sum_is_flat, b_Sum_is_flat⟩, ⟨_, _, ⟨mE.1, mE.2, (He.eqO_ok (exB_at XE 31 (b := He.eqO (PySem.W.findIn K (.ref (He.ga K "Sum")) "__ne__") (some (some (.builtin "object.__ne__")))) rfl)), (of_decide_eq_true (exB_at XE 26 (b := decide (PySem.W.mroIn K (He.ga K "Sum") (.type "object") = some true)) rfl))⟩, ok_eq T S I F_Sum_eq, b_Sum_eq⟩, ⟨_, _, ⟨mStr.1, mStr.2⟩, ok_str T S F_Sum_str k_sum_words, b_Sum_str⟩, ⟨_, _, _, _, _, _, rd, cmr, RD, b_Sum_read, kbr, fun _ _ => rfl⟩, fun n hn => List.all_eq_true.mp (exB_at XE 29 (b := kinds.all fun n => PySem.W.notFirst K (He.ga K "Sum") (.type n)) rfl) n hn, (of_decide_eq_true (exB_at XE 30 (b := decide (PySem.W.kitOne K (.ref (He.ga K "Sum")) (.type "str") = some false)) rfl))⟩
  have DH : HeardD P w K mg (He.ga K "BadSum") (He.ga K "TooMany") := ⟨_, _, _, _, _, _, _, _, HF, F_heard, (He.glo_ok X G (c.x.t.d.fact 23 (f := .glo "_law_heard") rfl)), b_heard⟩
  have k_passed : Cal P w K mg base CX0 2 "_law_passed" _ _ := ⟨_, _, (He.glo_ok X G (c.x.t.d.fact 24 (f := .glo "_law_passed") rfl)), ok_passed T F_passed k_draw, F_passed.kp, b_passed⟩
  have k_made_right : CalG P w K mg base CX0 8 "_law_made_right" _ _ := ⟨_, _, (He.glo_ok X G (c.x.t.d.fact 25 (f := .glo "_law_made_right") rfl)), ok_made_right T SK F_made_right (k_passed.mono (by decide)) (k_sum.mono (by decide)) (k_text.mono (by decide)) (k_unlike.mono (by decide)), F_made_right.kp, b_made_right⟩
  have k_other : Cal P w K mg base CX0 2 "_law_other" _ _ := ⟨_, _, (He.glo_ok X G (c.x.t.d.fact 26 (f := .glo "_law_other") rfl)), ok_other T F_other k_draw, F_other.kp, b_other⟩
  have k_odd_term : Cal P w K mg base CX0 3 "_law_odd_term" _ _ := ⟨_, _, (He.glo_ok X G (c.x.t.d.fact 27 (f := .glo "_law_odd_term") rfl)), ok_odd_term T F_odd_term k_pick, F_odd_term.kp, b_odd_term⟩
  have MK1 : Mkr K mg base (TB K) (He.cT K ("_law_refused", none)).1 (He.cT K ("_law_refused", none)).2 "_law_refused.<locals>.<lambda>" := ⟨tb1, List.mem_cons_self .., fun p hp e => by
    rcases List.mem_cons.mp hp with rfl | hp
    · rfl
    · rcases List.mem_cons.mp hp with rfl | hp
      · exact absurd e.symm ne2
      · cases hp⟩
  have MK2 : Mkr K mg base (TB K) (He.cT K ("_law_texts_right", none)).1 (He.cT K ("_law_texts_right", none)).2 "_law_texts_right.<locals>.<lambda>" := ⟨tb2, List.mem_cons_of_mem _ (List.mem_cons_self ..), fun p hp e => by
    rcases List.mem_cons.mp hp with rfl | hp
    · exact absurd e ne2
    · rcases List.mem_cons.mp hp with rfl | hp
      · rfl
      · cases hp⟩
  have k_refused : CalG P w K mg base CX0 10 "_law_refused" _ _ := ⟨_, _, (He.glo_ok X G (c.x.t.d.fact 28 (f := .glo "_law_refused") rfl)), ok_refused T SK DH F_refused c1 MK1 M FI (k_draw.mono (by decide)) (k_odd_term.mono (by decide)) (k_names.mono (by decide)) (k_factor.mono (by decide)) (k_sum.mono (by decide)), F_refused.kp, b_refused⟩
  have k_is_number : Cal P w K mg base CX0 1 "_law_is_number" _ _ := ⟨_, _, (He.glo_ok X G (c.x.t.d.fact 29 (f := .glo "_law_is_number") rfl)), ok_law_num T F_is_number, F_is_number.kp, b_is_number⟩
  have k_law_is_name : Cal P w K mg base CX0 1 "_law_is_name" _ _ := ⟨_, _, (He.glo_ok X G (c.x.t.d.fact 30 (f := .glo "_law_is_name") rfl)), ok_law_name T F_law_is_name, F_law_is_name.kp, b_law_is_name⟩
  have k_term : Cal P w K mg base CX0 2 "_law_term" _ _ := ⟨_, _, (He.glo_ok X G (c.x.t.d.fact 31 (f := .glo "_law_term") rfl)), ok_law_term T F_term k_is_number k_law_is_name, F_term.kp, b_term⟩
  have k_read : Cal P w K mg base CX0 3 "_law_read" _ _ := ⟨_, _, (He.glo_ok X G (c.x.t.d.fact 32 (f := .glo "_law_read") rfl)), ok_law_read T F_read k_term (k_unlike.mono (by decide)) (k_text.mono (by decide)), F_read.kp, b_read⟩
  have k_bent : Cal P w K mg base CX0 3 "_law_bent" _ _ := ⟨_, _, (He.glo_ok X G (c.x.t.d.fact 33 (f := .glo "_law_bent") rfl)), ok_bent T F_bent (k_draw.mono (by decide)) k_pick, F_bent.kp, b_bent⟩
  have k_texts_right : CalG P w K mg base CX0 10 "_law_texts_right" _ _ := ⟨_, _, (He.glo_ok X G (c.x.t.d.fact 34 (f := .glo "_law_texts_right") rfl)), ok_texts_right T SK DH F_texts_right c2 MK2 (k_draw.mono (by decide)) (k_pick.mono (by decide)) (k_bent.mono (by decide)) (k_text.mono (by decide)) (k_read.mono (by decide)) (k_sum.mono (by decide)), F_texts_right.kp, b_texts_right⟩
  have k_pen : Cal P w K mg base CX0 1 "_law_pen" _ _ := ⟨_, _, (He.glo_ok X G (c.x.t.d.fact 13 (f := .glo "_law_pen") rfl)), ok_pen T F_pen, F_pen.kp, b_pen⟩
  exact ok_law T SK F_law (k_pen.mono (by decide)) (k_names.mono (by decide)) (k_terms.mono (by decide)) (k_sum.mono (by decide)) (k_other.mono (by decide)) (k_made_right.mono (by decide)) (k_refused.mono (by decide)) (k_texts_right.mono (by decide))
def loose0 : List Str := ["_wall", "LeastError", "BadName", "BadNumber", "Twice", "TooMany", "BadSum", "BadWork", "BadText", "LETTERS", "DIGITS", "MOST_LETTERS", "is_integer", "is_within", "is_name", "is_decimal", "MOST_TERMS", "MOST_TERM_NAMES", "MOST_UNLIKE", "MOST_FACTOR", "FACTOR_DIGITS", "term_text", "sum_words", "terms_of"]
def loose1 : List Str := ["term_at", "names_at", "name_fits", "factor_of", "is_term", "unlike_names", "Sum", "_law_pen", "_law_draw", "_law_pick", "_law_some", "_law_names", "_law_factor", "_law_terms", "_law_sum", "_law_text", "_law_unlike", "_law_heard", "_law_passed", "_law_made_right", "_law_other", "_law_odd_term", "_law_refused", "_law_is_number"]
def loose2 : List Str := ["_law_is_name", "_law_term", "_law_read", "_law_bent", "_law_texts_right"]
abbrev loose : List Str := loose0 ++ loose1 ++ loose2
end LC
namespace LC
open PySem PySem.Spec PyProof.Rows L2
abbrev R : PySem.W.OpenRow := PySem.W.OpenLaw.row PySem.Challenge.rw_leastcode_k02_sums
abbrev hk : PySem.W.Hook := hookY 5 fa fn tf gs exB
def ob (s : PySem.W.SharedT) : AlY := obsY 5 fa fn tf gs exB (HandSHeadRun.getT s)
theorem ob_eq (s : PySem.W.SharedT) : ob s = hk.obs s.abs := obsY_eq (HandSHeadRun.getT_eq s)
theorem run (w : World) : HandSHeadRun.RunEq R (PySem.W.view R.prog [58]) hk ob 20000 loose w := by
  intro os
  kernel_rfl
end LC
open PySem PySem.W PySem.Calls PyProof.Rows
theorem PySem.Challenge.cw_leastcode_k02_sums_holds : PySem.Challenge.rw_leastcode_k02_sums.Holds := by
  w_on; o_law
  refine HandSHeadRun.head_any (r := LC.R) (q := view LC.R.prog [58]) (H := LC.hk) (ob := LC.ob) (M := 20000) (loose := LC.loose) (d := HandSHeadRun.topDef LC.R.prog 58) (kwd := []) LC.ob_eq
    (by kernel_rfl) (fun s => by kernel_rfl) LC.run (by kernel_rfl) (by kernel_rfl) (by kernel_rfl) (by rfl) (by first | assumption | decide +kernel) (by decide +kernel) ⟨rfl, rfl, rfl, rfl, rfl, by decide +kernel⟩ ?hw ?hc
  case hw => w_witness2
  case hc =>
    refine LC.walk_GT (l := PySem.Challenge.rw_leastcode_k02_sums) (n := 63) (k := 11) (x := "script") (CX := fun _ => L2.CX0) rfl (by decide) (by kernel_rfl) ⟨rfl, by decide, by decide⟩ ?F (fun _ _ _ _ _ z => z)
    intro w mg fa h Y G hmg0
    obtain ⟨K, KX, c⟩ := Y
    have hmg : mg ("law" : PySem.Str) = some (.ref fa) := by
      have e : (HandSHeadRun.topDef LC.R.prog 58).name = ("law" : PySem.Str) := by kernel_rfl
      rw [← e]
      exact hmg0
    obtain ⟨fd, hb, hF⟩ := LC.facts (P := (PySem.Challenge.rw_leastcode_k02_sums).prog) (w := w) KX G hmg c
    refine ⟨K, fd, LC.spLaw K (LC.TB K), [He.cT K ("_law_refused", none), He.cT K ("_law_texts_right", none)], KX, ?_, ?_, ?_, hb, ?_, hF⟩
    · intro q hq
      obtain ⟨p, hp, rfl⟩ := List.mem_map.mp (show q ∈ LC.tf.map (He.cT K) from hq)
      exact c.x.empty p hp
    · intro q hq
      obtain ⟨p, hp, rfl⟩ := List.mem_map.mp (show q ∈ LC.tf.map (He.cT K) from hq)
      exact c.x.out p hp
    · intro q hq
      obtain ⟨p, hp, rfl⟩ := List.mem_map.mp (show q ∈ LC.tf.map (He.cT K) from hq)
      exact c.x.hd p hp
    · intro H a ns hl hT hS
      exact ⟨a, ns, rfl, hS, hl, LC.tabs_of hT, fun _ => rfl⟩
