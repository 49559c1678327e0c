import PyProof.Rows.All
import Wide.All
import OpenK.AllK
import Wide.FinOn
import KE.KStateDown
import KE.KEqSeq
import HandS.ForMost
import HandS.More
import HandS.Words
import HandS.Defaults
import HandS.Wide
import HandS.WideBits
import HandS.IsInst
import HandS.Star
import HandS.Property
import HandS.ClsMeth
import HandS.Evl
import HandS.Walk
import HandS.HeadEnd
import PyProof.ReprRoads
import PyProof.ReprLen
import KE.GoesMore
import HandS.MakeKw
import HandS.Style
import HandS.Dict
import HandS.RaiseMore
import HandS.Head0
import HandS.Head1
import HandS.Head2
import HandS.HeadHook1
import HandS.HeadHook2
import PySem.Challenge.RW_leastcode_k04_values_of_sums
set_option Elab.async false
set_option linter.all false
set_option maxRecDepth 100000
set_option maxHeartbeats 0
/-! LcBase: heaps, calls in short, the pen. -/
namespace LC
open PySem PySem.Spec PyProof.Rows L2
/-! ### heaps: all but p is kept -/
def But (p : Addr) (H H' : Hp) : Prop := ∀ b o, b ≠ p → H b = some o → H' b = some o
theorem But.refl (p : Addr) (H : Hp) : But p H H := fun _ _ _ h => h
theorem But.trans {p : Addr} {H H1 H2 : Hp} (a : But p H H1) (b : But p H1 H2) : But p H H2 := fun c o n h => b c o n (a c o n h)
theorem But.new {p : Addr} {H : Hp} {q : Addr} {o : HO} (h : H q = none) : But p H (upd H q o) := fun b x _ e => by
  rw [upd_ne (ne_of_none e h)]
  exact e
theorem But.set {p : Addr} {H : Hp} {o : HO} : But p H (upd H p o) := fun b x n e => by
  rw [upd_ne n]
  exact e
theorem But.same {p : Addr} {H H' : Hp} (s : Same H H') : But p H H' := fun b o _ h => s b o h
theorem same_new {H : Hp} {p : Addr} {o : HO} (h : H p = none) : Same H (upd H p o) := fun b x e => by
  rw [upd_ne (ne_of_none e h)]
  exact e
theorem But.free {p : Addr} {H H' : Hp} (e : But p H H') {l : Addr} (hl : l ≠ p) (h : H' l = none) : H l = none := by
  cases q : H l with
  | none => rfl
  | some o =>
    rw [e l o hl q] at h
    cases h
/-- a new address is not p where p stands -/
theorem new_ne {H : Hp} {p q : Addr} {o : HO} (h : H p = some o) (n : H q = none) : q ≠ p := fun e => by
  rw [e, h] at n
  cases n
theorem But.sql {K : PySem.W.Frag} {p a : Addr} {H H' : Hp} {xs : List V} (e : But p H H') (h : H a = some (.lst xs)) (n : a ≠ p) : SqL K H' a xs := .inl (.inl (e _ _ n h))
/-- a new object, a changed one: the heap behind it by what is known -/
theorem alloc_of {H : Hp} {o : HO} {G : Addr → Hp → Prop} (h : ∀ (a : Addr) (H' : Hp), H a = none → Same H H' → H' a = some o → G a H') : ∀ a, H a = none → G a (upd H a o) := fun a n => h a _ n (same_new n) upd_same
theorem set_of {H : Hp} {p : Addr} {o : HO} {G : Hp → Prop} (h : ∀ H' : Hp, But p H H' → H' p = some o → G H') : G (upd H p o) := h _ .set upd_same
/-! ### a def of the module by its promise -/
def Cal (P : Program) (w : World) (K : PySem.W.Frag) (mg : Str → Option Value) (base : Heap) (CX : CXT) (k : Nat) (x : Str) (ps : List Str) (sp : Sp) : Prop :=
  ∃ f fd, mg x = some (.ref f) ∧ FnOk P w K mg base CX k f fd ps sp ∧ PySem.W.keepIn K (.ref f) = true ∧ Binds K fd ps []
theorem Cal.mono {P : Program} {w : World} {K : PySem.W.Frag} {mg : Str → Option Value} {base : Heap} {CX : CXT} {j k : Nat} {x : Str} {ps : List Str} {sp : Sp} (c : Cal P w K mg base CX j x ps sp) (h : j ≤ k) : Cal P w K mg base CX k x ps sp := by
  obtain ⟨f, fd, m, F, kp, b⟩ := c
  exact ⟨f, fd, m, F.mono h, kp, b⟩
/-- a call's reading -/
def tCal (sp : Sp) (E : XK) (t : TA) : TE := fun σ H Q => t σ H fun vs H1 => sp vs H1 Q E
section
variable {X : Cx} {CX : CXT} {k : Nat} {x : Str} {ps : List Str} {sp : Sp} {E : XK} {e : Expr} {es : List Expr} {t : TA} {p pos : Pos}
theorem pe_cal (c : Cal X.prog X.w X.K X.mg X.base CX k x ps sp) (hr : Room k X.A) (hg : Gl X x) (hx : Passes CX X E) (ha : PA X (e :: es) t) (hdb : (x == ("__debug__" : Str)) = false := by decide)
    (he : starEach (e :: es) X.env = (false, eval e X.env) :: starEach es X.env := by rfl) (hpl : (backTo pos (starEach es X.env)).any (·.1) = false := by rfl) : PE X (.Call (.Name x p) (e :: es) [] pos) (tCal sp E t) := by
  obtain ⟨f, fd, m, F, kp, b⟩ := c
  have z := pe_call F hr hg m kp b .nil hx ha hdb he hpl (p := p)
  refine ⟨fun pins s σ H Q I h => z.run pins s σ H Q I ?_⟩
  show t σ H fun vs H1 => sp (vs ++ []) H1 Q E
  simp only [List.append_nil]
  exact h
theorem pe_cal0 (c : Cal X.prog X.w X.K X.mg X.base CX k x ps sp) (hr : Room k X.A) (hg : Gl X x) (hx : Passes CX X E) (hdb : (x == ("__debug__" : Str)) = false := by decide) :
    PE X (.Call (.Name x p) [] [] pos) (tCal sp E tNil) := by
  obtain ⟨f, fd, m, F, kp, b⟩ := c
  exact pe_call0 F hr hg m kp b .nil hx hdb
end
section
variable {X : Cx} {x : Str} {pos : Pos}
/-- a module's constant -/
theorem pe_gint {i : Int} (h : ∃ t, X.mg x = some (.int i t)) (hg : Gl X x := by rfl) (hd : (x == ("__debug__" : Str)) = false := by decide) : PE X (.Name x pos) (tC (.int i)) := by
  obtain ⟨t, e⟩ := h
  exact pe_glob hg e ⟨t, rfl⟩ hd
theorem pe_gstr {z : Str} (h : ∃ t, X.mg x = some (.str z t)) (hg : Gl X x := by rfl) (hd : (x == ("__debug__" : Str)) = false := by decide) : PE X (.Name x pos) (tC (.str z)) := by
  obtain ⟨t, e⟩ := h
  exact pe_glob hg e ⟨t, rfl⟩ hd
/-- a built-in class as a value -/
theorem pe_bty (C : String) (hm : X.mg x = none) (hv : bootBuiltins x = some (.type C)) (hg : Gl X x := by rfl) (hn : x ≠ "__name__" := by decide) (hd : (x == ("__debug__" : Str)) = false := by decide) : PE X (.Name x pos) (tC (.ty C)) := pe_bltn hg hm hv (show RelV (.ty C) (.type C) from rfl) hn hd
end
/-- a def of the top's text -/
abbrev FnP (K : PySem.W.Frag) (x : Str) (st : Stmt) (f : Addr) (fd : FuncData) : Prop := FunD K x x (defArgs st) (defBody st) (defScope st) [] [] f fd
/-! ### ints -/
theorem natAbs_lt_pow {i : Int} {n : Nat} (h0 : 0 ≤ i) (h : i < 2 ^ n) : i.natAbs < 2 ^ n := by
  have e : ((i.natAbs : Nat) : Int) < ((2 ^ n : Nat) : Int) := by
    rw [Int.natAbs_of_nonneg h0, Int.natCast_pow]
    exact h
  exact Int.ofNat_lt.mp e
theorem small_pow {i : Int} (h0 : 0 ≤ i) (h : i < 2 ^ 250) : i.natAbs < 2 ^ 8000 := Nat.lt_of_lt_of_le (natAbs_lt_pow h0 h) (Nat.pow_le_pow_right (by decide) (by decide))
theorem sz_le {n : Nat} (h : n ≤ 100000) : n ≤ sizeLine := Nat.le_trans h (by decide)
theorem sz_lt {n : Nat} (h : n < 100000) : n < sizeLine := Nat.lt_of_lt_of_le h (by decide)
theorem iteD {c A B : Prop} [Decidable c] (h1 : c → A) (h2 : ¬ c → B) : if decide c = true then A else B := by
  by_cases h : c
  · rw [decide_eq_true h, if_pos rfl]
    exact h1 h
  · rw [decide_eq_false h, if_neg Bool.false_ne_true]
    exact h2 h
theorem iteND {c A B : Prop} [Decidable c] (h1 : ¬ c → A) (h2 : c → B) : if (!decide c) = true then A else B := by
  by_cases h : c
  · rw [decide_eq_true h]
    exact iteF (h2 h)
  · rw [decide_eq_false h]
    exact iteT (h1 h)
theorem iteB {b : Bool} {A B : Prop} (h1 : b = true → A) (h2 : b = false → B) : if b = true then A else B := by
  cases b with
  | true => exact iteT (h1 rfl)
  | false => exact iteF (h2 rfl)
/-- a comprehension without a test -/
theorem tyes_of {A B : Hp → Prop} {σ : L2.St} {H : Hp} (h : A H) : tYes σ H (fun b H3 => if b = true then A H3 else B H3) := iteT (B := B H) h
/-- the tests' answers as bounds -/
theorem fmod_bounds {i m : Int} (h : 0 < m) : 0 ≤ i.fmod m ∧ i.fmod m < m := ⟨Int.fmod_nonneg_of_pos i h, Int.fmod_lt_of_pos i h⟩
/-! ### data -/
theorem dpAll_ints {K : PySem.W.Frag} {H : Hp} : ∀ ns : List Int, DpAll K H (ns.map V.int) (ns.map PyData.int)
  | [] => .nil
  | n :: r => .cons (.int n) (dpAll_ints r)
theorem dpAll_strs {K : PySem.W.Frag} {H : Hp} : ∀ ns : List Str, DpAll K H (ns.map V.str) (ns.map PyData.str)
  | [] => .nil
  | n :: r => .cons (.str n) (dpAll_strs r)
theorem shaped_ints (ns : List Int) : SeqAt.shaped (.list (ns.map PyData.int)) = true := PySem.W.ke_shaped_ints ns
theorem atI_in {α : Type} {xs : List α} {i : Int} (h0 : 0 ≤ i) (h1 : i < (xs.length : Int)) : ∃ v, atI xs i = some v ∧ v ∈ xs := by
  have hj : i.toNat < xs.length := by omega
  have e := atI_nat (List.getElem?_eq_getElem hj)
  rw [Int.toNat_of_nonneg h0] at e
  exact ⟨_, e, List.getElem_mem hj⟩
theorem atI_int {ns : List Int} {i : Int} (h0 : 0 ≤ i) (h1 : i < ((ns.map V.int).length : Int)) : ∃ z, atI (ns.map V.int) i = some (.int z) ∧ z ∈ ns := by
  obtain ⟨v, e, m⟩ := atI_in h0 h1
  obtain ⟨z, hz, rfl⟩ := List.mem_map.mp m
  exact ⟨z, e, hz⟩
theorem erase_perm {α : Type} : ∀ {l : List α} {k : Nat} (h : k < l.length), ([l[k]] ++ l.eraseIdx k).Perm l
  | [], _, h => absurd h (Nat.not_lt_zero _)
  | a :: r, 0, _ => List.Perm.refl _
  | a :: r, k + 1, h => by
    have hk : k < r.length := Nat.lt_of_succ_lt_succ h
    have ih := erase_perm (l := r) (k := k) hk
    exact (List.Perm.swap a (r[k]'hk) (r.eraseIdx k)).trans (ih.cons a)
/-! ### the pen -/
structure Pen (H : Hp) (p c : Addr) (n : Nat) : Prop where
  ex : ∃ (ns : List Int) (i g : Int), H p = some (.lst [.ref c, .int i, .int g]) ∧ H c = some (.lst (ns.map V.int)) ∧ ns.length ≤ 63 ∧ 0 ≤ i ∧ i ≤ (n : Int)
theorem Pen.mono {H : Hp} {p c : Addr} {n m : Nat} (h : Pen H p c n) (l : n ≤ m) : Pen H p c m := by
  obtain ⟨ns, i, g, h1, h2, h3, h4, h5⟩ := h.ex
  exact ⟨ns, i, g, h1, h2, h3, h4, Int.le_trans h5 (Int.ofNat_le.mpr l)⟩
theorem Pen.same {H H' : Hp} {p c : Addr} {n : Nat} (h : Pen H p c n) (s : Same H H') : Pen H' p c n := by
  obtain ⟨ns, i, g, h1, h2, h3, h4, h5⟩ := h.ex
  exact ⟨ns, i, g, s _ _ h1, s _ _ h2, h3, h4, h5⟩
theorem Pen.new {H : Hp} {p c q : Addr} {n : Nat} {o : HO} (h : Pen H p c n) (nq : H q = none) : Pen (upd H q o) p c n := h.same (same_new nq)
theorem Pen.mut {H : Hp} {p c q : Addr} {n : Nat} {o : HO} (h : Pen H p c n) (n1 : q ≠ p) (n2 : q ≠ c) : Pen (upd H q o) p c n := by
  obtain ⟨ns, i, g, h1, h2, h3, h4, h5⟩ := h.ex
  refine ⟨ns, i, g, ?_, ?_, h3, h4, h5⟩
  · rw [upd_ne n1.symm]
    exact h1
  · rw [upd_ne n2.symm]
    exact h2
theorem Pen.newP {H : Hp} {p c q : Addr} {n : Nat} (h : Pen H p c n) (nq : H q = none) : q ≠ p := by
  obtain ⟨ns, i, g, h1, h2, h3, h4, h5⟩ := h.ex
  exact new_ne h1 nq
theorem Pen.newC {H : Hp} {p c q : Addr} {n : Nat} (h : Pen H p c n) (nq : H q = none) : q ≠ c := by
  obtain ⟨ns, i, g, h1, h2, h3, h4, h5⟩ := h.ex
  exact new_ne h2 nq
theorem Pen.at_ {H : Hp} {p c : Addr} {n : Nat} (h : Pen H p c n) : ∃ xs, H p = some (.lst xs) := by
  obtain ⟨ns, i, g, h1, h2, h3, h4, h5⟩ := h.ex
  exact ⟨_, h1⟩
theorem But.mut {p q : Addr} {H H' : Hp} {o : HO} (k : But p H H') (h : H q = none) : But p H (upd H' q o) := fun b x n e => by
  rw [upd_ne (ne_of_none e h)]
  exact k b x n e
theorem Pen.but {H H' : Hp} {p c q : Addr} {n : Nat} (h : Pen H p c n) (k : But q H H') (n1 : q ≠ p) (n2 : q ≠ c) : Pen H' p c n := by
  obtain ⟨ns, i, g, h1, h2, h3, h4, h5⟩ := h.ex
  exact ⟨ns, i, g, k _ _ n1.symm h1, k _ _ n2.symm h2, h3, h4, h5⟩
/-- what H does not know may change -/
theorem But.more {p q : Addr} {H H' H2 : Hp} (k : But p H H') (h : H q = none) (k2 : But q H' H2) : But p H H2 := fun b x n e => k2 b x (ne_of_none e h) (k b x n e)
theorem But.sqt {K : PySem.W.Frag} {p a : Addr} {H H' : Hp} {xs ys : List V} (e : But p H H') (hp : H p = some (.lst ys)) (h : SqT K H a xs) : SqT K H' a xs := by
  rcases h with (h | ⟨o, h⟩) | h
  · exact .inl (.inl (e _ _ (ne_of h hp (fun z => nomatch z)) h))
  · exact .inl (.inr ⟨o, e _ _ (ne_of h hp (fun z => nomatch z)) h⟩)
  · exact .inr h
/-- many is drawn from: a number from 0, below many -/
def spDraw : Sp := fun vs H Q _ => ∃ (p c : Addr) (n : Nat) (m : Int), vs = [.ref p, .int m] ∧ Pen H p c n ∧ n ≤ 100000 ∧ 0 < m ∧ m.natAbs < 2 ^ 8000 ∧
  ∀ (d : Int) (H' : Hp), 0 ≤ d → d < m → But p H H' → Pen H' p c (n + 1) → Q (.int d) H'
theorem szn {xs : List V} (n : Nat) (h : xs.length = n := by rfl) (h2 : n ≤ 100000 := by decide) : xs.length ≤ sizeLine := by
  rw [h]
  exact sz_le h2
/-! ### names -/
theorem strs_of {Pz : Str → Prop} : ∀ {ys : List V}, (∀ y ∈ ys, ∃ z, y = V.str z ∧ Pz z) → ∃ zs : List Str, ys = zs.map V.str ∧ ∀ z ∈ zs, Pz z
  | [], _ => ⟨[], rfl, fun _ h => nomatch h⟩
  | y :: r, h => by
    obtain ⟨z, e, hz⟩ := h y (List.mem_cons_self ..)
    obtain ⟨zs, e2, h2⟩ := strs_of (ys := r) fun q hq => h q (List.mem_cons_of_mem _ hq)
    refine ⟨z :: zs, by rw [e, e2]; rfl, fun q hq => ?_⟩
    rcases List.mem_cons.mp hq with e3 | hq
    · rw [e3]
      exact hz
    · exact h2 q hq
theorem nodup_strs : ∀ {zs : List Str}, (zs.map V.str).Nodup ↔ zs.Nodup
  | [] => by simp
  | z :: r => by
    rw [List.map_cons, List.nodup_cons, List.nodup_cons, nodup_strs (zs := r)]
    constructor
    · rintro ⟨a, b⟩
      exact ⟨fun m => a (List.mem_map.mpr ⟨z, m, rfl⟩), b⟩
    · rintro ⟨a, b⟩
      refine ⟨fun m => a ?_, b⟩
      obtain ⟨q, hq, e⟩ := List.mem_map.mp m
      rw [← V.str.inj e]
      exact hq
/-- some of a pool of unlike texts -/
theorem some_strs {pool : List Str} {ys zs : List V} (pm : (ys ++ zs).Perm (pool.map V.str)) (nd : pool.Nodup) : ∃ ts : List Str, ys = ts.map V.str ∧ ts.Nodup ∧ ∀ t ∈ ts, t ∈ pool := by
  have hm : ∀ y ∈ ys, ∃ z, y = V.str z ∧ z ∈ pool := fun y hy => by
    have q := pm.mem_iff.mp (List.mem_append_left zs hy)
    obtain ⟨z, hz, e⟩ := List.mem_map.mp q
    exact ⟨z, e.symm, hz⟩
  obtain ⟨ts, e, h⟩ := strs_of hm
  refine ⟨ts, e, ?_, h⟩
  have n1 := pm.nodup_iff.mpr (nodup_strs.mpr nd)
  have n2 := (List.nodup_append.mp n1).1
  rw [e] at n2
  exact nodup_strs.mp n2
/-- what a name is -/
def nameB (z : Str) : Bool := decide (1 ≤ z.length) && decide (z.length ≤ 6) && z.cps.toList.all fun c => decide (97 ≤ c) && decide (c ≤ 122)
theorem name_chars {z : Str} (h : nameB z = true) : ∀ c ∈ z.cps.toList, 97 ≤ c ∧ c ≤ 122 := fun c hc => by
  unfold nameB at h
  rw [Bool.and_eq_true] at h
  have q := List.all_eq_true.mp h.2 c hc
  rw [Bool.and_eq_true] at q
  exact ⟨of_decide_eq_true q.1, of_decide_eq_true q.2⟩
theorem name_len {z : Str} (h : nameB z = true) : 1 ≤ z.length ∧ z.length ≤ 6 := by
  unfold nameB at h
  rw [Bool.and_eq_true, Bool.and_eq_true] at h
  exact ⟨of_decide_eq_true h.1.1, of_decide_eq_true h.1.2⟩
theorem name_ok {z : Str} (h : nameB z = true) : PyData.strOk z = true := by
  unfold PyData.strOk
  rw [Array.all_eq_true_iff_forall_mem]
  intro c hc
  have q := name_chars h c (Array.mem_def.mp hc)
  exact decide_eq_true (by omega)
theorem shaped_names : ∀ ns : List Str, (∀ z ∈ ns, nameB z = true) → SeqAt.shaped (.list (ns.map PyData.str)) = true := fun ns h => by
  have h1 : ∀ ns : List Str, (∀ z ∈ ns, nameB z = true) → PyData.canLayAll0 (ns.map PyData.str) = true := fun ns => by
    induction ns with
    | nil => intro _; rfl
    | cons a r ih =>
      intro q
      simp [PyData.canLayAll0, PyData.canLay0, ih fun z hz => q z (List.mem_cons_of_mem _ hz), name_ok (q a (List.mem_cons_self ..))]
  have h2 : ∀ ns : List Str, PyData.depthAll (ns.map PyData.str) = 0 := fun ns => by
    induction ns with
    | nil => rfl
    | cons a r ih => simp [PyData.depthAll, PyData.depth, ih]
  simp [SeqAt.shaped, PyData.canLay0, PyData.depth, h1 ns h, h2]
theorem alloc_eq {H H' : Hp} {o : HO} {p : Addr} (n : H p = none) (e : upd H p o = H') : Same H H' ∧ H' p = some o := by
  rw [← e]
  exact ⟨same_new n, upd_same⟩
/-- one of the items is picked -/
def spPick : Sp := fun vs H Q _ => ∃ (p c : Addr) (n : Nat) (l : Addr) (xs : List V), vs = [.ref p, .ref l] ∧ Pen H p c n ∧ n ≤ 100000 ∧ H l = some (.lst xs) ∧ l ≠ p ∧ 0 < xs.length ∧ xs.length ≤ 1000 ∧
  ∀ (v : V) (H' : Hp), v ∈ xs → But p H H' → Pen H' p c (n + 1) → Q v H'
/-- many of the pool's items, each place at most once, as a new list -/
def spSome : Sp := fun vs H Q _ => ∃ (p c : Addr) (n : Nat) (l : Addr) (xs : List V) (a b : Int), vs = [.ref p, .ref l, .int a, .int b] ∧ Pen H p c n ∧ H l = some (.lst xs) ∧ l ≠ p ∧ xs.length ≤ 1000 ∧ 0 ≤ a ∧ a ≤ b ∧ a ≤ (xs.length : Int) ∧ n + xs.length + 1 ≤ 100000 ∧
  ∀ (r : Addr) (ys zs : List V) (H' : Hp), (ys ++ zs).Perm xs → a ≤ (ys.length : Int) → (ys.length : Int) ≤ b → H r = none → H' r = some (.lst ys) → r ≠ p → But p H H' → Pen H' p c (n + 1 + ys.length) → Q (.ref r) H'
/-! ### kinds of values -/
def kinds : List String := ["NoneType", "bool", "int", "str", "list", "tuple", "dict"]
theorem kit_k {K : PySem.W.Frag} (b : String) (f : String → Bool) (h : ∀ n ∈ kinds, kitB n b = some (f n)) {n : String} (hn : n ∈ kinds) : PySem.W.kitOne K (.type n) (.type b) = some (f n) := kit_ty (h n hn)
theorem ty_ne {a b : String} (h : Value.type a = Value.type b) (n : a ≠ b) : False := n (by injection h)
theorem tyx_int {K : PySem.W.Frag} {H : Hp} {v : V} (h : TyX K H v (.type "int")) : ∃ i, v = .int i := by
  generalize e : Value.type "int" = t at h
  cases h with
  | base b => cases b <;> first | exact ⟨_, rfl⟩ | exact (ty_ne e (by decide)).elim | cases e
  | _ => exact (ty_ne e (by decide)).elim
theorem tyx_str {K : PySem.W.Frag} {H : Hp} {v : V} (h : TyX K H v (.type "str")) : ∃ i, v = .str i := by
  generalize e : Value.type "str" = t at h
  cases h with
  | base b => cases b <;> first | exact ⟨_, rfl⟩ | exact (ty_ne e (by decide)).elim | cases e
  | _ => exact (ty_ne e (by decide)).elim
def intB : V → Bool
  | .int _ => true
  | _ => false
def withinB (lo hi : Int) : V → Bool
  | .int i => decide (lo ≤ i) && decide (i ≤ hi)
  | _ => false
def isNameB : V → Bool
  | .str z => nameB z
  | _ => false
theorem intB_ty {K : PySem.W.Frag} {H : Hp} {v : V} {n : String} (h : TyX K H v (.type n)) : intB v = (n == "int") := by
  generalize e : Value.type n = t at h
  have no : ∀ m : String, Value.type n = Value.type m → m ≠ "int" → false = (n == "int") := fun m z h => by
    injection z with z
    rw [z]
    exact (beq_eq_false_iff_ne.mpr h).symm
  cases h with
  | base b =>
    cases b with
    | int i =>
      injection e with e
      rw [e]
      rfl
    | ins => cases e
    | _ => exact no _ e (by decide)
  | _ => exact no _ e (by decide)
theorem notName_ty {K : PySem.W.Frag} {H : Hp} {v : V} {n : String} (h : TyX K H v (.type n)) (hn : n ≠ "str") : isNameB v = false := by
  cases v with
  | str z =>
    generalize e : Value.type n = t at h
    cases h with
    | base b => cases b with | str => injection e with e; exact absurd e hn
  | _ => rfl
def spIsInteger (K : PySem.W.Frag) : Sp := fun vs H Q _ => ∃ (v : V) (n : String), vs = [v] ∧ n ∈ kinds ∧ TyX K H v (.type n) ∧ Q (.bl (intB v)) H
def spIsWithin (K : PySem.W.Frag) : Sp := fun vs H Q _ => ∃ (v : V) (n : String) (lo hi : Int), vs = [v, .int lo, .int hi] ∧ n ∈ kinds ∧ TyX K H v (.type n) ∧ Q (.bl (withinB lo hi v)) H
def spIsName (K : PySem.W.Frag) : Sp := fun vs H Q _ => ∃ (v : V) (n : String), vs = [v] ∧ n ∈ kinds ∧ TyX K H v (.type n) ∧ (∀ z, v = .str z → z.length ≤ 100000) ∧ ∀ H', Same H H' → Q (.bl (isNameB v)) H'
/-! ### terms -/
abbrev Term := Int × List Str
/-- a pair of a factor and a tuple of names -/
def TermV (K : PySem.W.Frag) (H : Hp) (v : V) (t : Term) : Prop := ∃ a b : Addr, v = .ref a ∧ SqT K H a [.int t.1, .ref b] ∧ SqT K H b (t.2.map V.str)
abbrev TermsV (K : PySem.W.Frag) (H : Hp) : List V → List Term → Prop := Paired (TermV K H)
theorem TermV.but {K : PySem.W.Frag} {H H' : Hp} {q : Addr} {xs : List V} {v : V} {t : Term} (h : TermV K H v t) (k : But q H H') (hq : H q = some (.lst xs)) : TermV K H' v t := by
  obtain ⟨a, b, e, h1, h2⟩ := h
  exact ⟨a, b, e, k.sqt hq h1, k.sqt hq h2⟩
theorem sqt_same {K : PySem.W.Frag} {a : Addr} {H H' : Hp} {xs : List V} (e : Same H H') (h : SqT K H a xs) : SqT K H' a xs := by
  rcases h with (h | ⟨o, h⟩) | h
  · exact .inl (.inl (e _ _ h))
  · exact .inl (.inr ⟨o, e _ _ h⟩)
  · exact .inr h
/-- no tuple, no locked thing -/
def NT : HO → Prop
  | .tup _ => False
  | .frz _ _ => False
  | _ => True
theorem But.sqtN {K : PySem.W.Frag} {p a : Addr} {H H' : Hp} {xs : List V} {u : HO} (e : But p H H') (hp : H p = some u) (nt : NT u) (h : SqT K H a xs) : SqT K H' a xs := by
  rcases h with (h | ⟨o, h⟩) | h
  · exact .inl (.inl (e _ _ (ne_of h hp (fun z => by rw [← z] at nt; exact nt)) h))
  · exact .inl (.inr ⟨o, e _ _ (ne_of h hp (fun z => by rw [← z] at nt; exact nt)) h⟩)
  · exact .inr h
theorem TermV.butN {K : PySem.W.Frag} {H H' : Hp} {q : Addr} {u : HO} {v : V} {t : Term} (h : TermV K H v t) (k : But q H H') (hq : H q = some u) (nt : NT u) : TermV K H' v t := by
  obtain ⟨a, b, e, h1, h2⟩ := h
  exact ⟨a, b, e, k.sqtN hq nt h1, k.sqtN hq nt h2⟩
theorem TermsV.butN {K : PySem.W.Frag} {H H' : Hp} {q : Addr} {u : HO} : ∀ {vs : List V} {ts : List Term}, TermsV K H vs ts → But q H H' → H q = some u → NT u → TermsV K H' vs ts
  | _, _, .nil, _, _, _ => .nil
  | _, _, .cons a r, k, h, nt => .cons (a.butN k h nt) (TermsV.butN r k h nt)
theorem TermV.same {K : PySem.W.Frag} {H H' : Hp} {v : V} {t : Term} (h : TermV K H v t) (k : Same H H') : TermV K H' v t := by
  obtain ⟨a, b, e, h1, h2⟩ := h
  exact ⟨a, b, e, sqt_same k h1, sqt_same k h2⟩
theorem TermsV.but {K : PySem.W.Frag} {H H' : Hp} {q : Addr} {xs : List V} : ∀ {vs : List V} {ts : List Term}, TermsV K H vs ts → But q H H' → H q = some (.lst xs) → TermsV K H' vs ts
  | _, _, .nil, _, _ => .nil
  | _, _, .cons a r, k, h => .cons (a.but k h) (TermsV.but r k h)
theorem TermsV.same {K : PySem.W.Frag} {H H' : Hp} : ∀ {vs : List V} {ts : List Term}, TermsV K H vs ts → Same H H' → TermsV K H' vs ts
  | _, _, .nil, _ => .nil
  | _, _, .cons a r, k => .cons (a.same k) (TermsV.same r k)
/-- a term over some names -/
def TermOk (ys : List Str) (t : Term) : Prop := -999999 ≤ t.1 ∧ t.1 ≤ 999999 ∧ t.2.length ≤ 3 ∧ ∀ x ∈ t.2, x ∈ ys
def spTerms (K : PySem.W.Frag) : Sp := fun vs H Q _ => ∃ (p c : Addr) (n : Nat) (l : Addr) (ys : List Str), vs = [.ref p, .ref l] ∧ Pen H p c n ∧ n ≤ 80000 ∧ H l = some (.lst (ys.map V.str)) ∧ l ≠ p ∧ ys.length ≤ 100 ∧ (∀ y ∈ ys, nameB y = true) ∧
  ∀ (r : Addr) (us : List V) (ts : List Term) (H' : Hp), TermsV K H' us ts → 1 ≤ ts.length → ts.length ≤ 4 → (∀ t ∈ ts, TermOk ys t) → H r = none → H' r = some (.lst us) → r ≠ p → But p H H' → Pen H' p c (n + 100) → Q (.ref r) H'
theorem sqt_ty {K : PySem.W.Frag} {H : Hp} {a : Addr} {xs : List V} (h : SqT K H a xs) : TyX K H (.ref a) (.type "tuple") := by
  rcases h with (h | ⟨o, h⟩) | ⟨o, its, n, h, c, _⟩
  · exact .base (.tup h)
  · exact .fTuple h
  · exact .kTuple h c
theorem kit_tl {K : PySem.W.Frag} : PySem.W.kitAny K (.type "tuple") [.type "tuple", .type "list"] = some true := kitAny_cons (b := true) (kit_ty (by decide +kernel)) (fun z => by cases z) (fun _ => rfl)
/-- a good term, as the package's own looks -/
def TermFine (t : Term) : Prop := -999999 ≤ t.1 ∧ t.1 ≤ 999999 ∧ t.2.length ≤ 3 ∧ ∀ x ∈ t.2, nameB x = true
def spIsTerm (K : PySem.W.Frag) : Sp := fun vs H Q _ => ∃ (v : V) (t : Term), vs = [v] ∧ TermV K H v t ∧ TermFine t ∧ ∀ H', Same H H' → Q (.bl true) H'
/-! ### unlike names -/
def addN (acc : List Str) (x : Str) : List Str := if x ∈ acc then acc else acc ++ [x]
def unlikeF (acc : List Str) (ts : List Term) : List Str := ts.foldl (fun acc t => t.2.foldl addN acc) acc
def unlike (ts : List Term) : List Str := unlikeF [] ts
theorem take_next {α : Type} {l : List α} {i : Nat} {x : α} (h : l[i]? = some x) : l.take (i + 1) = l.take i ++ [x] := by
  rw [List.take_add_one, h]
  rfl
theorem unlike_next {ts : List Term} {i : Nat} {t : Term} (h : ts[i]? = some t) : unlike (ts.take (i + 1)) = t.2.foldl addN (unlike (ts.take i)) := by
  unfold unlike unlikeF
  rw [take_next h, List.foldl_append]
  rfl
theorem addN_next {ws : List Str} {j : Nat} {x : Str} {acc : List Str} (h : ws[j]? = some x) : (ws.take (j + 1)).foldl addN acc = addN ((ws.take j).foldl addN acc) x := by
  rw [take_next h, List.foldl_append]
  rfl
theorem addN_len (acc : List Str) (x : Str) : (addN acc x).length ≤ acc.length + 1 := by
  unfold addN
  split
  · omega
  · rw [List.length_append]
    exact Nat.le_refl _
theorem addN_new {acc : List Str} {x : Str} (h : ¬ x ∈ acc) : addN acc x = acc ++ [x] := if_neg h
theorem addN_old {acc : List Str} {x : Str} (h : x ∈ acc) : addN acc x = acc := if_pos h
theorem foldN_len : ∀ (ws acc : List Str), (ws.foldl addN acc).length ≤ acc.length + ws.length
  | [], acc => Nat.le_refl _
  | x :: r, acc => by
    have a := foldN_len r (addN acc x)
    have b := addN_len acc x
    show (r.foldl addN (addN acc x)).length ≤ acc.length + (r.length + 1)
    omega
theorem inV_str (x : Str) : ∀ acc : List Str, inV (.str x) (acc.map V.str) = decide (x ∈ acc)
  | [] => by simp [inV]
  | y :: r => by
    have ih := inV_str x r
    unfold inV at ih ⊢
    rw [List.map_cons, List.any_cons, ih]
    show ((y == x) || decide (x ∈ r)) = decide (x ∈ y :: r)
    by_cases e : y = x
    · subst e
      simp
    · have e2 : (y == x) = false := beq_eq_false_iff_ne.mpr e
      rw [e2, Bool.false_or]
      by_cases m : x ∈ r
      · rw [decide_eq_true m, decide_eq_true (List.mem_cons_of_mem _ m)]
      · rw [decide_eq_false m, decide_eq_false (fun q => (List.mem_cons.mp q).elim (fun z => e z.symm) m)]
theorem flat_strs : ∀ acc : List Str, (acc.map V.str).all flatV = true
  | [] => rfl
  | y :: r => by
    rw [List.map_cons, List.all_cons, flat_strs r]
    rfl
theorem paired_get {α β : Type} {F : α → β → Prop} : ∀ {xs : List α} {ys : List β} {i : Nat} {x : α}, Paired F xs ys → xs[i]? = some x → ∃ y, ys[i]? = some y ∧ F x y
  | _, _, _, _, .nil, e => by simp at e
  | _, _, 0, _, .cons r _, e => ⟨_, rfl, by cases (Option.some.inj (show some _ = some _ from e)); exact r⟩
  | _, _, i + 1, x, .cons _ t, e => paired_get (i := i) t (by simpa using e)
def spUnlikeNames (K : PySem.W.Frag) : Sp := fun vs H Q _ => ∃ (l : Addr) (us : List V) (ts : List Term), vs = [.ref l] ∧ SqT K H l us ∧ TermsV K H us ts ∧ ts.length ≤ 10 ∧ (∀ t ∈ ts, t.2.length ≤ 10) ∧
  ∀ (r : Addr) (H' : Hp), H r = none → Same H H' → SqT K H' r ((unlike ts).map V.str) → Q (.ref r) H'
/-! ### sums -/
structure SumTxt (K : PySem.W.Frag) (mg : Str → Option Value) (C : Addr) : Prop where
  cl : Cls K C
  nT : NoAttr K C "_terms"
  nN : NoAttr K C "_names"
  g_Sum : mg "Sum" = some (.ref C)
def sflds (T N : Addr) : List (Str × V) := putF "_names" (.ref N) (putF "_terms" (.ref T) [])
theorem tn_ne : ¬ (("_terms" : Str) = "_names") := by decide +kernel
theorem sflds_terms (T N : Addr) : (sflds T N).lookup ("_terms" : Str) = some (.ref T) := by
  unfold sflds
  rw [lookup_putF, if_neg tn_ne, lookup_putF, if_pos rfl]
theorem sflds_names (T N : Addr) : (sflds T N).lookup ("_names" : Str) = some (.ref N) := by
  unfold sflds
  rw [lookup_putF, if_pos rfl]
theorem sflds_len (T N : Addr) : (sflds T N).length ≤ 10 := by
  unfold sflds
  show (if ("_terms" : Str) = "_names" then _ else _ : List (Str × V)).length ≤ 10
  rw [if_neg tn_ne]
  show 2 ≤ 10
  decide
/-- a Sum of these terms stands at x -/
def SumAt (K : PySem.W.Frag) (C : Addr) (H : Hp) (x : Addr) (ts : List Term) : Prop := ∃ (dx T N : Addr) (us : List V), H x = some (.ins C dx (sflds T N)) ∧ SqT K H T us ∧ TermsV K H us ts ∧ SqT K H N ((unlike ts).map V.str)
theorem SumAt.same {K : PySem.W.Frag} {C x : Addr} {H H' : Hp} {ts : List Term} (h : SumAt K C H x ts) (s : Same H H') : SumAt K C H' x ts := by
  obtain ⟨dx, T, N, us, h1, h2, h3, h4⟩ := h
  exact ⟨dx, T, N, us, s _ _ h1, sqt_same s h2, h3.same s, sqt_same s h4⟩
theorem SumAt.but {K : PySem.W.Frag} {C x q : Addr} {H H' : Hp} {ts : List Term} {xs : List V} (h : SumAt K C H x ts) (k : But q H H') (hq : H q = some (.lst xs)) : SumAt K C H' x ts := by
  obtain ⟨dx, T, N, us, h1, h2, h3, h4⟩ := h
  exact ⟨dx, T, N, us, k _ _ (ne_of h1 hq (fun z => nomatch z)) h1, k.sqt hq h2, h3.but k hq, k.sqt hq h4⟩
/-- a good row of terms -/
def Fine (ts : List Term) : Prop := 1 ≤ ts.length ∧ ts.length ≤ 4 ∧ (∀ t ∈ ts, TermFine t) ∧ (unlike ts).length ≤ 3
def spSumInit (K : PySem.W.Frag) (C : Addr) : Sp := fun vs H Q _ => ∃ (x tp dx : Addr) (us : List V) (ts : List Term), vs = [.ref x, .ref tp] ∧ H x = some (.ins C dx []) ∧ SqT K H tp us ∧ TermsV K H us ts ∧ Fine ts ∧
  ∀ H', But x H H' → SumAt K C H' x ts → Q .non H'
def spSum (K : PySem.W.Frag) (C : Addr) : Sp := fun vs H Q _ => ∃ (l : Addr) (us : List V) (ts : List Term), vs = [.ref l] ∧ SqL K H l us ∧ TermsV K H us ts ∧ Fine ts ∧ ∀ (x : Addr) (H' : Hp), H x = none → Same H H' → SumAt K C H' x ts → Q (.ref x) H'
/-- what Sum(..) of good terms leaves -/
theorem mk_sum {K : PySem.W.Frag} {C : Addr} {H : Hp} {us : List V} {ts : List Term} {Q : VK} (hts : TermsV K H us ts) (hf : Fine ts) (q : ∀ (x : Addr) (H' : Hp), H x = none → Same H H' → SumAt K C H' x ts → Q (.ref x) H') :
    ∀ x dx, H x = none → H dx = none → dx ≠ x → ∃ ws rest, V.ref x :: us = ws ++ rest ∧ ws.length = 1 ∧ rest.length ≤ sizeLine ∧ ∀ p, (upd (upd H dx (.own x)) x (.ins C dx [])) p = none →
      spSumInit K C (ws ++ [V.ref p]) (upd (upd (upd H dx (.own x)) x (.ins C dx [])) p (.tup rest)) (fun v H2 => v = .non ∧ Q (.ref x) H2) E0 := by
  intro x dx nx ndx ne
  have hl : us.length = ts.length := hts.length
  refine ⟨[.ref x], us, rfl, rfl, sz_le (by have := hf.2.1; omega), fun p np => ?_⟩
  have s1 : Same H (upd (upd H dx (.own x)) x (.ins C dx [])) := fun b o e => by
    rw [upd_ne (ne_of_none e nx), upd_ne (ne_of_none e ndx)]
    exact e
  have s2 := s1.trans (same_new (o := .tup us) np)
  refine ⟨x, p, dx, us, ts, rfl, ?_, .of upd_same, hts.same s2, hf, fun H' k sm => ⟨rfl, q x H' nx (fun b o e => k b o (ne_of_none e nx) (s2 b o e)) sm⟩⟩
  exact same_new np x _ upd_same
def spModulus : Sp := fun vs H Q _ => ∃ (p c : Addr) (n : Nat), vs = [.ref p] ∧ Pen H p c n ∧ n ≤ 90000 ∧ ∀ (i : Int) (H' : Hp), 2 ≤ i → i ≤ 1000000000000000000 → But p H H' → Pen H' p c (n + 3) → Q (.int i) H'
def spValue : Sp := fun vs H Q _ => ∃ (p c : Addr) (n : Nat) (m : Int), vs = [.ref p, .int m] ∧ Pen H p c n ∧ n ≤ 90000 ∧ 2 ≤ m ∧ m ≤ 1000000000000000000 ∧ ∀ (i : Int) (H' : Hp), i.natAbs < 2 ^ 240 → But p H H' → Pen H' p c (n + 4) → Q (.int i) H'
def partOf (val : Str → Int) (m : Int) (t : Term) : Int := t.2.foldl (fun p x => (p * ((val x).fmod m)).fmod m) (t.1.fmod m)
def dueOf (val : Str → Int) (m : Int) (ts : List Term) : Int := ts.foldl (fun w t => (w + partOf val m t).fmod m) 0
def spDue (K : PySem.W.Frag) : Sp := fun vs H Q _ => ∃ (l d : Addr) (m : Int) (us : List V) (ts : List Term) (kvs : List (Key × V)) (val : Str → Int), vs = [.ref l, .ref d, .int m] ∧ SqL K H l us ∧ TermsV K H us ts ∧ H d = some (.dK kvs) ∧ 0 < m ∧ m < 2 ^ 64 ∧
  (∀ t ∈ ts, ∀ z ∈ t.2, valV kvs (Sum.inr z) = some (.int (val z)) ∧ (val z).natAbs < 2 ^ 250) ∧ Q (.int (dueOf val m ts)) H
def prodOf (val : Str → Int) (m : Int) (t : Term) : Int := t.2.foldl (fun p x => (p * val x).fmod m) t.1
def totalOf (val : Str → Int) (m : Int) (ts : List Term) : Int := (ts.foldl (fun w t => w + prodOf val m t) 0).fmod m
def spTotal (K : PySem.W.Frag) (C : Addr) : Sp := fun vs H Q _ => ∃ (x d : Addr) (m : Int) (ts : List Term) (kvs : List (Key × V)) (val : Str → Int), vs = [.ref x, .ref d, .int m] ∧ SumAt K C H x ts ∧ H d = some (.dK kvs) ∧ 0 < m ∧ m < 2 ^ 64 ∧ (∀ t ∈ ts, TermFine t) ∧
  (∀ t ∈ ts, ∀ z ∈ t.2, valV kvs (Sum.inr z) = some (.int (val z)) ∧ (val z).natAbs < 2 ^ 250) ∧ Q (.int (totalOf val m ts)) H
def spUnlike (K : PySem.W.Frag) : Sp := fun vs H Q _ => ∃ (l : Addr) (us : List V) (ts : List Term), vs = [.ref l] ∧ SqL K H l us ∧ TermsV K H us ts ∧ ts.length ≤ 10 ∧ (∀ t ∈ ts, t.2.length ≤ 10) ∧
  ∀ (r : Addr) (H' : Hp), H r = none → Same H H' → H' r = some (.lst ((unlike ts).map V.str)) → Q (.ref r) H'
theorem unlike_len : ∀ (ts : List Term) (acc : List Str), (∀ t ∈ ts, t.2.length ≤ 10) → (unlikeF acc ts).length ≤ acc.length + 10 * ts.length
  | [], acc, _ => by show acc.length ≤ _; omega
  | t :: r, acc, h => by
    have a := unlike_len r (t.2.foldl addN acc) fun q hq => h q (List.mem_cons_of_mem _ hq)
    have b := foldN_len t.2 acc
    have c := h t (List.mem_cons_self ..)
    show (unlikeF (t.2.foldl addN acc) r).length ≤ acc.length + 10 * (r.length + 1)
    omega
/-- so many unlike names, as a new list -/
def spNames : Sp := fun vs H Q _ => ∃ (p c : Addr) (n : Nat) (m : Int), vs = [.ref p, .int m] ∧ Pen H p c n ∧ n ≤ 90000 ∧ 0 ≤ m ∧ m ≤ 7 ∧
  ∀ (r : Addr) (ts : List Str) (H' : Hp), ts.Nodup → (∀ t ∈ ts, nameB t = true) → (ts.length : Int) = m → H r = none → H' r = some (.lst (ts.map V.str)) → r ≠ p → But p H H' → Pen H' p c (n + 10) → Q (.ref r) H'
def spFactor : Sp := fun vs H Q _ => ∃ (p c : Addr) (n : Nat), vs = [.ref p] ∧ Pen H p c n ∧ n ≤ 90000 ∧ ∀ (i : Int) (H' : Hp), -999999 ≤ i → i ≤ 999999 → But p H H' → Pen H' p c (n + 3) → Q (.int i) H'
end LC
/-! LcG: defs that ask that no repr is under way (they call repr), up to the law's end. -/
namespace LC
open PySem PySem.Spec PyProof.Rows L2
/-- a promise that is kept where no repr is under way -/
structure GOk (P : Program) (w : World) (K : PySem.W.Frag) (mg : Str → Option Value) (base : Heap) (CX : CXT) (k : Nat) (f : Addr) (fd : FuncData) (ps : List Str) (sp : Sp) : Prop where
  ar : ∀ vs H Q E, sp vs H Q E → vs.length = ps.length
  go : ∀ (A : Around) (out : List Env) (s : Shared) (H : Hp) (ar : Args) (us : List Value) (vs : List V) (Q : VK) (E : XK), A.guards = some [] → Room k A → Env0 P w K mg base A out s H → BindsTo s fd ar (ps.zip us) → Vals vs us → sp vs H Q E →
    codeAny (model P w) A (.call (.ref f) ar) (CR CX out P w H s Q E) s
theorem GOk.of {P : Program} {w : World} {K : PySem.W.Frag} {mg : Str → Option Value} {base : Heap} {CX : CXT} {k : Nat} {f : Addr} {fd : FuncData} {ps : List Str} {sp : Sp} (F : FnOk P w K mg base CX k f fd ps sp) : GOk P w K mg base CX k f fd ps sp :=
  ⟨F.len, fun A out s H ar us vs Q E _ hr e0 hb r h => F.run A out s H ar us vs Q E hr e0 hb r h⟩
theorem GOk.mono {P : Program} {w : World} {K : PySem.W.Frag} {mg : Str → Option Value} {base : Heap} {CX : CXT} {j k : Nat} {f : Addr} {fd : FuncData} {ps : List Str} {sp : Sp} (F : GOk P w K mg base CX j f fd ps sp) (h : j ≤ k) : GOk P w K mg base CX k f fd ps sp :=
  ⟨F.ar, fun A out s H ar us vs Q E g hr => F.go A out s H ar us vs Q E g (hr.mono h)⟩
/-- the rule for such a def -/
theorem g_ofE {P : Program} {w : World} {K : PySem.W.Frag} {mg : Str → Option Value} {base : Heap} {CX : CXT} {k : Nat} {f : Addr} {fd : FuncData} {x qual : Str} {params : Arguments} {body : List Stmt} {scope : Scope} {dvs : List V} {kws : List (Str × V)} {N ps : List Str} {sp : Sp}
    (F : FunD K x qual params body scope dvs kws f fd) (S : FnScope N ps scope) (ar : ∀ vs H Q E, sp vs H Q E → vs.length = ps.length)
    (hb : ∀ (cdv : Value) (A : Around) (out : List Env) (s : Shared) (H : Hp) (vs : List V) (Q : VK) (E : XK), fd.code = cdv → A.guards = some [] → Room k (A.deeper (envOfC qual scope s.heap.objs.size f cdv)) → sp vs H Q E →
      ∃ t, PSs (cxOf CX P w K mg base N qual scope f cdv A out s H E) body t ∧ t { nx := fun _ H' => Q .non H', rt := Q } (start N vs) H) : GOk P w K mg base CX (k + 1) f fd ps sp := by
  obtain ⟨oc, od, dV, kV, doc, pm, an, cdv, ct, osl, rfl, lk, hcd, _, _⟩ := F.ex
  refine ⟨ar, fun A out s H args us vs Q E hg hr e0 hbi r hsp => ?_⟩
  have kin : K.In s.heap := e0.mod.kin.keeps fun b o e => And.left (e0.bs b o e)
  have nol : s.heap.NoLimit := e0.mod.nolimit.keeps fun b o e => And.left (e0.bs b o e)
  have kinds : ∀ y ∈ ps.zip us, scope.names.lookup y.1 = some .local ∨ (scope.names.lookup y.1 = some .cell ∧ ((cellsFrom (s.heap.objs.size + 1) scope.names []).lookup y.1).isSome = true) := by
    intro y hy
    have hm := (List.of_mem_zip (a := y.1) (b := y.2) hy).1
    cases S.par y.1 hm with
    | inl q => exact Or.inl q
    | inr q => exact Or.inr ⟨q, PySem.W.cellsFrom_some _ _ _ (Or.inl q)⟩
  refine codeAny_call_function hr.depth (kin _ _ lk) rfl S.co S.gen rfl (PySem.W.codeRec_of kin hcd) (hbi _ _ _ _ ?_)
  refine wpAny_newFunctionEnv_cells S.kind kinds fun env he s1 x1 => ?_
  cases he
  refine ⟨nol.keeps x1.toInCall.keep, codeAny_func ?_⟩
  obtain ⟨t, ht, hq⟩ := hb cdv A out s H vs Q E rfl hg (hr.deeper _) hsp
  have I0 := inv_start (CX := CX) (P := P) (E := E) (cd := cdv) S hr.hd e0 (ar _ _ _ _ hsp) r x1
  have fin : ∀ (s' : Shared) (σ' : L2.St) (H' : Hp) (v : V) (u : Value), Inv (cxOf CX P w K mg base N qual scope f cdv A out s H E) [] σ' H' s' → RelV v u → Q v H' → CE out P w H s Q u s' :=
    fun s' σ' H' v u J rv q => ⟨v, H', J.os, J.bare, J.base, J.hok, rv, q⟩
  refine wpAny_mono (ht.run [] s1 (start N vs) H _ I0 hq) (fun fl s' hs => ?_) (fun _ _ z => z)
  match fl, hs with
  | .ret u, hs =>
    obtain ⟨v, σ', H', J, rv, q⟩ := hs
    exact fin s' σ' H' v u J rv q
  | .next, hs =>
    obtain ⟨σ', H', J, q⟩ := hs
    exact fin s' σ' H' .non .none J rfl q
  | .brk, hs => exact (hs.choose_spec.choose_spec.2 : False).elim
  | .cont, hs => exact (hs.choose_spec.choose_spec.2 : False).elim
theorem g_of {P : Program} {w : World} {K : PySem.W.Frag} {mg : Str → Option Value} {base : Heap} {CX : CXT} {k : Nat} {f : Addr} {fd : FuncData} {x qual : Str} {params : Arguments} {body : List Stmt} {scope : Scope} {dvs : List V} {kws : List (Str × V)} {N ps : List Str} {sp : Sp}
    (F : FunD K x qual params body scope dvs kws f fd) (S : FnScope N ps scope) (ar : ∀ vs H Q E, sp vs H Q E → vs.length = ps.length)
    (hb : ∀ (cdv : Value) (A : Around) (out : List Env) (s : Shared) (H : Hp) (vs : List V) (Q : VK) (E : XK), A.guards = some [] → Room k (A.deeper (envOfC qual scope s.heap.objs.size f cdv)) → sp vs H Q E →
      ∃ t, PSs (cxOf CX P w K mg base N qual scope f cdv A out s H E) body t ∧ t { nx := fun _ H' => Q .non H', rt := Q } (start N vs) H) : GOk P w K mg base CX (k + 1) f fd ps sp :=
  g_ofE F S ar fun cdv A out s H vs Q E _ hg hr h => hb cdv A out s H vs Q E hg hr h
/-- such a def of the module -/
def CalG (P : Program) (w : World) (K : PySem.W.Frag) (mg : Str → Option Value) (base : Heap) (CX : CXT) (k : Nat) (x : Str) (ps : List Str) (sp : Sp) : Prop :=
  ∃ f fd, mg x = some (.ref f) ∧ GOk P w K mg base CX k f fd ps sp ∧ PySem.W.keepIn K (.ref f) = true ∧ Binds K fd ps []
section
variable {X : Cx} {CX : CXT} {k : Nat} {x : Str} {ps : List Str} {sp : Sp} {E : XK} {e : Expr} {es : List Expr} {t : TA} {p pos : Pos}
theorem pe_calG (c : CalG X.prog X.w X.K X.mg X.base CX k x ps sp) (hgd : X.A.guards = some []) (hr : Room k X.A) (hg : Gl X x) (hx : Passes CX X E) (ha : PA X (e :: es) t) (hdb : (x == ("__debug__" : Str)) = false := by decide)
    (he : starEach (e :: es) X.env = (false, eval e X.env) :: starEach es X.env := by rfl) (hpl : (backTo pos (starEach es X.env)).any (·.1) = false := by rfl) : PE X (.Call (.Name x p) (e :: es) [] pos) (tCal sp E t) := by
  obtain ⟨f, fd, m, F, kp, b⟩ := c
  constructor
  intro pins s σ H Q I h
  refine wpAny_Call_Name_kw (ld_glob I hg m ?_ hdb)
  refine PySem.W.callWith_K (h₀ := X.base) I.ok.mod.kin kp (thn (ha.run pos pins s σ H _ I h) fun us s1 ⟨vs, H1, I1, r, q⟩ => ⟨I1.kIn, ?_⟩) he hpl
  have hl : (us ++ []).length = ps.length := by
    rw [List.append_nil, ← r.length]
    exact F.ar _ _ _ _ q
  have hb := b s1 us I1.kIn hl
  rw [List.append_nil] at hb
  refine wpAny_call (codeAny_mono (F.go X.A X.stack s1 H1 ⟨us, []⟩ us vs Q E hgd hr I1.env0 hb r q) fun res s' hq => ?_)
  match res, hq with
  | .error z, hq => exact hx pins σ H1 s1 z s' I1 hq
  | .ok (.ret u), hq => exact I1.after hq
  | .ok .next, hq => exact False.elim hq
  | .ok .brk, hq => exact False.elim hq
  | .ok .cont, hq => exact False.elim hq
end
/-- the law is called by the statement -/
theorem law_callG {P : Program} {w : World} {K : PySem.W.Frag} {mg mb : Str → Option Value} {CX : CXT} {k : Nat} {fa a : Addr} {fd : FuncData} {x : Str} {sp : Sp} {s1 : Shared} {vs : List Value} {ns : List Int}
    (KX : K.In s1.heap) (hns : s1.heap.Ns mainGlobals mg) (hb : s1.heap.Ns builtinsNs mb) (hbb : ∀ x : Str, x ≠ "__name__" → mb x = bootBuiltins x) (hlim : s1.heap.NoLimit) (hg : s1.gens = #[])
    (ha : s1.heap.get? a = some { cls := .type "list", data := .seq vs.toArray }) (hi : IntsAre vs ns) (hl : ns.length ≤ sizeLine) (hr : Room k callerA)
    (F : ∀ base : Heap, K.In base → base.Ns mainGlobals mg → GOk P w K mg base CX k fa fd [x] sp) (hbind : ∀ (s : Shared) (u : Value), BindsTo s fd ⟨[u], []⟩ [(x, u)])
    (hsp : ∀ H : Hp, Only H → SqL K H a (ns.map V.int) → sp [.ref a] H (fun v _ => v = .bl true) fun _ _ _ => False) (hCX : ∀ H e s', CX [] H s1 (fun _ _ _ => False) e s' → False) :
    codeAny (model P w) callerA (.call (.ref fa) ⟨[.ref a], []⟩) (fun r s' => r = .ok (.ret (.bool true)) ∧ OldK s1.heap s'.heap ∧ s'.os = s1.os ∧ AllBare s'.gens) s1 := by
  have rv := vals_ints hi
  have core : ∀ H : Hp, Only H → SqL K H a (ns.map V.int) → HOk P w H s1.heap → (∀ b, H b ≠ none → b = a) → (H a ≠ none → K.lookup a = none) →
      codeAny (model P w) callerA (.call (.ref fa) ⟨[.ref a], []⟩) (fun r s' => r = .ok (.ret (.bool true)) ∧ OldK s1.heap s'.heap ∧ s'.os = s1.os ∧ AllBare s'.gens) s1 := by
    intro H hO hS hok hA hK
    have some_a : ∀ {b : Addr} {u : HO}, H b = some u → b = a := fun {b u} q => hA b (fun z => by rw [q] at z; cases z)
    have isnone : ∀ {b : Addr}, ¬ (∃ u, H b = some u) → H b = none := fun {b} q => by
      cases z : H b with
      | none => rfl
      | some u => exact absurd ⟨u, z⟩ q
    have dicts : ∀ {b : Addr} {o : Obj} {es : Array DictEntry} {ep : Nat}, s1.heap.get? b = some o → o.data = .dict es ep → H b = none := fun {b o es ep} e d => isnone fun ⟨u, q⟩ => by
      rw [some_a q, ha] at e
      cases e
      have d' : Data.seq vs.toArray _ = Data.dict es ep := d
      cases d'
    have nsH : ∀ {b : Addr} {m : Str → Option Value}, s1.heap.Ns b m → (hidT s1.heap H).Ns b m := fun ⟨o, es, ep, e, d, r⟩ => ⟨o, es, ep, hidT_get e (dicts e d), d, r⟩
    have kinH : K.In (hidT s1.heap H) := fun b o e => hidT_get (KX b o e) (isnone fun ⟨u, q⟩ => by
      have eb := some_a q
      have q2 := hK (by rw [← eb, q]; exact fun z => nomatch z)
      rw [eb, q2] at e
      cases e)
    obtain ⟨mc, l1, l2⟩ := hlim
    have modH : Mod K mg (hidT s1.heap H) := ⟨kinH, nsH hns, ⟨mb, nsH hb, hbb⟩, ⟨mc, nsH l1, l2⟩⟩
    have nofr : ∀ b : Addr, b ∉ frs [] := fun b z => by cases z
    have e0 : Env0 P w K mg (hidT s1.heap H) callerA [] s1 H := ⟨rfl, modH, fun b o e => of_hidT e, Nat.le_of_eq (hidT_size _ _), trivial, fun b z => absurd z (nofr b), hok, .of_eq hg⟩
    refine codeAny_mono ((F _ kinH (nsH hns)).go callerA [] s1 H ⟨[.ref a], []⟩ [.ref a] [.ref a] _ _ rfl hr e0 (hbind s1 (.ref a)) (.cons rfl .nil) (hsp H hO hS)) fun r s' h => ?_
    match r, h with
    | .error e, h => exact (hCX H e s' h).elim
    | .ok .next, h => exact False.elim h
    | .ok .brk, h => exact False.elim h
    | .ok .cont, h => exact False.elim h
    | .ok (.ret u), h =>
      obtain ⟨v, H', os, bare, un, hok', r', q⟩ := h
      cases (show v = .bl true from q)
      cases (show u = Value.bool true from r')
      refine ⟨rfl, OldK.of_keep fun b o e => ?_, os, bare⟩
      cases q : H b with
      | none => exact un.keep b o e q (nofr b) (fun z => by cases z)
      | some u =>
        rcases hO b with z | ⟨ob, xs, z⟩
        · rw [q] at z
          cases z
        · have e1 := And.left (hok b _ z)
          have e2 := And.left (hok' b _ (un.frzs b ob _ z))
          rw [e] at e1
          cases e1
          exact e2
  cases hk : K.lookup a with
  | some o =>
    have e := KX a o hk
    rw [ha] at e
    cases e
    refine core (fun _ => none) (fun _ => Or.inl rfl) (Or.inr ⟨_, vs.toArray, _, hk, rfl, rfl, rfl, ?_, by simpa using rv⟩) (fun b u z => by cases (show (none : Option HO) = some u from z)) (fun b z => absurd rfl z) fun z => absurd rfl z
    rw [List.size_toArray, hi.length]
    exact hl
  | none =>
    have is : ∀ (b : Addr) (u : HO), (fun b : Addr => if b = a then some (HO.frz { cls := .type "list", data := .seq vs.toArray } (.lst (ns.map V.int))) else none) b = some u → b = a ∧ u = HO.frz { cls := .type "list", data := .seq vs.toArray } (.lst (ns.map V.int)) := fun b u z => by
      by_cases q : b = a
      · exact ⟨q, (Option.some.inj ((if_pos q).symm.trans z)).symm⟩
      · cases (if_neg q).symm.trans z
    refine core (fun b => if b = a then some (.frz { cls := .type "list", data := .seq vs.toArray } (.lst (ns.map V.int))) else none) (fun b => ?_) (Or.inl (Or.inr ⟨_, if_pos rfl⟩)) (fun b u z => ?_) (fun b z => ?_) fun _ => hk
    · by_cases q : b = a
      · exact Or.inr ⟨_, _, if_pos q⟩
      · exact Or.inl (if_neg q)
    · obtain ⟨rfl, rfl⟩ := is b u z
      refine ⟨ha, ?_, vs, _, rv, ha⟩
      rw [List.length_map]
      exact hl
    · by_cases q : b = a
      · exact q
      · exact absurd (if_neg q) z
theorem walk_G {l : PySem.W.OpenLaw} {n k : Nat} {q : Program} {loose : List Str} {XP : (Str → Option Value) → Heap → Prop} {YP : World → Heap → Prop} {d : DefRec} {CX : CXT} {x : Str} (hn : l.most = some n) (hn2 : n ≤ sizeLine) (hdf : d.params.defaults = []) (hr : Room k callerA)
    (F : ∀ (w : World) (mg : Str → Option Value) (fa : Addr) (h : Heap), YP w h → h.Ns mainGlobals mg → mg d.name = some (.ref fa) →
      ∃ (K : PySem.W.Frag) (fd : FuncData) (sp : Sp), K.In h ∧ (∀ (s : Shared) (u : Value), BindsTo s fd ⟨[u], []⟩ [(x, u)]) ∧ (∀ (H : Hp) (a : Addr) (ns : List Int), ns.length ≤ n → Only H → SqL K H a (ns.map V.int) → sp [.ref a] H (fun v _ => v = .bl true) fun _ _ _ => False) ∧
        ∀ base : Heap, K.In base → base.Ns mainGlobals mg → GOk l.prog w K mg base CX k fa fd [x] sp)
    (hCX : ∀ (H : Hp) (s : Shared) (e : Value) (s' : Shared), CX [] H s (fun _ _ _ => False) e s' → False) : PySem.W.WalkO q loose XP YP l.row.toRowW d [] (fun f vs => PySem.call f vs) := by
  refine Att.attach_call hn hdf fun w s0 s1 mg mb fa o pm cd doc a vs ns G Y ho hd hcd hmg hobj hints hlen hg => ?_
  obtain ⟨K, fd, sp, KX, hb, hsp, hF⟩ := F w mg fa _ Y G.T.g hmg
  exact law_callG KX G.T.g G.T.b G.T.builtins G.T.nolimit hg hobj hints (Nat.le_trans hlen hn2) hr hF hb (fun H hO hS => hsp H a ns hlen hO hS) fun H e s' => hCX H s1 e s'
end LC
/-! LcRepr: repr of lists and tuples of data, of dicts of plain values. -/
namespace LC
open PySem PySem.Spec PyProof.Rows L2
/-- what is plain: no object -/
def plainD : V → Option PyData
  | .non => some .none
  | .bl b => some (.bool b)
  | .int i => some (.int i)
  | .str x => some (.str x)
  | _ => none
def keyD : Key → PyData
  | .inl i => .int i
  | .inr x => .str x
/-- a dict's data -/
inductive KvD : List (Key × V) → List (PyData × PyData) → Prop
  | nil : KvD [] []
  | cons {k : Key} {v : V} {d : PyData} {kvs : List (Key × V)} {ds : List (PyData × PyData)} : plainD v = some d → KvD kvs ds → KvD ((k, v) :: kvs) ((keyD k, d) :: ds)
theorem reads_plain {h : Heap} {v : V} {d : PyData} {u : Value} (e : plainD v = some d) (r : RelV v u) : Reads h u d [] := by
  cases v with
  | non => cases e; cases r; exact .none
  | bl b => cases e; cases r; exact .bool b
  | int i => cases e; obtain ⟨t, rfl⟩ := r; exact .int i t
  | str x => cases e; obtain ⟨t, rfl⟩ := r; exact .str x t
  | byt b => cases e
  | flt b => cases e
  | ref a => cases e
  | ty n => cases e
theorem reads_key {h : Heap} {k : Key} {u : Value} (r : keyIs k u = true) : Reads h u (keyD k) [] := by
  rcases keyIs_shape r with ⟨i, t, rfl, rfl⟩ | ⟨x, t, rfl, rfl⟩
  · exact .int i t
  · exact .str x t
theorem reads_kv {P : Program} {w : World} {h : Heap} : ∀ {es : List DictEntry} {us : List (Key × Value)} {kvs : List (Key × V)} {ds : List (PyData × PyData)}, Pairs (mixKind P w) es us → KV kvs us → KvD kvs ds →
    ReadsAll h (es.map (·.key)) (ds.map (·.1)) [] ∧ ReadsAll h (es.map (·.val)) (ds.map (·.2)) []
  | _, _, _, _, .nil, .nil, .nil => ⟨.nil, .nil⟩
  | _, _, _, _, .cons hk hv r, .cons ⟨e1, e2⟩ r2, .cons hp r3 => by
    obtain ⟨a1, a2⟩ := reads_kv (h := h) r r2 r3
    refine ⟨ReadsAll.cons (as := []) (bs := []) (reads_key ?_) a1, ReadsAll.cons (as := []) (bs := []) (reads_plain hp ?_) a2⟩
    · have e0 : ‹Key› = _ := e1
      exact (congrArg (fun z => keyIs z _) e0).trans hk
    · exact (congrArg (fun z => L2.RelV _ z) hv).mpr e2
section
variable {X : Cx}
/-- repr of a list, a tuple -/
theorem call_reprD (hg : X.A.guards = some []) (hu : X.A.units + 64 < cLine) : CallR X (.builtin "repr") (fun xs H Q => ∃ a d, xs = [.ref a] ∧ Dp X.K H (.ref a) d ∧ d.canLay0 = true ∧ d.showable = true ∧ d.depth ≤ 60 ∧ d.shown.length ≤ sizeLine ∧ Q (.str d.shown) H) := by
  rintro pins s σ H xs us Q I r ⟨a, d, rfl, hd, hc, hs, hdp, hz, q⟩
  obtain ⟨u, rfl, ru⟩ := vals1 r
  obtain rfl : u = Value.ref a := ru
  obtain ⟨as, rd⟩ := Dp.reads I d _ _ hd (show L2.RelV (.ref a) (Value.ref a) from rfl)
  exact repr_of_reads' rd hs (PyData.noDict_hsm (PyData.hasDict_of_canLay d hc)) hg (by omega) (fun _ _ e => e) (fun h' t tk k => ⟨.str _, H, I.kept k, ⟨_, rfl⟩, q⟩) hz
/-- repr of a dict of plain values -/
theorem call_reprK (hg : X.A.guards = some []) (hu : X.A.units + 64 < cLine) : CallR X (.builtin "repr") (fun xs H Q => ∃ a kvs ds, xs = [.ref a] ∧ H a = some (.dK kvs) ∧ KvD kvs ds ∧ (PyData.dict ds).showable = true ∧ (PyData.dict ds).depth ≤ 60 ∧ (PyData.dict ds).shown.length ≤ sizeLine ∧ Q (.str (PyData.dict ds).shown) H) := by
  rintro pins s σ H xs us Q I r ⟨a, kvs, ds, rfl, hd, hk, hs, hdp, hz, q⟩
  obtain ⟨u, rfl, ru⟩ := vals1 r
  obtain rfl : u = Value.ref a := ru
  obtain ⟨_, hne, vs, kv, o, es, ep, ho, hx, hdat, _, hp, _⟩ := I.hok a _ hd
  obtain ⟨r1, r2⟩ := reads_kv (h := s.heap) hp kv hk
  have rd : Reads s.heap (.ref a) (.dict ds) (a :: [] ++ []) := .dict ho hx.1 hdat r1 r2
  refine repr_of_reads' rd hs (fun _ hm => ?_) hg (by omega) (fun _ _ e => e) (fun h' t tk k => ⟨.str _, H, I.kept k, ⟨_, rfl⟩, q⟩) hz
  simp at hm
  rw [hm] at hne
  simp at hne
end
end LC
/-! LcEnum: for i, x in enumerate(t), t a tuple. -/
namespace LC
open PySem PySem.Spec PyProof.Rows L2
open AutoSeq1 (wpAny_loadPart')
theorem enum_newT (l : Addr) (items : Array Value) (n : Nat) (dct : Option Addr) (sl : Array (Option Value)) :
    Meets (Builtin.«enumerate.__new__» ⟨[.type "enumerate", .ref l], []⟩) (fun _ R s => s.heap.get? l = some { cls := .type "tuple", dict := dct, data := .seq items n, slots := sl } ∧
      R (.ok (.ret (.ref (s.heap.push { cls := .type "tuple_iterator", data := .fields #[.ref l, .int 0 0] }).objs.size)))
        { s with heap := (s.heap.push { cls := .type "tuple_iterator", data := .fields #[.ref l, .int 0 0] }).push { cls := .type "enumerate", data := .fields #[.none, .bool false, .ref s.heap.objs.size, rawInt 0, .none, .none] } }) :=
  .of_wp fun pr wo A R s h => by
    obtain ⟨hp, g, d, tk, os⟩ := s
    obtain ⟨hl, h⟩ := h
    have sub := sub_enumerate
    have hT : Heap.IsTuple (Shared.heap ⟨hp, g, d, tk, os⟩) l items := ⟨_, hl, rfl, n, rfl⟩
    wp_walk using wpAny_loadPart' hl
    refine wpAny_stack_any fun st => wpAny_pure ?_
    split
    · rename_i c _ _ _ _ _
      cases (c == Value.type "enumerate")
      all_goals
        wp_walk using wpAny_loadPart' hl, wpAny_pyIter_tuple hT
        exact ⟨_, rfl, h⟩
    · wp_walk using wpAny_loadPart' hl, wpAny_pyIter_tuple hT
      exact ⟨_, rfl, h⟩
theorem call_enumT {prog : Program} {w : World} {A : Around} {E : Value → Shared → Prop} {s : Shared} {l : Addr} {items : Array Value} {Q : Value → Shared → Prop} (hL : s.heap.IsTuple l items)
    (h : ∀ h', IsEnum h' (s.heap.objs.size + 1) s.heap.objs.size 0 .none → h'.IsTupleIter s.heap.objs.size l 0 → (∀ b o, s.heap.get? b = some o → h'.get? b = some o) → Q (.ref (s.heap.objs.size + 1)) { s with heap := h' }) :
    wpAny (model prog w) A (call (.type "enumerate") [.ref l]) Q E s := by
  obtain ⟨⟨c, dct, dt, sl⟩, hl, hc, n, hd⟩ := hL
  cases (show c = .type "tuple" from hc)
  cases (show dt = .seq items n from hd)
  refine callType_new F.called_enumerate (by decide) (F.typeCall_enumerate_1 _) (F.newCall_enumerate_1 _) (fun obj => F.args_object_init_2 obj _) F.entry_enumerate_new (enum_newT l items n dct sl) ⟨hl, ?_⟩
  have z1 : (s.heap.push { cls := .type "tuple_iterator", data := .fields #[.ref l, .int 0 0] }).objs.size = s.heap.objs.size + 1 := Heap.size_push ..
  show _ ∧ _
  rw [z1]
  have e1 := Heap.get?_push_size (s.heap.push { cls := .type "tuple_iterator", data := .fields #[.ref l, .int 0 0] }) (o := { cls := .type "enumerate", data := .fields #[.none, .bool false, .ref s.heap.objs.size, rawInt 0, .none, .none] }) rfl
  rw [z1] at e1
  refine ⟨⟨_, e1, rfl⟩, h _ e1 ⟨_, Heap.get?_push_of_some _ (Heap.get?_push_size _ rfl), rfl, rfl⟩ fun b o x => Heap.get?_push_of_some _ (Heap.get?_push_of_some _ x)⟩
/-- the tuple at a, its items in new pairs with their places -/
def IteT (K : PySem.W.Frag) (a : Addr) : It :=
  ⟨fun i H => ∃ (xs : List V) (x : V), SqT K H a xs ∧ xs[i]? = some x, fun i H v H' => ∃ T x, v = .ref T ∧ H T = none ∧ H' = upd H T (.tup [.int (i : Nat), x]) ∧ ∀ xs, SqT K H a xs → xs[i]? = some x, fun i H => ∃ xs : List V, SqT K H a xs ∧ xs.length ≤ i⟩
theorem turn_enumT {P : Program} {w : World} {K : PySem.W.Frag} {elts : List Expr} {kk : Nat} {tpos : Pos} (a e it : Addr) :
    Turn P w K (.Tuple elts kk tpos) (IteT K a) [e, it] e (fun i h => (∃ old, IsEnum h e it ((i : Nat) : Int) old) ∧ h.IsTupleIter it a i ∧ e ≠ it) where
  mem := by simp
  obj := fun i h st b hb => by
    obtain ⟨⟨old, he⟩, ⟨o, ho, hc, hd⟩, _⟩ := st
    have q : b = e ∨ b = it := by simpa using hb
    cases q with
    | inl z =>
      rw [z]
      exact ⟨_, he, fun v q => nomatch q⟩
    | inr z =>
      rw [z]
      refine ⟨o, ho, fun v q => ?_⟩
      rw [hd] at q
      cases q
  keep := fun i h h' st k => by
    obtain ⟨⟨old, he⟩, hi, hne⟩ := st
    exact ⟨⟨old, k e (by simp) _ he⟩, hi.at fun o q => k it (by simp) o q, hne⟩
  item := by
    intro X hP hw hK hc i pins s σ H E I hf st hg
    cases hP
    cases hw
    cases hK
    obtain ⟨⟨old, he⟩, hit, hne⟩ := st
    obtain ⟨xs, x, hq, hx⟩ := hg
    obtain ⟨its, rv, p, hz⟩ := I.tuple hq
    obtain ⟨u, hu, ru⟩ := rv.get hx
    have pT : s.heap.IsTuple a its.toArray := p
    have hel : e < s.heap.objs.size := Heap.lt_size he
    have hil : it < s.heap.objs.size := by
      obtain ⟨_, q, _⟩ := hit
      exact Heap.lt_size q
    have neT : ∀ {b : Addr}, b ∈ [e, it] → a ≠ b := fun {b} hb z => by
      obtain ⟨oa, ha, ca, _⟩ := pT
      rw [z] at ha
      have q : b = e ∨ b = it := by simpa using hb
      cases q with
      | inl z =>
        rw [z] at ha
        rw [he] at ha
        cases ha
        injection ca with z2
        exact absurd z2 (by decide)
      | inr z =>
        obtain ⟨oi, hi, ci, _⟩ := hit
        rw [z, hi] at ha
        cases ha
        rw [ci] at ca
        injection ca with z2
        exact absurd z2 (by decide)
    have hlt : i < its.toArray.size := by
      have q := (List.getElem?_eq_some_iff.mp hu).1
      simpa using q
    refine wpAny_pyNext_enum_itemD (fp := [it, a]) (Draws.tuple (A := X.A.in1) (I.ok.hd hc) it a (neT (by simp)) its.toArray) he ⟨hit, pT⟩ hlt hne (by
      simp only [List.mem_cons, List.not_mem_nil, or_false]
      rintro (z | z)
      · exact hne z
      · exact neT (b := e) (by simp) z.symm) fun y h' tk hy ho hst hT hsz hk => ?_
    have ey : y = u := by
      have q : its.toArray[i]? = some u := by simpa using hu
      exact Option.some.inj ((show its.toArray[i]? = some y from hy).symm.trans q)
    subst ey
    refine ⟨_, rfl, wpAny_letOwnedTupleGo_enum (s := { s with heap := h', toks := tk + 1 }) ho fun h2 he' sb => ?_⟩
    have hT2 : h2.get? s.heap.objs.size = some { cls := .type "tuple", data := .seq #[.int i tk, y] } := (sb.2 _ (Nat.ne_of_gt hel)).trans hT
    have new : ObjOk X.prog X.w (upd H s.heap.objs.size (.tup [.int (i : Nat), x])) h2 s.heap.objs.size (.tup [.int (i : Nat), x]) := ⟨by show 2 ≤ sizeLine; decide, [.int i tk, y], .cons ⟨_, rfl⟩ (.cons ru .nil), ⟨_, hT2, rfl, _, rfl⟩⟩
    have I1 : Inv X pins σ (upd H s.heap.objs.size (.tup [.int (i : Nat), x])) { s with heap := h2, toks := tk + 1 } :=
      I.turnedNew (ch := [e, it]) (fun b ob hb q => (sb.2 b (fun z => hb (by simp [z]))).trans (hk b ob (fun z => hb (by simp [z])) (fun z => hb (by simp [z])) q)) hf (Nat.le_refl _) new
    refine ⟨.ref s.heap.objs.size, _, I1, rfl, ⟨_, x, rfl, I.hok.fresh (Nat.le_refl _), rfl, fun ys hy2 => ?_⟩, ⟨⟨y, ?_⟩, hst.1.at fun o q => (sb.2 it (Ne.symm hne)).trans q, hne⟩, fun b hb => ?_⟩
    · rw [I.tuple_inj hy2 hq]
      exact hx
    · have e1 : ((i + 1 : Nat) : Int) = (i : Int) + 1 := by omega
      rw [e1]
      exact he'
    · have hb' : b < s.heap.objs.size := by
        have q : b = e ∨ b = it := by simpa using hb
        cases q with
        | inl z => rw [z]; exact hel
        | inr z => rw [z]; exact hil
      rw [upd_ne (Nat.ne_of_lt hb')]
      exact (hf b hb).1
  done := by
    intro X hP hw hK hc i pins s σ H E I hf st hg
    cases hP
    cases hw
    cases hK
    obtain ⟨⟨old, he⟩, hit, hne⟩ := st
    obtain ⟨xs, hq, hx⟩ := hg
    obtain ⟨its, rv, p, hz⟩ := I.tuple hq
    obtain ⟨f0, f1, f2, f3, f4, f5⟩ := hf it (by simp)
    have pT : s.heap.IsTuple a its.toArray := p
    have hl := rv.length
    have hnone : its.toArray[i]? = none := by
      simp
      omega
    have neA : a ≠ it := fun z => by
      obtain ⟨oa, ha, ca, _⟩ := pT
      obtain ⟨oi, hi, ci, _⟩ := hit
      rw [z, hi] at ha
      cases ha
      rw [ci] at ca
      injection ca with z2
      exact absurd z2 (by decide)
    have D : Draws X.prog X.w X.A.in1 it [it, a] i (fun _ _ => False) (fun j h => j = i ∧ h.IsTupleIter it a i ∧ h.IsTuple a its.toArray) :=
      { live := fun j h st => by
          obtain ⟨_, ⟨o, ho, _⟩, _⟩ := st
          exact ⟨o, ho⟩
        frame := fun j h h' st hk => ⟨st.1, st.2.1.at fun o q => hk it (by simp) o q, by
          obtain ⟨o, ho, r⟩ := st.2.2
          exact ⟨o, hk a (by simp) o ho, r⟩⟩
        item := fun j s Q E hj st _ => absurd st.1 (Nat.ne_of_lt hj)
        done := fun s Q E st hE => wpAny_nextOf_tuple_end (show X.A.in1.handled = none from I.ok.hd hc) st.2.1 st.2.2 hnone hE }
    exact wpAny_pyNext_enum_endD D he ⟨rfl, hit, pT⟩ fun h' eb => ⟨rfl, I.turned (t' := s.toks) (fun b o hb q => eb b o hb q) f0 f1 f3 f4 f5⟩
  self := fun A i s Q E st h => by
    obtain ⟨⟨_, he⟩, _⟩ := st
    exact wpAny_pyIter_enum he h
def iEnumT (K : PySem.W.Frag) (ta : TA) : TI := fun σ H R => ta σ H fun vs H1 => ∃ a xs, vs = [.ref a] ∧ SqT K H1 a xs ∧ R (IteT K a) H1
theorem pi_enumT {X : Cx} {e : Expr} {ta : TA} {p pos tpos : Pos} {elts : List Expr} {kk : Nat} (hg : Gl X "enumerate") (hm : X.mg "enumerate" = none) (ha : PA X [e] ta) (hs : starEach [e] X.env = [(false, eval e X.env)] := by rfl) :
    PI X (.Tuple elts kk tpos) (.Call (.Name "enumerate" p) [e] [] pos) (iEnumT X.K ta) := by
  constructor
  intro pins s σ H R I h
  refine Call_ (ld_blt I hg hm boot_enumerate (PyProof.Rows.callWith_type1 (thn (ha.run pos pins s σ H _ I h) fun us s1 ⟨vs, H1, I1, r1, q1⟩ => ?_) hs rfl))
  obtain ⟨a, xs, ex, hq, q⟩ := q1
  subst ex
  obtain ⟨u, rfl, ru⟩ := vals1 r1
  obtain rfl : u = Value.ref a := ru
  obtain ⟨its, rv, p', hz⟩ := I1.tuple hq
  refine call_enumT (show s1.heap.IsTuple a its.toArray from p') fun h' he hit hk => wpAny_pyIter_enum he ?_
  have I2 : Inv X pins σ H1 { s1 with heap := h' } := I1.kept (t' := s1.toks) hk
  refine ⟨s1.heap.objs.size + 1, [s1.heap.objs.size + 1, s1.heap.objs.size], _, _, H1, rfl, I2, turn_enumT a (s1.heap.objs.size + 1) s1.heap.objs.size, ⟨⟨.none, he⟩, hit, Nat.succ_ne_self _⟩, fun b hb => ?_, q⟩
  have z : b = s1.heap.objs.size + 1 ∨ b = s1.heap.objs.size := by simpa using hb
  have hle : s1.heap.objs.size ≤ b := by
    cases z with
    | inl z => rw [z]; exact Nat.le_add_right _ _
    | inr z => rw [z]; exact Nat.le_refl _
  exact I1.fpOk hle (I1.hok.fresh hle)
theorem walk_enumT {K : PySem.W.Frag} {a : Addr} {xs : List V} : Walk (IteT K a) xs.length (fun H => SqT K H a xs) (YPair (fun i => some (.int (i : Nat))) (fun i => xs[i]?)) := by
  refine ⟨fun i H hi q => ⟨xs, xs[i], q, by simp [hi]⟩, fun H q => ⟨xs, q, Nat.le_refl _⟩, fun i H v H' hi q y => ?_⟩
  obtain ⟨T, x, y1, y2, y3, y4⟩ := y
  exact ⟨T, .int (i : Nat), x, y1, y2, y3, rfl, y4 xs q⟩
end LC
/-! LcMeth: o.m(k = v, ..) without positional arguments. -/
namespace LC
open PySem PySem.Spec PyProof.Rows L2
def tMethKw (C : Addr) (m : Str) (n : Nat) (sp : Sp) (gV : List V → List V → List V) (E : XK) (ta : TE) (tk : TA) : TE := fun σ H Q => ta σ H fun x H1 => ∃ a dx fs, x = .ref a ∧ H1 a = some (.ins C dx fs) ∧ fs.lookup m = none ∧ tk σ H1 fun zs H2 => zs.length = n ∧ sp (gV [x] zs) H2 Q E
section
variable {X : Cx} {CX : CXT} {k : Nat} {f C : Addr} {fd : FuncData} {ps ks : List Str} {sp : Sp} {E : XK} {m : Str} {pos apos : Pos} {o : Expr} {kws : List Keyword} {ta : TE} {tk : TA} {g : List Value → List Value → List Value} {gV : List V → List V → List V}
theorem pe_methK0 {pl : Sem Bool} (he : PE X o ta) (c : Cls X.K C) (hm : Meth X.K C m f) (F : FnOk X.prog X.w X.K X.mg X.base CX k f fd ps sp) (hr : Room k X.A) (hb : KBn X.K fd ps 1 ks g gV) (hx : Passes CX X E) (hkw : PK X kws tk)
    (hall : (backToKw pos (keywordEach kws X.env)).all (·.1.isSome) = true := by rfl) (hks : (backToKw pos (keywordEach kws X.env)).filterMap (·.1) = ks := by rfl) (hpl : ((backTo pos (starEach [] X.env)).any (·.1) || (backToKw pos (keywordEach kws X.env)).any (·.1.isNone)) = false := by rfl)
    (ht : eval (.Call (.Attribute o m apos) [] kws pos) X.env = (do
      let z ← eval o X.env
      standAt apos.atName
      let (f, first) ← holding [z] (getMethod z m pl)
      callWith pos f first (backTo pos (starEach [] X.env)) (backToKw pos (keywordEach kws X.env))) := by rfl) : PE X (.Call (.Attribute o m apos) [] kws pos) (tMethKw C m ks.length sp gV E ta tk) := by
  constructor
  intro pins s σ H Q I h
  refine PySem.W.methodCall_KW (pl := pl) (thn (he.run pins s σ H _ I h) fun u s1 ⟨x, H1, I1, rx, a, dx, fs, ex, ea, l, q⟩ => ?_) ht
  subst ex
  obtain rfl : u = Value.ref a := rx
  refine getmeth_ok I1 ea c hm l ?_
  refine PySem.W.callWith_KW0 (first := [.ref a]) (h₀ := X.base) I.ok.mod.kin hm.kp hall ?_ hpl
  refine thn (hkw.run pos pins s1 σ H1 _ I1 q) fun ws s2 ⟨zs, H2, I2, rz, l2, q2⟩ => ⟨I2.kIn, ?_⟩
  rw [hks]
  exact run_fnN (us := [.ref a]) (vs := [.ref a]) F hr hb hx I2 (.cons rfl .nil) rz rfl l2 q2
end
end LC
/-! LcRev: t[::-1] of a tuple. -/
namespace LC
open PySem PySem.Spec PyProof.Rows L2
section
variable {prog : Program} {w : World} {A : Around} {E : Value → Shared → Prop} {s : Shared}
theorem adjust_back (n : Nat) : Builtin.Slice.sliceAdjust none none (-1) (n : Int) = ((n : Int) - 1, -1) := by
  unfold Builtin.Slice.sliceAdjust
  simp
theorem places_back (n : Nat) : Builtin.Slice.slicePlaces ((n : Int) - 1) (-1) (-1) = n := by
  unfold Builtin.Slice.slicePlaces
  have h1 : ¬ ((-1 : Int) > 0) := by decide
  simp only [h1, if_false]
  by_cases h : (n : Int) - 1 > -1
  · rw [if_pos h]
    have e : (- -1 : Int) = 1 := by decide
    rw [e, Int.ediv_one]
    omega
  · rw [if_neg h]
    omega
theorem applied_back {sl : Addr} {vl vu vs : Value} {n : Nat} {Q : Int × Int × Nat → Shared → Prop} (hs : s.heap.IsSliceOf sl vl vu vs) (pl : IsPart vl none) (pu : IsPart vu none) (ps : IsPart vs (some (-1)))
    (h : Q ((n : Int) - 1, -1, n) s) : wpAny (model prog w) A (Builtin.Slice.sliceApplied (.ref sl) (pure (n : Int))) Q E s := by
  obtain ⟨os, hos, hcs, hds⟩ := id hs
  unfold Builtin.Slice.sliceApplied Builtin.Slice.sliceFields
  refine wpAny_bind (wpAny_bind (wpAny_field hos hds (x := vl) rfl (wpAny_bind (wpAny_field hos hds (x := vu) rfl (wpAny_bind (wpAny_field hos hds (x := vs) rfl (wpAny_pure ?_)))))))
  refine wpAny_bind (HT.slicePart_ ps ?_)
  show wpAny _ _ (if ((-1 : Int) == 0) = true then _ else _) _ _ s
  rw [if_neg (by decide)]
  refine wpAny_bind (HT.slicePart_ pl (wpAny_bind (HT.slicePart_ pu (wpAny_bind (wpAny_pure ?_)))))
  show wpAny _ _ (match Builtin.Slice.sliceAdjust none none (-1) (n : Int) with | (lo, hi) => pure (lo, (-1 : Int), Builtin.Slice.slicePlaces lo hi (-1))) _ _ s
  rw [adjust_back n]
  show wpAny _ _ (pure ((n : Int) - 1, (-1 : Int), Builtin.Slice.slicePlaces ((n : Int) - 1) (-1) (-1))) _ _ s
  rw [places_back]
  exact wpAny_pure h
theorem fm_congr {α β : Type} {f g : α → Option β} : ∀ {l : List α}, (∀ x ∈ l, f x = g x) → l.filterMap f = l.filterMap g
  | [], _ => rfl
  | a :: r, h => by
    rw [List.filterMap_cons, List.filterMap_cons, h a (List.mem_cons_self ..), fm_congr (l := r) fun x hx => h x (List.mem_cons_of_mem _ hx)]
theorem pick_back (xs : Array Value) : ((List.range xs.size).filterMap fun (m : Nat) => xs[((xs.size : Int) - 1 + (m : Int) * -1).toNat]?).toArray = xs.toList.reverse.toArray := by
  have e : ((List.range xs.size).filterMap fun (m : Nat) => xs[((xs.size : Int) - 1 + (m : Int) * -1).toNat]?) = (List.range xs.size).reverse.filterMap (xs[·]?) := by
    rw [← PySem.W.krv_range, List.filterMap_map]
    refine fm_congr fun m hm => ?_
    have := List.mem_range.mp hm
    show _ = xs[xs.size - 1 - m]?
    have e2 : ((xs.size : Int) - 1 + (m : Int) * -1).toNat = xs.size - 1 - m := by omega
    rw [e2]
  rw [e, List.filterMap_reverse, PySem.W.krv_all]
theorem getItem_tuple_back {t sl : Addr} {items : Array Value} {vl vu vs : Value} {Q : Value → Shared → Prop} (ht : IsTup s.heap t items) (hs : s.heap.IsSliceOf sl vl vu vs) (pl : IsPart vl none) (pu : IsPart vu none) (ps : IsPart vs (some (-1)))
    (h : Q (.ref s.heap.objs.size) { s with heap := s.heap.push { cls := .type "tuple", data := .seq items.toList.reverse.toArray } })
    (hsz : items.size ≤ sizeLine) : wpAny (model prog w) A (getItem (.ref t) (.ref sl)) Q E s := by
  have htake : sizeOk (.seq items.toList.reverse.toArray) := by
    show items.toList.reverse.toArray.size ≤ sizeLine
    rw [List.size_toArray, List.length_reverse, Array.length_toList]
    exact hsz
  obtain ⟨os, hos, hcs, hds⟩ := id hs
  have hTs : s.TypeIs (.ref sl) "slice" := ⟨os, hos, hcs⟩
  unfold getItem
  try with_reducible refine wpAny_holding ?_
  first | refine wpAny_bind (wpAny_pure ?_) | skip
  refine wpAny_bind (wpAny_sequenceKey ht.typeIs (by decide) ?_)
  refine wpAny_bind (wpAny_callSpecial?_slot (name := Str.ofString "__getitem__") ht.typeIs PyProof.Rows.slot_tuple_getitem
    (wpAny_call_entry PyProof.Rows.slot_tuple_getitem ht.typeIs entry_tuple_getitem ?_ (args_tuple_getitem _ _)))
  show wpAny _ _ (Builtin.Tuple.tupleItemsOf (.ref t) >>= _) _ _ s
  refine wpAny_bind (tupleItemsOf_ ht ?_)
  refine wpAny_bind (wpAny_typeOf hTs ?_)
  rw [if_pos (by decide)]
  refine wpAny_bind (applied_back hs pl pu ps ?_)
  have hno : ¬ ((((items.size : Int) - 1) == 0 && (-1 : Int) == 1 && items.size == items.size) = true) := by
    intro q
    rw [Bool.and_eq_true, Bool.and_eq_true] at q
    exact absurd q.1.2 (by decide)
  show wpAny _ _ (if (((items.size : Int) - 1) == 0 && (-1 : Int) == 1 && items.size == items.size) = true then _ else _) _ _ s
  rw [if_neg hno, pick_back]
  first
    | exact wpAny_bind (m := Builtin.Tuple.tupleExact _) (wpAny_newObj_type (wpAny_pure ⟨_, rfl, wpAny_pure h⟩) htake)
    | exact wpAny_bind (wpAny_bind (m := Builtin.Tuple.tupleExact _) (wpAny_newObj_type (wpAny_pure (wpAny_pure ⟨_, rfl, wpAny_pure h⟩)) htake))
    | exact wpAny_bind (wpAny_bind (m := Builtin.Tuple.tupleExact _) (wpAny_newObj_type (wpAny_pure ⟨_, rfl, wpAny_pure h⟩) htake))
end
def tRevT (K : PySem.W.Frag) (te : TE) : TE := fun σ H Q => te σ H fun x H1 => ∃ a xs, x = .ref a ∧ SqT K H1 a xs ∧ ∀ p, H1 p = none → Q (.ref p) (upd H1 p (.tup xs.reverse))
theorem pe_revT {X : Cx} {te : TE} {e : Expr} {k : Nat} {p1 p2 p3 pos : Pos} (he : PE X e te) : PE X (.Subscript e (.Slice none none (some (.UnaryOp .USub (.Constant (.int 1) k p1) p2)) p3) pos) (tRevT X.K te) := by
  refine ⟨fun pins s σ H Q I h => ?_⟩
  refine Subscript_ (thn (he.run pins s σ H _ I h) fun v s1 ⟨x, H1, I1, r1, q1⟩ => ?_)
  obtain ⟨a, xs, ex, hx, q⟩ := q1
  subst ex
  cases r1
  have hst : PO X (some (.UnaryOp .USub (.Constant (.int 1) k p1) p2)) (tPart (tUn (rU fun i => .int (-i)) (tC (.int 1)))) := po_some (pe_un un_neg pe_int)
  refine wpAny_Slice (thn (po_none.run pins s1 σ H1 (fun o H2 => o = none ∧ H2 = H1) I1 ⟨rfl, rfl⟩) fun vl s2 ⟨l, H2, I2, pl, el, e2⟩ => ?_)
  subst el e2
  refine thn (po_none.run pins s2 σ H2 (fun o H3 => o = none ∧ H3 = H2) I2 ⟨rfl, rfl⟩) fun vu s3 ⟨u, H3, I3, pu, eu, e3⟩ => ?_
  subst eu e3
  refine thn (hst.run pins s3 σ H3 (fun o H4 => o = some (-1) ∧ H4 = H3) I3 ⟨1, rfl, -1, rfl, rfl, rfl⟩) fun vs s4 ⟨o, H4, I4, ps, eo, e4⟩ => ?_
  subst eo e4
  have I5 : Inv X pins σ H4 { s4 with heap := s4.heap.push { cls := .type "slice", data := .fields #[vl, vu, vs] } } := I4.kept (t' := s4.toks) fun b ob q => Heap.get?_push_of_some _ q
  obtain ⟨its, r, ht, hz⟩ := I5.tuple hx
  have hlen : its.toArray.size = xs.length := by rw [List.size_toArray]; exact r.length.symm
  show wpAny (model X.prog X.w) X.A (subscriptTail e (.Slice none none (some (.UnaryOp .USub (.Constant (.int 1) k p1) p2)) p3) (.ref a) (.ref s4.heap.objs.size)) (EP X pins σ Q) X.xe { s4 with heap := s4.heap.push { cls := .type "slice", data := .fields #[vl, vu, vs] } }
  refine tail_any (ops := [.ref a, .ref s4.heap.objs.size]) ht.typeIs (PyProof.Rows.slot_tuple_getitem.lookup) ?_ (by with_unfolding_all rfl)
  refine getItem_tuple_back ht (Heap.IsSliceOf.new _ vl vu vs) pl pu ps ?_ (by rw [hlen]; exact hz)
  refine ⟨.ref _, _, I5.laid (t' := s4.toks) (o := .tup xs.reverse) (fun b ob q => Heap.get?_push_of_some _ q) (Nat.le_refl _) ?_, rfl, q _ (I5.hok.fresh (Nat.le_refl _))⟩
  exact ⟨by rw [List.length_reverse]; exact hz, _, r.reverse, IsTup.new _ _⟩
end LC
/-! LcData: dicts of names and ints. -/
namespace LC
open PySem PySem.Spec PyProof.Rows L2
def intsK (ns : List Str) (val : Str → Int) : List (Key × V) := ns.map fun z => (.inr z, .int (val z))
def intsD (ns : List Str) (val : Str → Int) : List (PyData × PyData) := ns.map fun z => (.str z, .int (val z))
theorem kvd_ints (val : Str → Int) : ∀ ns : List Str, KvD (intsK ns val) (intsD ns val)
  | [] => .nil
  | z :: r => .cons (k := .inr z) rfl (kvd_ints val r)
theorem valV_ints {val : Str → Int} {z : Str} : ∀ {ns : List Str}, z ∈ ns → valV (intsK ns val) (Sum.inr z) = some (.int (val z))
  | [], h => nomatch h
  | y :: r, h => by
    by_cases e : y = z
    · subst e
      exact valV_pos rfl
    · have e2 := valV_neg (p := (Sum.inr y, V.int (val y))) (r := intsK r val) (k := (Sum.inr z : Key)) (fun q => e (Sum.inr.inj q))
      refine e2.trans (valV_ints ?_)
      rcases List.mem_cons.mp h with q | q
      · exact absurd q.symm e
      · exact q
theorem ints_any {val : Str → Int} {z : Str} : ∀ {ns : List Str}, ((intsK ns val).any fun kv => decide (kv.1 = (Sum.inr z : Key))) = decide (z ∈ ns)
  | [] => by simp [intsK]
  | y :: r => by
    have ih := ints_any (val := val) (z := z) (ns := r)
    unfold intsK at ih ⊢
    rw [List.map_cons, List.any_cons, ih]
    show (decide ((Sum.inr y : Key) = Sum.inr z) || decide (z ∈ r)) = decide (z ∈ y :: r)
    by_cases e : y = z
    · subst e
      simp
    · have e2 : ¬ ((Sum.inr y : Key) = Sum.inr z) := fun q => e (Sum.inr.inj q)
      rw [decide_eq_false e2, Bool.false_or]
      by_cases m : z ∈ r
      · rw [decide_eq_true m, decide_eq_true (List.mem_cons_of_mem _ m)]
      · rw [decide_eq_false m, decide_eq_false (fun q => (List.mem_cons.mp q).elim (fun z => e z.symm) m)]
def valPut (val : Str → Int) (z : Str) (i : Int) : Str → Int := fun x => if x = z then i else val x
theorem putK_ints {val : Str → Int} {ns : List Str} {z : Str} (i : Int) (h : z ∈ ns) : putK (intsK ns val) (Sum.inr z) (.int i) = intsK ns (valPut val z i) := by
  unfold putK
  rw [ints_any, decide_eq_true h, if_pos rfl]
  unfold intsK
  rw [List.map_map]
  apply List.map_congr_left
  intro x _
  show (if (Sum.inr x : Key) = Sum.inr z then ((Sum.inr x : Key), V.int i) else (Sum.inr x, V.int (val x))) = (Sum.inr x, V.int (valPut val z i x))
  unfold valPut
  by_cases e : x = z
  · subst e
    rw [if_pos rfl, if_pos rfl]
  · rw [if_neg (fun q => e (Sum.inr.inj q)), if_neg e]
theorem putK_snoc {val : Str → Int} {ns : List Str} {z : Str} (h : ¬ z ∈ ns) : putK (intsK ns val) (Sum.inr z) (.int (val z)) = intsK (ns ++ [z]) val := by
  unfold putK
  rw [ints_any, decide_eq_false h, if_neg Bool.false_ne_true]
  unfold intsK
  rw [List.map_append]
  rfl
theorem mergeK_go {val : Str → Int} : ∀ (ns acc : List Str), (acc ++ ns).Nodup → mergeK (intsK acc val) (intsK ns val) = intsK (acc ++ ns) val
  | [], acc, _ => by
    rw [List.append_nil]
    rfl
  | z :: r, acc, nd => by
    have hz : ¬ z ∈ acc := fun m => (List.nodup_append.mp nd).2.2 z m z (List.mem_cons_self ..) rfl
    show mergeK (putK (intsK acc val) (Sum.inr z) (.int (val z))) (intsK r val) = _
    have e : acc ++ z :: r = (acc ++ [z]) ++ r := by simp
    rw [putK_snoc hz, mergeK_go r (acc ++ [z]) (by rw [← e]; exact nd), e]
theorem mergeK_ints {val : Str → Int} {ns : List Str} (nd : ns.Nodup) : mergeK [] (intsK ns val) = intsK ns val := mergeK_go ns [] nd
theorem log2_small {i : Int} (h : i.natAbs < 2 ^ 250) : i.natAbs.log2 < 250 := by
  by_cases e : i.natAbs = 0
  · rw [e]
    decide
  · exact (Nat.log2_lt e).mpr h
theorem ints_showable {val : Str → Int} : ∀ {ns : List Str}, (∀ z ∈ ns, (val z).natAbs < 2 ^ 250) → PyData.showableKv (intsD ns val) = true
  | [], _ => rfl
  | z :: r, h => by
    have l := log2_small (h z (List.mem_cons_self ..))
    show (true && decide ((val z).natAbs.log2 < 1920) && PyData.showableKv (intsD r val)) = true
    rw [decide_eq_true (by omega : (val z).natAbs.log2 < 1920), ints_showable fun q hq => h q (List.mem_cons_of_mem _ hq)]
    rfl
theorem ints_depth {val : Str → Int} : ∀ {ns : List Str}, PyData.depthKv (intsD ns val) = 0
  | [] => rfl
  | z :: r => by
    show max (max 0 0) (PyData.depthKv (intsD r val)) = 0
    rw [ints_depth (ns := r)]
    rfl
theorem int_shown {i : Int} (h : i.natAbs < 2 ^ 250) : (PyData.shown (.int i)).length ≤ 300 := by
  have e := int_text_length_le (k := 250) (by decide) (log2_small h)
  show (Str.ofString (toString i)).length ≤ 300
  rw [PySem.ofString_length]
  omega
theorem name_short {z : Str} (h : nameB z = true) : PyData.leavesShort 300 (.str z) = true := by
  show (z.cps.toList.all fun c => decide (c < 16 ^ 8)) = true
  refine List.all_eq_true.mpr fun c hc => decide_eq_true ?_
  have q := name_chars h c hc
  have e : (16 : Nat) ^ 8 = 4294967296 := by decide
  omega
theorem ints_short {val : Str → Int} : ∀ {ns : List Str}, (∀ z ∈ ns, nameB z = true) → (∀ z ∈ ns, (val z).natAbs < 2 ^ 250) → PyData.leavesShortKv 300 (intsD ns val) = true
  | [], _, _ => rfl
  | z :: r, hn, h => by
    have l := int_shown (h z (List.mem_cons_self ..))
    show (PyData.leavesShort 300 (.str z) && decide ((PyData.shown (.int (val z))).length ≤ 300) && PyData.leavesShortKv 300 (intsD r val)) = true
    rw [name_short (hn z (List.mem_cons_self ..)), decide_eq_true l, ints_short (fun q hq => hn q (List.mem_cons_of_mem _ hq)) fun q hq => h q (List.mem_cons_of_mem _ hq)]
    rfl
theorem int_weight {i : Int} (h : i.natAbs < 2 ^ 250) : PyData.weight (.int i) ≤ 251 := by
  have l := log2_small h
  show (if (i == 0) = true then 0 else i.natAbs.log2 + 1) ≤ 251
  split <;> omega
theorem ints_weight {val : Str → Int} : ∀ {ns : List Str}, (∀ z ∈ ns, nameB z = true) → (∀ z ∈ ns, (val z).natAbs < 2 ^ 250) → PyData.weightKv (intsD ns val) ≤ 260 * ns.length
  | [], _, _ => Nat.le_refl _
  | z :: r, hn, h => by
    have l := int_weight (h z (List.mem_cons_self ..))
    have n6 : z.cps.size ≤ 6 := (name_len (hn z (List.mem_cons_self ..))).2
    have ih := ints_weight (fun q hq => hn q (List.mem_cons_of_mem _ hq)) fun q hq => h q (List.mem_cons_of_mem _ hq)
    show z.cps.size + PyData.weight (.int (val z)) + 2 + PyData.weightKv (intsD r val) ≤ 260 * (r.length + 1)
    omega
/-- a dict of few names and ints can be shown -/
theorem ints_shown {val : Str → Int} {ns : List Str} (hn : ∀ z ∈ ns, nameB z = true) (h : ∀ z ∈ ns, (val z).natAbs < 2 ^ 250) (hl : ns.length ≤ 10) : (PyData.dict (intsD ns val)).showable = true ∧ (PyData.dict (intsD ns val)).depth ≤ 60 ∧ (PyData.dict (intsD ns val)).shown.length ≤ sizeLine := by
  refine ⟨ints_showable h, ?_, ?_⟩
  · show PyData.depthKv (intsD ns val) + 1 ≤ 60
    rw [ints_depth]
    decide
  · have a := PyData.shown_le 300 (by decide) (.dict (intsD ns val)) (ints_short hn h)
    have b := ints_weight hn h
    have e : PyData.weight (.dict (intsD ns val)) = PyData.weightKv (intsD ns val) := rfl
    rw [e] at a
    rw [sizeLine_eq]
    have c : (300 + 2) * PyData.weightKv (intsD ns val) ≤ 302 * 2600 := Nat.mul_le_mul (by decide) (by omega)
    omega
theorem two_shown {i j : Int} (hi : i.natAbs < 2 ^ 250) (hj : j.natAbs < 2 ^ 250) : (PyData.list [.int i, .int j]).canLay0 = true ∧ (PyData.list [.int i, .int j]).showable = true ∧ (PyData.list [.int i, .int j]).depth ≤ 60 ∧ (PyData.list [.int i, .int j]).shown.length ≤ sizeLine := by
  refine ⟨rfl, ?_, by show 1 ≤ 60; decide, ?_⟩
  · have l := log2_small hi
    have l2 := log2_small hj
    show (decide (i.natAbs.log2 < 1920) && (decide (j.natAbs.log2 < 1920) && true)) = true
    rw [decide_eq_true (by omega : i.natAbs.log2 < 1920), decide_eq_true (by omega : j.natAbs.log2 < 1920)]
    rfl
  · have s : PyData.leavesShort 300 (.list [.int i, .int j]) = true := by
      show (decide ((PyData.shown (.int i)).length ≤ 300) && (decide ((PyData.shown (.int j)).length ≤ 300) && true)) = true
      rw [decide_eq_true (int_shown hi), decide_eq_true (int_shown hj)]
      rfl
    have a := PyData.shown_le 300 (by decide) _ s
    have e : PyData.weight (.list [.int i, .int j]) = PyData.weight (.int i) + 1 + (PyData.weight (.int j) + 1 + 0) := rfl
    have b1 := int_weight hi
    have b2 := int_weight hj
    rw [e] at a
    rw [sizeLine_eq]
    omega
end LC
namespace LC
open PySem PySem.Spec PyProof.Rows L2
def topS (i : Nat) : Stmt := PySem.Challenge.pw_leastcode_k04_values_of_sums.main.body.getD i (.Pass ⟨0, 0, 0, 0⟩)
structure Txt (mg : Str → Option Value) : Prop where
  n_len : mg "len" = none
  n_int : mg "int" = none
  n_list : mg "list" = none
  n_abs : mg "abs" = none
  n_min : mg "min" = none
  n_range : mg "range" = none
  n_tuple : mg "tuple" = none
  n_str : mg "str" = none
  n_bool : mg "bool" = none
  n_isinstance : mg "isinstance" = none
  n_all : mg "all" = none
  n_enumerate : mg "enumerate" = none
  n_dict : mg "dict" = none
  n_repr : mg "repr" = none
  g_MOST_LETTERS : ∃ t, mg "MOST_LETTERS" = some (.int 6 t)
  g_MOST_FACTOR : ∃ t, mg "MOST_FACTOR" = some (.int 999999 t)
  g_MOST_TERMS : ∃ t, mg "MOST_TERMS" = some (.int 4 t)
  g_MOST_TERM_NAMES : ∃ t, mg "MOST_TERM_NAMES" = some (.int 3 t)
  g_MOST_UNLIKE : ∃ t, mg "MOST_UNLIKE" = some (.int 3 t)
  g_LETTERS : ∃ t, mg "LETTERS" = some (.str "abcdefghijklmnopqrstuvwxyz" t)
section
variable {P : Program} {w : World} {K : PySem.W.Frag} {mg : Str → Option Value} {base : Heap}
abbrev s_draw : Stmt := topS 33
theorem sc_draw : FnScope ["pen", "many", "digit", "at", "cell", "great", "mixed"] ["pen", "many"] (defScope s_draw) := ⟨rfl, rfl, rfl, by decide +kernel, rfl, by decide +kernel, by decide +kernel⟩
theorem ok_draw {f : Addr} {fd : FuncData} (T : Txt mg) (F : FnP K "_law_draw" s_draw f fd) : FnOk P w K mg base CX0 1 f fd ["pen", "many"] spDraw := by
  have sc := sc_draw
  refine F.ok sc (fun vs H Q E h => ?_) (fun cdv A outer s H vs Q E hr h => ?_)
  · obtain ⟨p, c, n, m, rfl, _⟩ := h
    rfl
  · obtain ⟨p, c, n, m, rfl, hP, hn, hm, hm2, q⟩ := h
    refine ⟨_, PSs.nox
     (pss_cons (ps_if (pt_cmpR op_gt (pe_ix ix_list (pv 0) pe_int (fun _ _ => rfl)) pe_int (nomark _))
  (pss_cons (ps_set (i := 2) sc.nd rfl (.inl rfl) (pe_op op_modN (pe_callTy call_int1 (by rfl) T.n_int (by decide +kernel) (pa_cons (pe_ix ix_list (pv 0) pe_int (fun _ _ => rfl)) pa_nil)) (pv 1)))
  (pss_cons (ps_asg (pe_op op_fdivW (pe_callTy call_int1 (by rfl) T.n_int (by decide +kernel) (pa_cons (pe_ix ix_list (pv 0) pe_int (fun _ _ => rfl)) pa_nil)) (pv 1)) (pg_sub (pv 0) pe_int set_list))
  (pss_one (ps_ret (pv 2)))))
  pss_nil)
(pss_cons (ps_set (i := 3) sc.nd rfl (.inl rfl) (pe_ix ix_list (pv 0) pe_int (fun _ _ => rfl)))
(pss_cons (ps_asg (pe_op op_add (pv 3) pe_int) (pg_sub (pv 0) pe_int set_list))
(pss_cons (ps_set (i := 4) sc.nd rfl (.inl rfl) (pe_op op_add (pe_op op_mul pe_int (pv 3)) pe_int))
(Evl.pss_cut (ps_if (pt_cmpR (op_neD hr.units) (pe_ix ix_list (pv 0) pe_int (fun _ _ => rfl)) (pe_lst pa_nil) (nomark _))
  (pss_one (ps_set (i := 4) sc.nd rfl (.inl rfl) (pe_ix ix_list (pe_ix ix_list (pv 0) pe_int (fun _ _ => rfl)) (pe_op op_modN (pe_callTy call_int1 (by rfl) T.n_int (by decide +kernel) (pa_cons (pv 3) pa_nil)) (pe_callB call_len (by rfl) T.n_len (by decide +kernel) (pa_cons (pe_ix ix_list (pv 0) pe_int (fun _ _ => rfl)) pa_nil))) (fun _ _ => rfl))))
  pss_nil)
(Evl.pss_cut (ps_if (PW.pt (pw_and (pt_cmpR op_lt (pv 3) (pe_callB call_len (by rfl) T.n_len (by decide +kernel) (pa_cons (pe_ix ix_list (pv 0) pe_int (fun _ _ => rfl)) pa_nil)) (nomark _)) (pw_and1 (pt_cmpR op_ge (pe_callB call_abs (by rfl) T.n_abs (by decide +kernel) (pa_cons (pv 4) pa_nil)) (pe_op op_pow pe_int pe_int) (nomark _)))))
  (pss_cons (ps_set (i := 5) sc.nd rfl (.inl rfl) (pe_op op_add (pe_op op_mul pe_int (pe_op op_sub (pe_callB call_abs (by rfl) T.n_abs (by decide +kernel) (pa_cons (pv 4) pa_nil)) (pe_op op_pow pe_int pe_int))) (pe_callTy call_int1 (by rfl) T.n_int (by decide +kernel) (pa_cons (pe_cmpR op_lt (pv 4) pe_int (nomark _)) pa_nil))))
  (pss_cons (ps_asg (pe_op op_fdivW (pe_callTy call_int1 (by rfl) T.n_int (by decide +kernel) (pa_cons (pv 5) pa_nil)) (pv 1)) (pg_sub (pv 0) pe_int set_list))
  (pss_one (ps_ret (pe_op op_modN (pe_callTy call_int1 (by rfl) T.n_int (by decide +kernel) (pa_cons (pv 5) pa_nil)) (pv 1))))))
  pss_nil)
(pss_cons (ps_set (i := 6) sc.nd rfl (.inl rfl) (pe_op op_modN (pe_callTy call_int1 (by rfl) T.n_int (by decide +kernel) (pa_cons (pe_op op_pow (pe_op op_add (pe_op op_add (pe_op op_modN (pe_callTy call_int1 (by rfl) T.n_int (by decide +kernel) (pa_cons (pv 4) pa_nil)) pe_int) (pe_op op_mul pe_int (pv 3))) pe_int) pe_int) pa_nil)) pe_int))
(pss_cons (ps_set (i := 6) sc.nd rfl (.inl rfl) (pe_op op_modN (pe_callTy call_int1 (by rfl) T.n_int (by decide +kernel) (pa_cons (pe_op op_pow (pe_op op_add (pe_op op_add (pe_op op_mul (pv 6) (pe_op op_add (pe_op op_mul pe_int (pv 3)) pe_int)) (pe_op op_mul (pe_op op_mul pe_int (pv 3)) (pv 3))) pe_int) pe_int) pa_nil)) pe_int))
(pss_one (ps_ret (pe_op op_modN (pe_callTy call_int1 (by rfl) T.n_int (by decide +kernel) (pa_cons (pe_op op_fdivW (pv 6) pe_int) pa_nil)) (pv 1)))))))))))), ?_⟩
    obtain ⟨ns, i, g, hp, hc, hl, hi, hi2⟩ := hP.ex
    have hpc : c ≠ p := ne_of hc hp (by
      intro z
      have z2 : ns.map V.int = [.ref c, .int i, .int g] := HO.lst.inj z
      cases ns with
      | nil => cases z2
      | cons a r => cases z2)
    -- if pen[2] > 0
    refine ⟨.ref p, rfl, p, _, 2, .int g, rfl, rfl, .of hp, rfl, g, 0, rfl, rfl, _, rfl, iteD (fun e1 => ?_) (fun e1 => ?_)⟩
    · have b1 := fmod_bounds (i := g) hm
      -- digit = int(pen[2]) % many
      refine ⟨.ref p, rfl, p, _, 2, .int g, rfl, rfl, .of hp, rfl, .inl ⟨g, rfl, .int m, rfl, g, m, rfl, rfl, by omega, ?_⟩⟩
      -- pen[2] = int(pen[2]) // many
      refine ⟨.ref p, rfl, p, _, 2, .int g, rfl, rfl, .of hp, rfl, .inl ⟨g, rfl, .int m, rfl, g, m, rfl, rfl, wide_div hm hm2 (by decide) (by decide), ?_⟩⟩
      refine ⟨.ref p, rfl, p, _, 2, 2, rfl, rfl, hp, rfl, ?_⟩
      refine ⟨.int (g.fmod m), rfl, q _ _ b1.1 b1.2 .set ⟨ns, i, g / m, upd_same, ?_, hl, hi, by omega⟩⟩
      rw [upd_ne hpc]
      exact hc
    · -- at = pen[1]; pen[1] = at + 1
      refine ⟨.ref p, rfl, p, _, 1, .int i, rfl, rfl, .of hp, rfl, ?_⟩
      refine ⟨.int i, rfl, i, 1, rfl, rfl, .ref p, rfl, p, _, 1, 1, rfl, rfl, hp, rfl, ?_⟩
      generalize hH : upd H p _ = H1
      have hp1 : H1 p = some (.lst [.ref c, .int (i + 1), .int g]) := by
        rw [← hH]
        exact upd_same
      have hc1 : H1 c = some (.lst (ns.map V.int)) := by
        rw [← hH, upd_ne hpc]
        exact hc
      have k1 : But p H H1 := by
        rw [← hH]
        exact .set
      -- cell = 8969 * at + 733
      refine ⟨.int i, rfl, 8969, i, rfl, rfl, .inl ⟨by decide, by decide⟩, 8969 * i, 733, rfl, rfl, ?_⟩
      -- if pen[0] != []: behind it the cell is some number
      refine ⟨fun σ' H' => Same H1 H' ∧ ∃ x : Int, σ' = [some (.ref p), some (.int m), none, some (.int i), some (.int x), none, none], ?_, ?_⟩
      · refine ⟨.ref p, rfl, p, _, 0, .ref c, rfl, rfl, .of hp1, rfl, Nat.zero_le _, fun o no => ?_⟩
        generalize hH2 : upd H1 o _ = H2
        have ho2 : H2 o = some (.lst []) := by
          rw [← hH2]
          exact upd_same
        have s2 : Same H1 H2 := by
          rw [← hH2]
          exact same_new no
        have hp2 := s2 _ _ hp1
        have hc2 := s2 _ _ hc1
        refine ⟨.list (ns.map PyData.int), .list [], .lst (.of hc2) (dpAll_ints ns), .lst (.of ho2) .nil, shaped_ints ns, rfl, _, rfl, ?_⟩
        cases ns with
        | nil => 
          refine iteF ?_
          exact ⟨s2, _, rfl⟩
        | cons z zs =>
          refine iteT ?_
          have hz : (0 : Int) < ((((z :: zs).map V.int).length : Nat) : Int) := by
            rw [List.length_map]
            show (0 : Int) < ((zs.length + 1 : Nat) : Int)
            omega
          have b1 := fmod_bounds (i := i) hz
          obtain ⟨x, ha, _⟩ := atI_int b1.1 b1.2
          exact ⟨.ref p, rfl, p, _, 0, .ref c, rfl, rfl, .of hp2, rfl, .int i, rfl, .inl ⟨i, rfl, .ref p, rfl, p, _, 0, .ref c, rfl, rfl, .of hp2, rfl, .ref c, _, rfl, .inl ⟨_, .of hc2, rfl⟩, i, _, rfl, rfl, Int.ne_of_gt hz, c, _, _, _, rfl, rfl, .of hc2, ha, s2, _, rfl⟩⟩
      · rintro σ' H2 ⟨s2, x, rfl⟩
        have hp2 := s2 _ _ hp1
        have hc2 := s2 _ _ hc1
        have k2 : But p H H2 := k1.trans (.same s2)
        have pen2 : Pen H2 p c (n + 1) := ⟨ns, i + 1, g, hp2, hc2, hl, by omega, by omega⟩
        -- the last rows, the cell mixed
        have b3 : ∀ y : Int, 0 ≤ y → y < 2 ^ 60 → y.natAbs < 2 ^ 64 := fun y h0 h1 => natAbs_lt_pow h0 (Int.lt_trans h1 (by decide))
        have i5 : i ≤ 100000 := by omega
        have cm := fmod_bounds (i := x) (m := 2147483563) (by decide)
        have h53 : 53819 * i ≤ 53819 * 100000 := by omega
        have M1 := fmod_bounds (i := (x.fmod 2147483563 + 53819 * i + 61) ^ (5 : Int).toNat) (m := 2147483549) (by decide)
        generalize hM1 : ((x.fmod 2147483563 + 53819 * i + 61) ^ (5 : Int).toNat).fmod 2147483549 = y at M1
        have P1 : 0 ≤ y * (2 * i + 71) := Int.mul_nonneg M1.1 (by omega)
        have P2 : y * (2 * i + 71) ≤ 2147483549 * 200071 := Int.mul_le_mul (by omega) (by omega) (by omega) (by decide)
        have P3 : 0 ≤ 50971 * i * i := Int.mul_nonneg (by omega) (by omega)
        have P4 : 50971 * i * i ≤ 5097100000 * 100000 := Int.mul_le_mul (by omega) (by omega) (by omega) (by decide)
        have M2 := fmod_bounds (i := (y * (2 * i + 71) + 50971 * i * i + 37) ^ (3 : Int).toNat) (m := 2147483629) (by decide)
        -- if at < len(pen[0]) and abs(cell) >= 10 ** 18
        refine ⟨fun σ' H' => H' = H2 ∧ σ' = [some (.ref p), some (.int m), none, some (.int i), some (.int x), none, none], ?_, ?_⟩
        · refine ⟨.int i, rfl, .ref p, rfl, p, _, 0, .ref c, rfl, rfl, .of hp2, rfl, .ref c, _, rfl, .inl ⟨_, .of hc2, rfl⟩, _, _, rfl, rfl, _, rfl, iteD (fun e2 => ?_) (fun e2 => ?_)⟩
          · refine ⟨.int x, rfl, x, rfl, 10, 18, rfl, rfl, ⟨by decide, by decide, by decide⟩, _, _, rfl, rfl, _, rfl, iteD (fun e3 => ?_) (fun e3 => ?_)⟩
            · -- great
              refine ⟨.int x, rfl, x, rfl, 10, 18, rfl, rfl, ⟨by decide, by decide, by decide⟩, _, _, rfl, rfl, _, _, rfl, rfl, .inl ⟨by decide, by decide⟩, .int x, rfl, x, 0, rfl, rfl, .inr ⟨_, rfl, _, _, rfl, rfl, ?_⟩⟩
              dsimp only
              generalize 2 * ((if x < 0 then -x else x) - 10 ^ (18 : Int).toNat) + (if decide (x < 0) = true then 1 else 0) = gr
              have b5 := fmod_bounds (i := gr) hm
              refine ⟨.int gr, rfl, .inl ⟨gr, rfl, .int m, rfl, gr, m, rfl, rfl, wide_div hm hm2 (by decide) (by decide), ?_⟩⟩
              refine ⟨.ref p, rfl, p, _, 2, 2, rfl, rfl, hp2, rfl, ?_⟩
              refine ⟨.int gr, rfl, .inl ⟨gr, rfl, .int m, rfl, gr, m, rfl, rfl, Int.ne_of_gt hm, ?_⟩⟩
              refine q _ _ b5.1 b5.2 (k2.trans .set) ⟨ns, i + 1, gr / m, upd_same, ?_, hl, by omega, by omega⟩
              rw [upd_ne hpc]
              exact hc2
            · exact ⟨rfl, rfl⟩
          · exact iteF ⟨rfl, rfl⟩
        · rintro σ' H' ⟨rfl, rfl⟩
          refine ⟨.int x, rfl, .inl ⟨x, rfl, x, _, rfl, rfl, (by show ¬ (2147483563 : Int) = 0; decide), .int i, rfl, _, _, rfl, rfl, .inl ⟨by decide, by decide⟩, _, _, rfl, rfl, _, _, rfl, rfl, _, _, rfl, rfl, ⟨by decide, by decide, ?_⟩, .inl ⟨_, rfl, _, _, rfl, rfl, (by show ¬ (2147483549 : Int) = 0; decide), ?_⟩⟩⟩
          · exact b3 _ (by omega) (by omega)
          dsimp only
          rw [hM1]
          refine ⟨.int y, rfl, .int i, rfl, _, _, rfl, rfl, .inl ⟨by decide, by decide⟩, _, _, rfl, rfl, _, _, rfl, rfl, .inl ⟨by omega, by omega⟩, .int i, rfl, _, _, rfl, rfl, .inl ⟨by decide, by decide⟩, .int i, rfl, _, _, rfl, rfl, .inl ⟨by omega, by omega⟩, _, _, rfl, rfl, _, _, rfl, rfl, _, _, rfl, rfl, ⟨by decide, by decide, ?_⟩, .inl ⟨_, rfl, _, _, rfl, rfl, (by show ¬ (2147483629 : Int) = 0; decide), ?_⟩⟩
          · exact b3 _ (by omega) (by omega)
          have b6 := fmod_bounds (i := ((y * (2 * i + 71) + 50971 * i * i + 37) ^ (3 : Int).toNat).fmod 2147483629 / 16) hm
          refine ⟨_, rfl, _, _, rfl, rfl, wide_div (b := 5) (by decide) (by decide) (by decide) (by decide), .inl ⟨_, rfl, .int m, rfl, _, _, rfl, rfl, Int.ne_of_gt hm, ?_⟩⟩
          exact q _ _ b6.1 b6.2 k2 pen2
end
end LC
namespace LC
open PySem PySem.Spec PyProof.Rows L2
section
variable {P : Program} {w : World} {K : PySem.W.Frag} {mg : Str → Option Value} {base : Heap}
abbrev s_pick : Stmt := topS 34
theorem sc_pick : FnScope ["pen", "some"] ["pen", "some"] (defScope s_pick) := ⟨rfl, rfl, rfl, by decide +kernel, rfl, by decide +kernel, by decide +kernel⟩
theorem ok_pick {f : Addr} {fd : FuncData} (T : Txt mg) (F : FnP K "_law_pick" s_pick f fd) (c__law_draw : Cal P w K mg base CX0 1 "_law_draw" ["pen", "many"] spDraw) : FnOk P w K mg base CX0 2 f fd ["pen", "some"] spPick := by
  have sc := sc_pick
  refine F.ok sc (fun vs H Q E h => ?_) (fun cdv A outer s H vs Q E hr h => ?_)
  · obtain ⟨p, c, n, l, xs, rfl, _⟩ := h
    rfl
  · obtain ⟨p, c, n, l, xs, rfl, hP, hn, hl, hlp, h0, h1, q⟩ := h
    refine ⟨_, PSs.nox (pss_one (ps_ret (pe_ix ix_list (pv 1) (pe_cal c__law_draw hr (by rfl) pass0 (pa_cons (pv 0) (pa_cons (pe_callB call_len (by rfl) T.n_len (by decide +kernel) (pa_cons (pv 1) pa_nil)) pa_nil))) (fun _ _ => rfl)))), ?_⟩
    refine ⟨.ref l, rfl, .ref p, rfl, .ref l, rfl, .ref l, _, rfl, .inl ⟨_, .of hl, rfl⟩, p, c, n, _, rfl, hP, hn, by omega, small_pow (by omega) (by omega), fun d H' d0 d1 k pen => ?_⟩
    obtain ⟨v, e, m⟩ := atI_in d0 d1
    exact ⟨l, xs, d, v, rfl, rfl, k.sql hl hlp, e, q v H' m k pen⟩
abbrev s_some : Stmt := topS 35
theorem sc_some : FnScope ["pen", "pool", "least", "most", "left", "many", "lap"] ["pen", "pool", "least", "most"] (defScope s_some) := ⟨rfl, rfl, rfl, by decide +kernel, rfl, by decide +kernel, by decide +kernel⟩
theorem ok_some {f : Addr} {fd : FuncData} (T : Txt mg) (F : FnP K "_law_some" s_some f fd) (c__law_draw : Cal P w K mg base CX0 1 "_law_draw" ["pen", "many"] spDraw) : FnOk P w K mg base CX0 2 f fd ["pen", "pool", "least", "most"] spSome := by
  have sc := sc_some
  refine F.ok sc (fun vs H Q E h => ?_) (fun cdv A outer s H vs Q E hr h => ?_)
  · obtain ⟨p, c, n, l, xs, a, b, rfl, _⟩ := h
    rfl
  · obtain ⟨p, c, n, l, xs, a, b, rfl, hP, hl, hlp, h1, ha, hab, hax, hn, q⟩ := h
    refine ⟨_, PSs.nox (pss_cons (ps_set (i := 4) sc.nd rfl (.inr rfl) (pe_callTy call_list_of (by rfl) T.n_list (by decide +kernel) (pa_cons (pv 1) pa_nil)))
(pss_cons (ps_set (i := 5) sc.nd rfl (.inl rfl) (pe_op op_add (pv 2) (pe_cal c__law_draw hr (by rfl) pass0 (pa_cons (pv 0) (pa_cons (pe_op op_add (pe_op op_sub (pe_callB (call_min2 rfl) (by rfl) T.n_min (by decide +kernel) (pa_cons (pv 3) (pa_cons (pe_callB call_len (by rfl) T.n_len (by decide +kernel) (pa_cons (pv 1) pa_nil)) pa_nil))) (pv 2)) pe_int) pa_nil)))))
(pss_one (ps_ret (pe_lc (own := [("lap", 6)]) (g := (gName 6)) (te := (tBM K "list" rPopAt (tVar 4) (tCons (tCal spDraw E0 (tCons (tVar 0) (tCons (tCB (fun xs H Q => ∃ x n, xs = [x] ∧ LenV K x H n ∧ Q (.int n) H) (tCons (tVar 4) tNil)) tNil))) tNil))) (tt := tYes) rfl sc.nd (pi_range1 rfl T.n_range (pa_cons (pv 5) pa_nil)) (blkOk_by (N := ["pen", "pool", "least", "most", "left", "many", "lap"]) (sc := defScope s_some) (by decide +kernel)) (fun _ _ _ _ _ => by exact (pg_name (i := 6) sc.nd rfl (.inl rfl))) (fun _ _ _ _ _ => by exact pts_nil) (fun _ _ _ _ _ => by exact (pe_bm PySem.F.plainAttrs_list PySem.F.slot_list_pop PySem.F.type_list_pop mt_popAt (pv 4) (pa_cons (pe_cal c__law_draw hr (by rfl) pass0 (pa_cons (pv 0) (pa_cons (pe_callB call_len (by rfl) T.n_len (by decide +kernel) (pa_cons (pv 4) pa_nil)) pa_nil))) pa_nil)))))))), ?_⟩
    -- left = list(pool)
    refine ⟨.ref l, rfl, l, xs, rfl, .inl (.of hl), fun lf nlf => ?_⟩
    have hlfp : lf ≠ p := hP.newP nlf
    have hlfc : lf ≠ c := hP.newC nlf
    generalize hH1 : upd H lf _ = H1
    have s1 : Same H H1 := by
      rw [← hH1]
      exact same_new nlf
    have hlf : H1 lf = some (.lst xs) := by
      rw [← hH1]
      exact upd_same
    -- many = least + ..
    have hm0 : (0 : Int) < (if ((xs.length : Nat) : Int) < b then ((xs.length : Nat) : Int) else b) - a + 1 := by
      split <;> omega
    have hm1 : (if ((xs.length : Nat) : Int) < b then ((xs.length : Nat) : Int) else b) - a + 1 ≤ b - a + 1 ∧ (if ((xs.length : Nat) : Int) < b then ((xs.length : Nat) : Int) else b) - a + 1 ≤ xs.length - a + 1 := by
      constructor <;> (split <;> omega)
    refine ⟨.int a, rfl, .ref p, rfl, .int b, rfl, .ref l, rfl, .ref l, _, rfl, .inl ⟨_, .of (s1 _ _ hl), rfl⟩, _, _, rfl, .int a, rfl, _, _, rfl, rfl, _, _, rfl, rfl, p, c, n, _, rfl, hP.same s1, by omega, hm0, small_pow (by omega) (by omega), fun d H2 d0 d1 k2 pen2 => ?_⟩
    refine ⟨_, _, rfl, rfl, ?_⟩
    have hlf2 := k2 _ _ hlfp hlf
    -- [left.pop(..) for lap in range(many)]
    refine ⟨.int (a + d), rfl, a + d, rfl, by omega, by omega, fun D nD => ?_⟩
    have hDp : D ≠ p := pen2.newP nD
    have hDc : D ≠ c := pen2.newC nD
    have hDlf : D ≠ lf := new_ne hlf2 nD
    have nD0 : H D = none := by
      have z := k2.free hDp nD
      exact s1.free z
    refine lc_range (n := (a + d).toNat) (fun i H' => ∃ ys zs : List V, H' D = some (.lst ys) ∧ H' lf = some (.lst zs) ∧ (ys ++ zs).Perm xs ∧ ys.length = i ∧ But p H H' ∧ Pen H' p c (n + 1 + i)) ?_ ?_ ?_
    · refine ⟨[], xs, upd_same, ?_, List.Perm.refl _, rfl, ?_, pen2.new nD⟩
      · rw [upd_ne hDlf.symm]
        exact hlf2
      · exact ((But.same s1).trans k2).trans (.new nD)
    · rintro i H' hi ⟨ys, zs, hD, hl', pm, hlen, k', pen'⟩
      have pl := pm.length_eq
      rw [List.length_append] at pl
      have hz : 0 < zs.length := by omega
      refine ⟨rfl, tyes_of ?_⟩
      refine ⟨.ref lf, rfl, .inl ⟨rfl, _, .inl (.inl hl')⟩, .ref p, rfl, .ref lf, rfl, .ref lf, _, rfl, .inl ⟨_, .of hl', rfl⟩, p, c, n + 1 + i, _, rfl, pen', by omega, by omega, small_pow (by omega) (by omega), fun e H3 e0 e1 k3 pen3 => ?_⟩
      have hlf3 := k3 _ _ hlfp hl'
      have hD3 := k3 _ _ hDp hD
      have he : e.toNat < zs.length := by omega
      refine ⟨lf, zs, e, e.toNat, zs[e.toNat], rfl, rfl, hlf3, by omega, by omega, ?_, List.getElem?_eq_getElem he, ?_⟩
      · exact seqIndex_of e0 e1
      · refine ⟨ys, ?_, sz_lt (by omega), ys ++ [zs[e.toNat]], zs.eraseIdx e.toNat, upd_same, ?_, ?_, ?_, ?_, ?_⟩
        · rw [upd_ne hDlf]
          exact hD3
        · rw [upd_ne hDlf.symm, upd_same]
        · refine List.Perm.trans ?_ pm
          rw [List.append_assoc]
          exact List.Perm.append_left _ (erase_perm he)
        · rw [List.length_append, hlen]
          rfl
        · exact ((k'.trans k3).mut nlf).mut nD0
        · exact (pen3.mut hlfp hlfc).mut hDp hDc
    · rintro H' ⟨ys, zs, hD, hl', pm, hlen, k', pen'⟩
      refine q D ys zs H' pm (by omega) (by omega) nD0 hD hDp k' ?_
      rw [hlen]
      exact pen'
end
end LC
namespace LC
open PySem PySem.Spec PyProof.Rows L2
def pool1 : List Str := ["a", "b", "c", "d", "e", "f", "g"]
def pool2 : List Str := ["x", "xy", "xyz", "xyzz", "xyzzz", "xyzzzz", "y"]
def pool3 : List Str := ["tell", "loop", "end", "given", "fixed", "r", "x"]
def pool4 : List Str := ["zzzzzz", "aaaaaa", "azazaz", "z", "zz", "store", "result"]
theorem pools_ok : ∀ q ∈ [pool1, pool2, pool3, pool4], q.Nodup ∧ (∀ t ∈ q, nameB t = true) ∧ q.length = 7 := by decide +kernel
section
variable {P : Program} {w : World} {K : PySem.W.Frag} {mg : Str → Option Value} {base : Heap}
abbrev s_names : Stmt := topS 36
theorem sc_names : FnScope ["pen", "many", "pools"] ["pen", "many"] (defScope s_names) := ⟨rfl, rfl, rfl, by decide +kernel, rfl, by decide +kernel, by decide +kernel⟩
theorem ok_names {f : Addr} {fd : FuncData} (T : Txt mg) (F : FnP K "_law_names" s_names f fd) (c__law_pick : Cal P w K mg base CX0 2 "_law_pick" ["pen", "some"] spPick) (c__law_some : Cal P w K mg base CX0 2 "_law_some" ["pen", "pool", "least", "most"] spSome) :
    FnOk P w K mg base CX0 3 f fd ["pen", "many"] spNames := by
  have sc := sc_names
  refine F.ok sc (fun vs H Q E h => ?_) (fun cdv A outer s H vs Q E hr h => ?_)
  · obtain ⟨p, c, n, m, rfl, _⟩ := h
    rfl
  · obtain ⟨p, c, n, m, rfl, hP, hn, h0, h7, q⟩ := h
    refine ⟨_, PSs.nox (pss_cons (ps_set (i := 2) sc.nd rfl (.inl rfl) (pe_lst (pa_cons (pe_lst (pa_cons pe_str (pa_cons pe_str (pa_cons pe_str (pa_cons pe_str (pa_cons pe_str (pa_cons pe_str (pa_cons pe_str pa_nil)))))))) (pa_cons (pe_lst (pa_cons pe_str (pa_cons pe_str (pa_cons pe_str (pa_cons pe_str (pa_cons pe_str (pa_cons pe_str (pa_cons pe_str pa_nil)))))))) pa_nil))))
(pss_cons (ps_expr (pe_bm PySem.F.plainAttrs_list PySem.F.slot_list_append PySem.F.type_list_append mt_append (pv 2) (pa_cons (pe_lst (pa_cons pe_str (pa_cons pe_str (pa_cons pe_str (pa_cons pe_str (pa_cons pe_str (pa_cons pe_str (pa_cons pe_str pa_nil)))))))) pa_nil)))
(pss_cons (ps_expr (pe_bm PySem.F.plainAttrs_list PySem.F.slot_list_append PySem.F.type_list_append mt_append (pv 2) (pa_cons (pe_lst (pa_cons pe_str (pa_cons pe_str (pa_cons pe_str (pa_cons pe_str (pa_cons pe_str (pa_cons pe_str (pa_cons pe_str pa_nil)))))))) pa_nil)))
(pss_one (ps_ret (pe_cal c__law_some hr (by rfl) pass0 (pa_cons (pv 0) (pa_cons (pe_cal c__law_pick hr (by rfl) pass0 (pa_cons (pv 0) (pa_cons (pv 2) pa_nil))) (pa_cons (pv 1) (pa_cons (pv 1) pa_nil)))))))))), ?_⟩
    -- pools
    refine ⟨szn 7, alloc_of fun l1 H1 n1 s1 e1 => ⟨szn 7, alloc_of fun l2 H2 n2 s2 e2 => ⟨szn 2, alloc_of fun l0 H3 n0 s3 e0 => ?_⟩⟩⟩
    refine ⟨.ref l0, rfl, .inl ⟨rfl, _, .inl (.inl e0)⟩, szn 7, alloc_of fun l3 H4 n3 s4 e3 => ?_⟩
    refine ⟨l0, _, _, rfl, rfl, s4 _ _ e0, by show 2 < sizeLine; decide, set_of fun H5 k5 e5 => ?_⟩
    refine ⟨.ref l0, rfl, .inl ⟨rfl, _, .inl (.inl e5)⟩, szn 7, alloc_of fun l4 H6 n4 s6 e4 => ?_⟩
    refine ⟨l0, _, _, rfl, rfl, s6 _ _ e5, by show 3 < sizeLine; decide, set_of fun H7 k7 e7 => ?_⟩
    have x1 : l1 ≠ l0 := (new_ne (s2 _ _ e1) n0).symm
    have x2 : l2 ≠ l0 := (new_ne e2 n0).symm
    have x3 : l3 ≠ l0 := new_ne e0 n3
    have x4 : l4 ≠ l0 := new_ne e5 n4
    have f1 := k7 _ _ x1 (s6 _ _ (k5 _ _ x1 (s4 _ _ (s3 _ _ (s2 _ _ e1)))))
    have f2 := k7 _ _ x2 (s6 _ _ (k5 _ _ x2 (s4 _ _ (s3 _ _ e2))))
    have f3 := k7 _ _ x3 (s6 _ _ (k5 _ _ x3 e3))
    have f4 := k7 _ _ x4 e4
    have P3 := ((hP.same s1).same s2).same s3
    have h0p : l0 ≠ p := ((hP.same s1).same s2).newP n0
    have h0c : l0 ≠ c := ((hP.same s1).same s2).newC n0
    have P7 := (((P3.same s4).but k5 h0p h0c).same s6).but k7 h0p h0c
    have m0 : H l0 = none := s1.free (s2.free n0)
    have K7 : But p H H7 := ((((((But.same s1).trans (.same s2)).trans (.same s3)).trans (.same s4)).more m0 k5).trans (.same s6)).more m0 k7
    have h1p : l1 ≠ p := hP.newP n1
    have h2p : l2 ≠ p := (hP.same s1).newP n2
    have h3p : l3 ≠ p := P3.newP n3
    have h4p : l4 ≠ p := ((P3.same s4).but k5 h0p h0c).newP n4
    -- _law_some(pen, _law_pick(pen, pools), many, many)
    refine ⟨.ref p, rfl, .ref p, rfl, .ref l0, rfl, p, c, n, l0, _, rfl, P7, by omega, e7, h0p, by show 0 < 4; decide, by show 4 ≤ 1000; decide, fun v H8 hv k8 P8 => ?_⟩
    have K8 := K7.trans k8
    have fin : ∀ (l : Addr) (pool : List Str), v = .ref l → pool ∈ [pool1, pool2, pool3, pool4] → H7 l = some (.lst (pool.map V.str)) → l ≠ p → spSome [.ref p, v, .int m, .int m] H8 Q E0 := by
      intro l pool ev hpool fl hlp
      obtain ⟨nd, ok, len⟩ := pools_ok pool hpool
      subst ev
      refine ⟨p, c, n + 1, l, _, m, m, rfl, P8, k8 _ _ hlp fl, hlp, ?_, h0, Int.le_refl _, ?_, ?_, fun r ys zs H9 pm a1 a2 nr er hr k9 P9 => ?_⟩
      · rw [List.length_map, len]
        decide
      · rw [List.length_map, len]
        exact h7
      · rw [List.length_map, len]
        omega
      · obtain ⟨ts, ey, nd2, mem⟩ := some_strs pm nd
        subst ey
        rw [List.length_map] at a1 a2 P9
        exact q r ts H9 nd2 (fun t ht => ok t (mem t ht)) (by omega) (K8.free hr nr) er hr (K8.trans k9) (P9.mono (by omega))
    refine ⟨.int m, rfl, .int m, rfl, ?_⟩
    have hv' : v = .ref l1 ∨ v = .ref l2 ∨ v = .ref l3 ∨ v = .ref l4 := by
      have z : v ∈ [V.ref l1, V.ref l2, V.ref l3, V.ref l4] := hv
      simpa using z
    rcases hv' with e | e | e | e
    · exact fin l1 pool1 e (by decide) f1 h1p
    · exact fin l2 pool2 e (by decide) f2 h2p
    · exact fin l3 pool3 e (by decide) f3 h3p
    · exact fin l4 pool4 e (by decide) f4 h4p
end
end LC
namespace LC
open PySem PySem.Spec PyProof.Rows L2
section
variable {P : Program} {w : World} {K : PySem.W.Frag} {mg : Str → Option Value} {base : Heap}
abbrev s_factor : Stmt := topS 37
theorem sc_factor : FnScope ["pen", "menu"] ["pen"] (defScope s_factor) := ⟨rfl, rfl, rfl, by decide +kernel, rfl, by decide +kernel, by decide +kernel⟩
theorem ok_factor {f : Addr} {fd : FuncData} (T : Txt mg) (F : FnP K "_law_factor" s_factor f fd) (c__law_draw : Cal P w K mg base CX0 2 "_law_draw" ["pen", "many"] spDraw) (c__law_pick : Cal P w K mg base CX0 2 "_law_pick" ["pen", "some"] spPick) :
    FnOk P w K mg base CX0 3 f fd ["pen"] spFactor := by
  have sc := sc_factor
  refine F.ok sc (fun vs H Q E h => ?_) (fun cdv A outer s H vs Q E hr h => ?_)
  · obtain ⟨p, c, n, rfl, _⟩ := h
    rfl
  · obtain ⟨p, c, n, rfl, hP, hn, q⟩ := h
    refine ⟨_, PSs.nox (pss_cons (ps_set (i := 1) sc.nd rfl (.inl rfl) (pe_lst (pa_cons pe_int (pa_cons pe_int (pa_cons pe_int (pa_cons (pe_un un_neg pe_int) (pa_cons (pe_un un_neg pe_int) (pa_cons pe_int (pa_cons (pe_un un_neg pe_int) (pa_cons pe_int (pa_cons (pe_un un_neg pe_int) pa_nil)))))))))))
(pss_one (ps_ret (pe_cal c__law_pick hr (by rfl) pass0 (pa_cons (pv 0) (pa_cons (pe_op op_cat (pv 1) (pe_lst (pa_cons (pe_op op_sub (pe_cal c__law_draw hr (by rfl) pass0 (pa_cons (pv 0) (pa_cons pe_int pa_nil))) pe_int) (pa_cons (pe_op op_sub (pe_cal c__law_draw hr (by rfl) pass0 (pa_cons (pv 0) (pa_cons pe_int pa_nil))) pe_int) pa_nil)))) pa_nil)))))), ?_⟩
    refine ⟨_, rfl, _, rfl, _, rfl, _, rfl, szn 9, alloc_of fun l H1 n1 s1 e1 => ?_⟩
    have hlp : l ≠ p := hP.newP n1
    refine ⟨.ref p, rfl, .ref l, rfl, .ref p, rfl, p, c, n, _, rfl, hP.same s1, by omega, by decide, by decide, fun d1 H2 a0 a1 k2 P2 => ?_⟩
    refine ⟨_, _, rfl, rfl, .ref p, rfl, p, c, n + 1, _, rfl, P2, by omega, by decide, by decide, fun d2 H3 b0 b1 k3 P3 => ?_⟩
    refine ⟨_, _, rfl, rfl, szn 2, fun l2 n4 => ?_⟩
    generalize hH4 : upd H3 l2 _ = H4
    obtain ⟨s4, e4⟩ := alloc_eq n4 hH4
    have f1 := s4 _ _ (k3 _ _ hlp (k2 _ _ hlp e1))
    refine ⟨l, l2, _, _, rfl, rfl, f1, e4, by show 11 ≤ sizeLine; decide, alloc_of fun l3 H5 n5 s5 e5 => ?_⟩
    have P5 := (P3.same s4).same s5
    refine ⟨p, c, n + 2, l3, _, rfl, P5, by omega, e5, (P3.same s4).newP n5, by show 0 < 11; decide, by show 11 ≤ 1000; decide, fun v H6 hv k6 P6 => ?_⟩
    have K6 : But p H H6 := (((((But.same s1).trans k2).trans k3).trans (.same s4)).trans (.same s5)).trans k6
    have hv' : v ∈ ([.int 0, .int 1, .int 1, .int (-1), .int (-1), .int 2, .int (-2), .int 999999, .int (-999999), .int (d1 - 999999), .int (d2 - 999999)] : List V) := hv
    simp only [List.mem_cons, List.not_mem_nil, or_false] at hv'
    rcases hv' with e | e | e | e | e | e | e | e | e | e | e <;> (subst e; exact q _ H6 (by omega) (by omega) K6 P6)
abbrev s_terms : Stmt := topS 38
theorem sc_terms : FnScope ["pen", "names", "found", "lap", "many", "spot"] ["pen", "names"] (defScope s_terms) := ⟨rfl, rfl, rfl, by decide +kernel, rfl, by decide +kernel, by decide +kernel⟩
theorem ok_terms {f : Addr} {fd : FuncData} (T : Txt mg) (F : FnP K "_law_terms" s_terms f fd) (c__law_draw : Cal P w K mg base CX0 3 "_law_draw" ["pen", "many"] spDraw) (c__law_pick : Cal P w K mg base CX0 3 "_law_pick" ["pen", "some"] spPick)
    (c__law_factor : Cal P w K mg base CX0 3 "_law_factor" ["pen"] spFactor) : FnOk P w K mg base CX0 4 f fd ["pen", "names"] (spTerms K) := by
  have sc := sc_terms
  refine F.ok sc (fun vs H Q E h => ?_) (fun cdv A outer s H vs Q E hr h => ?_)
  · obtain ⟨p, c, n, l, ys, rfl, _⟩ := h
    rfl
  · obtain ⟨p, c, n, l, ys, rfl, hP, hn, hl, hlp, hys, hnm, q⟩ := h
    refine ⟨_, PSs.nox (pss_cons (ps_set (i := 2) sc.nd rfl (.inl rfl) (pe_lst pa_nil))
(pss_cons (ps_for PassesOwn.never rfl (pi_range1 rfl T.n_range (pa_cons (pe_op op_add pe_int (pe_cal c__law_draw hr (by rfl) pass0 (pa_cons (pv 0) (pa_cons pe_int pa_nil)))) pa_nil)) (pg_name (i := 3) sc.nd rfl (.inl rfl))
  (Evl.pss_cut (ps_set (i := 4) sc.nd rfl (.inl rfl) (pe_ifExp (pt_cmpR (op_neD hr.units) (pv 1) (pe_lst pa_nil) (nomark _)) (pe_ix ix_list (pe_lst (pa_cons pe_int (pa_cons pe_int (pa_cons pe_int (pa_cons pe_int (pa_cons pe_int pa_nil)))))) (pe_cal c__law_draw hr (by rfl) pass0 (pa_cons (pv 0) (pa_cons pe_int pa_nil))) (fun _ _ => rfl)) pe_int))
  (pss_one (ps_expr (pe_bm PySem.F.plainAttrs_list PySem.F.slot_list_append PySem.F.type_list_append mt_append (pv 2) (pa_cons (pe_tup (pa_cons (pe_cal c__law_factor hr (by rfl) pass0 (pa_cons (pv 0) pa_nil)) (pa_cons (pe_callTy call_tuple_of (by rfl) T.n_tuple (by decide +kernel) (pa_cons (pe_lc (own := [("spot", 5)]) (g := (gName 5)) (te := (tCal spPick E0 (tCons (tVar 0) (tCons (tVar 1) tNil)))) (tt := tYes) rfl sc.nd (pi_range1 rfl T.n_range (pa_cons (pv 4) pa_nil)) (blkOk_by (N := ["pen", "names", "found", "lap", "many", "spot"]) (sc := defScope s_terms) (by decide +kernel)) (fun _ _ _ _ _ => by exact (pg_name (i := 5) sc.nd rfl (.inl rfl))) (fun _ _ _ _ _ => by exact pts_nil) (fun _ _ _ _ _ => by exact (pe_cal c__law_pick hr (by rfl) pass0 (pa_cons (pv 0) (pa_cons (pv 1) pa_nil))))) pa_nil)) pa_nil))) pa_nil))))))
(pss_one (ps_ret (pv 2))))), ?_⟩
    refine ⟨szn 0, alloc_of fun fo H1 n1 s1 e1 => ?_⟩
    have hfp : fo ≠ p := hP.newP n1
    have hfc : fo ≠ c := hP.newC n1
    refine ⟨.ref p, rfl, p, c, n, _, rfl, hP.same s1, by omega, by decide, by decide, fun d H2 d0 d1 k2 P2 => ?_⟩
    refine ⟨_, _, rfl, rfl, _, rfl, by omega, by omega, ?_⟩
    refine for_range (n := (1 + d).toNat) (fun i σ H' => ∃ (a b : Option V) (us : List V) (ts : List Term), σ = [some (.ref p), some (.ref l), some (.ref fo), a, b, none] ∧ H' fo = some (.lst us) ∧ TermsV K H' us ts ∧ ts.length = i ∧ (∀ t ∈ ts, TermOk ys t) ∧ But p H H' ∧ Pen H' p c (n + 1 + 10 * i)) ?_ ?_ ?_
    · refine ⟨none, none, [], [], rfl, k2 _ _ hfp e1, .nil, rfl, fun t h => (nomatch h), (But.same s1).trans k2, P2⟩
    · rintro i σ H' hi ⟨a, b, us, ts, rfl, hfo, hts, hlen, hok, k', P'⟩
      have hl' := k' _ _ hlp hl
      -- many: behind it some number from 0 to 3, 0 where there are no names
      refine ⟨fun σ' H4 => ∃ z : Int, 0 ≤ z ∧ z ≤ 3 ∧ (z = 0 ∨ ys ≠ []) ∧ σ' = [some (.ref p), some (.ref l), some (.ref fo), some (.int (0 + (i : Int))), some (.int z), none] ∧ But p H' H4 ∧ Pen H4 p c (n + 1 + 10 * i + 1), ?_, ?_⟩
      · refine ⟨.ref l, rfl, szn 0, fun le n4 => ?_⟩
        generalize hH4 : upd H' le _ = H4
        obtain ⟨s4, e4⟩ := alloc_eq n4 hH4
        refine ⟨.list (ys.map PyData.str), .list [], .lst (.of (s4 _ _ hl')) (dpAll_strs ys), .lst (.of e4) .nil, shaped_names ys hnm, rfl, _, rfl, ?_⟩
        cases ys with
        | nil =>
          refine iteF ?_
          exact ⟨0, by decide, by decide, .inl rfl, rfl, .same s4, (P'.same s4).mono (by omega)⟩
        | cons y0 yr =>
          refine iteT ?_
          refine ⟨szn 5, fun l5 n5 => ?_⟩
          generalize hH5 : upd H4 l5 _ = H5
          obtain ⟨s5, e5⟩ := alloc_eq n5 hH5
          have h5 : l5 ≠ p := (P'.same s4).newP n5
          refine ⟨.ref p, rfl, p, c, _, _, rfl, (P'.same s4).same s5, by omega, by decide, by decide, fun e H6 e0 e1 k6 P6 => ?_⟩
          obtain ⟨v, ha, hv⟩ := atI_in (xs := ([.int 0, .int 1, .int 1, .int 2, .int 3] : List V)) e0 e1
          refine ⟨l5, _, e, v, rfl, rfl, k6.sql e5 h5, ha, ?_⟩
          simp only [List.mem_cons, List.not_mem_nil, or_false] at hv
          have K6 : But p H' H6 := ((But.same s4).trans (.same s5)).trans k6
          rcases hv with e | e | e | e | e <;> (subst e; exact ⟨_, by decide, by decide, .inr (List.cons_ne_nil _ _), rfl, K6, P6⟩)
      · rintro σ' H4 ⟨z, z0, z3, hz, rfl, k4, P4⟩
        have hfo4 := k4 _ _ hfp hfo
        obtain ⟨px, hpx⟩ := P'.at_
        -- the factor
        refine ⟨.ref fo, rfl, .inl ⟨rfl, _, .inl (.inl hfo4)⟩, .ref p, rfl, p, c, _, rfl, P4, by omega, fun fa H5 f0 f1 k5 P5 => ?_⟩
        -- the names
        refine ⟨.int z, rfl, z, rfl, by omega, by omega, fun D nD => ?_⟩
        have hDp : D ≠ p := P5.newP nD
        have hDc : D ≠ c := P5.newC nD
        refine lc_range (n := z.toNat) (fun j H6 => ∃ ws : List Str, H6 D = some (.lst (ws.map V.str)) ∧ ws.length = j ∧ (∀ x ∈ ws, x ∈ ys) ∧ But p H5 H6 ∧ Pen H6 p c (n + 1 + 10 * i + 4 + j)) ?_ ?_ ?_
        · exact ⟨[], upd_same, rfl, fun x h => (nomatch h), .new nD, P5.new nD⟩
        · rintro j H6 hj ⟨ws, hD, hw, hin, k6, P6⟩
          refine ⟨rfl, tyes_of ?_⟩
          have hl6 := k6 _ _ hlp (k5 _ _ hlp (k4 _ _ hlp hl'))
          have hy0 : 0 < (ys.map V.str).length := by
            rcases hz with e | e
            · omega
            · rw [List.length_map]
              exact List.length_pos_iff.mpr e
          refine ⟨.ref p, rfl, .ref l, rfl, p, c, _, l, _, rfl, P6, by omega, hl6, hlp, hy0, by rw [List.length_map]; omega, fun v H7 hv k7 P7 => ?_⟩
          obtain ⟨x, hx, rfl⟩ := List.mem_map.mp hv
          have hD7 := k7 _ _ hDp hD
          refine ⟨_, hD7, ?_, ws ++ [x], ?_, ?_, ?_, ?_, ?_⟩
          · rw [List.length_map]
            exact sz_lt (by omega)
          · rw [upd_same, List.map_append]
            rfl
          · rw [List.length_append, hw]
            rfl
          · intro q hq
            rcases List.mem_append.mp hq with hq | hq
            · exact hin q hq
            · rw [List.mem_singleton.mp hq]
              exact hx
          · exact (k6.trans k7).mut nD
          · exact P7.mut hDp hDc
        · rintro H6 ⟨ws, hD, hw, hin, k6, P6⟩
          refine ⟨D, _, rfl, .inl ⟨.of hD, fun tn ntn => ?_⟩⟩
          generalize hH7 : upd H6 tn _ = H7
          obtain ⟨s7, e7⟩ := alloc_eq ntn hH7
          refine ⟨szn 2, fun tt ntt => ?_⟩
          generalize hH8 : upd H7 tt _ = H8
          obtain ⟨s8, e8⟩ := alloc_eq ntt hH8
          have K8 : But p H' H8 := (((k4.trans k5).trans k6).trans (.same s7)).trans (.same s8)
          have hfo8 := K8 _ _ hfp hfo
          have hlen' : us.length = ts.length := hts.length
          refine ⟨fo, us, _, rfl, rfl, hfo8, sz_lt (by omega), ?_⟩
          generalize hH9 : upd H8 fo _ = H9
          have k9 : But fo H8 H9 := by
            rw [← hH9]
            exact .set
          have e9 : H9 fo = some (.lst (us ++ [.ref tt])) := by
            rw [← hH9]
            exact upd_same
          have t8 : TermV K H8 (.ref tt) (fa, ws) := ⟨tt, tn, rfl, .of e8, .of (s8 _ _ e7)⟩
          refine ⟨_, _, us ++ [.ref tt], ts ++ [(fa, ws)], rfl, e9, ?_, ?_, ?_, ?_, ?_⟩
          · exact ((hts.but K8 hpx).but k9 hfo8).snoc (t8.but k9 hfo8)
          · rw [List.length_append, hlen]
            rfl
          · intro t ht
            rcases List.mem_append.mp ht with ht | ht
            · exact hok t ht
            · rw [List.mem_singleton.mp ht]
              exact ⟨f0, f1, by show ws.length ≤ 3; omega, hin⟩
          · exact (k'.trans K8).more n1 k9
          · exact ((((P6.same s7).same s8).but k9 hfp hfc).mono (by omega))
    · rintro σ H' ⟨a, b, us, ts, rfl, hfo, hts, hlen, hok, k', P'⟩
      exact ⟨_, rfl, q fo us ts H' hts (by omega) (by omega) hok n1 hfo hfp k' (P'.mono (by omega))⟩
end
end LC
namespace LC
open PySem PySem.Spec PyProof.Rows L2
section
variable {P : Program} {w : World} {K : PySem.W.Frag} {mg : Str → Option Value} {base : Heap}
abbrev s_unlike : Stmt := topS 40
theorem sc_unlike : FnScope ["terms", "found", "factor", "names", "name"] ["terms"] (defScope s_unlike) := ⟨rfl, rfl, rfl, by decide +kernel, rfl, by decide +kernel, by decide +kernel⟩
theorem ok_unlike {f : Addr} {fd : FuncData} (T : Txt mg) (F : FnP K "_law_unlike" s_unlike f fd) : FnOk P w K mg base CX0 1 f fd ["terms"] (spUnlike K) := by
  have sc := sc_unlike
  refine F.ok sc (fun vs H Q E h => ?_) (fun cdv A outer s H vs Q E hr h => ?_)
  · obtain ⟨l, us, ts, rfl, _⟩ := h
    rfl
  · obtain ⟨l, us, ts, rfl, hl, hts, h10, h11, q⟩ := h
    refine ⟨_, PSs.nox (pss_cons (ps_set (i := 1) sc.nd rfl (.inl rfl) (pe_lst pa_nil))
(pss_cons (ps_for PassesOwn.never rfl (pi_list (pv 0)) (pg_tup rfl (pgs_cons (pg_name (i := 2) sc.nd rfl (.inl rfl)) (pgs_cons (pg_name (i := 3) sc.nd rfl (.inl rfl)) pgs_nil)))
  (pss_one (ps_for PassesOwn.never rfl (pi_tup (pv 3)) (pg_name (i := 4) sc.nd rfl (.inl rfl))
    (pss_one (ps_if (pt_cmpR op_notIn_seq (pv 4) (pv 1) (by rfl))
      (pss_one (ps_expr (pe_bm PySem.F.plainAttrs_list PySem.F.slot_list_append PySem.F.type_list_append mt_append (pv 1) (pa_cons (pv 4) pa_nil))))
      pss_nil)))))
(pss_one (ps_ret (pv 1))))), ?_⟩
    refine ⟨szn 0, fun fo n1 => ?_⟩
    generalize hH1 : upd H fo _ = H1
    obtain ⟨s1, e1⟩ := alloc_eq n1 hH1
    -- the terms
    refine ⟨.ref l, rfl, l, rfl, ⟨_, s1.seq hl⟩, for_list (K := K) (a := l) (xs := us) (fun i σ H' => ∃ a b c : Option V, σ = [some (.ref l), some (.ref fo), a, b, c] ∧ Same H H' ∧ H' fo = some (.lst ((unlike (ts.take i)).map V.str))) ⟨none, none, none, rfl, s1, e1⟩
      (fun i σ H' _ ⟨_, _, _, _, s, _⟩ => s.seq hl) ?_ ?_⟩
    · rintro i x σ H' hi ⟨a, b, c, rfl, sm, hfo⟩
      obtain ⟨t, ht, ta, tb, rfl, h1, h2⟩ := paired_get hts hi
      have hm : t ∈ ts := List.mem_of_getElem? ht
      refine ⟨ta, _, rfl, sqt_same sm h1, rfl, .int t.1, [.ref tb], rfl, .ref tb, [], rfl, rfl, ?_⟩
      -- the names
      have g2 := sqt_same sm h2
      refine ⟨.ref tb, rfl, tb, rfl, ⟨_, g2⟩, for_tup (K := K) (a := tb) (xs := t.2.map V.str) (fun j σ H2 => ∃ c : Option V, σ = [some (.ref l), some (.ref fo), some (.int t.1), some (.ref tb), c] ∧ Same H H2 ∧ H2 fo = some (.lst (((t.2.take j).foldl addN (unlike (ts.take i))).map V.str))) ⟨c, rfl, sm, hfo⟩
        (fun j σ H2 _ ⟨_, _, s, _⟩ => sqt_same s h2) ?_ ?_⟩
      · rintro j y σ H2 hj ⟨c, rfl, s2, hfo2⟩
        rw [List.getElem?_map] at hj
        obtain ⟨z, hz, rfl⟩ := Option.map_eq_some_iff.mp hj
        have nx := addN_next (acc := unlike (ts.take i)) hz
        have ln : ((t.2.take j).foldl addN (unlike (ts.take i))).length ≤ 1000 := by
          have a1 := foldN_len (t.2.take j) (unlike (ts.take i))
          have a2 := unlike_len (ts.take i) [] fun q hq => h11 q (List.mem_of_mem_take hq)
          have a3 : (ts.take i).length ≤ 10 := by
            rw [List.length_take]
            omega
          have a4 : (t.2.take j).length ≤ 10 := by
            rw [List.length_take]
            have := h11 t hm
            omega
          have a5 : ([] : List Str).length = 0 := rfl
          unfold unlike at a1 ⊢
          omega
        refine ⟨.str z, rfl, .ref fo, rfl, fo, _, rfl, .inl (.of hfo2), rfl, flat_strs _, _, rfl, ?_⟩
        rw [if_pos rfl, inV_str]
        refine iteND (fun hn => ?_) (fun hn => ?_)
        · refine ⟨.ref fo, rfl, .inl ⟨rfl, _, .inl (.inl hfo2)⟩, .str z, rfl, fo, _, _, rfl, rfl, hfo2, ?_, ?_⟩
          · rw [List.length_map]
            exact sz_lt (by omega)
          · refine ⟨some (.str z), rfl, ?_, ?_⟩
            · exact fun b o e => by
                rw [upd_ne (ne_of_none e n1)]
                exact s2 b o e
            · rw [upd_same, nx, addN_new hn, List.map_append]
              rfl
        · refine ⟨some (.str z), rfl, s2, ?_⟩
          rw [nx, addN_old hn]
          exact hfo2
      · rintro σ H2 ⟨c, rfl, s2, hfo2⟩
        refine ⟨_, _, c, rfl, s2, ?_⟩
        rw [unlike_next ht]
        rw [List.length_map, List.take_length] at hfo2
        exact hfo2
    · rintro σ H' ⟨a, b, c, rfl, sm, hfo⟩
      refine ⟨.ref fo, rfl, q fo H' n1 sm ?_⟩
      rw [hts.length, List.take_length] at hfo
      exact hfo
end
end LC
namespace LC
open PySem PySem.Spec PyProof.Rows L2
theorem letters_mem (c : Nat) : c ∈ ("abcdefghijklmnopqrstuvwxyz" : Str).cps.toList ↔ 97 ≤ c ∧ c ≤ 122 := by
  have e : ("abcdefghijklmnopqrstuvwxyz" : Str).cps.toList = List.range' 97 26 := by decide +kernel
  rw [e, List.mem_range'_1]
  omega
theorem letters_dec (c : Nat) : decide (c ∈ ("abcdefghijklmnopqrstuvwxyz" : Str).cps.toList) = (decide (97 ≤ c) && decide (c ≤ 122)) := by
  rw [← Bool.decide_and]
  exact decide_eq_decide.mpr (letters_mem c)
section
variable {P : Program} {w : World} {K : PySem.W.Frag} {mg : Str → Option Value} {base : Heap}
abbrev s_is_integer : Stmt := topS 10
theorem sc_is_integer : FnScope ["value"] ["value"] (defScope s_is_integer) := ⟨rfl, rfl, rfl, by decide +kernel, rfl, by decide +kernel, by decide +kernel⟩
theorem ok_is_integer {f : Addr} {fd : FuncData} (T : Txt mg) (F : FnP K "is_integer" s_is_integer f fd) : FnOk P w K mg base CX0 1 f fd ["value"] (spIsInteger K) := by
  have sc := sc_is_integer
  refine F.ok sc (fun vs H Q E h => ?_) (fun cdv A outer s H vs Q E hr h => ?_)
  · obtain ⟨v, n, rfl, _⟩ := h
    rfl
  · obtain ⟨v, n, rfl, hn, ty, q⟩ := h
    refine ⟨_, PSs.nox (pss_one (ps_ret (pe_and (pe_callB call_isi (by rfl) T.n_isinstance (by decide +kernel) (pa_cons (pv 0) (pa_cons (pe_bty "int" T.n_int (by decide +kernel)) pa_nil))) (pe_one (pe_not (pe_callB call_isi (by rfl) T.n_isinstance (by decide +kernel) (pa_cons (pv 0) (pa_cons (pe_bty "bool" T.n_bool (by decide +kernel)) pa_nil)))))))), ?_⟩
    rw [intB_ty ty] at q
    refine ⟨v, rfl, v, .ty "int", .type n, .type "int", _, rfl, .ty _, ty, kit_k "int" (fun n => n == "int" || n == "bool") (by decide +kernel) hn, _, rfl, iteB (fun e1 => ?_) (fun e1 => ?_)⟩
    · refine ⟨v, rfl, v, .ty "bool", .type n, .type "bool", _, rfl, .ty _, ty, kit_k "bool" (fun n => n == "bool") (by decide +kernel) hn, _, rfl, ?_⟩
      have z : ∀ n ∈ kinds, (n == "int" || n == "bool") = true → (!(n == "bool")) = (n == "int") := by decide +kernel
      rw [z n hn e1]
      exact q
    · have z : ∀ n ∈ kinds, (n == "int" || n == "bool") = false → (n == "int") = false := by decide +kernel
      rw [z n hn e1] at q
      exact q
abbrev s_is_within : Stmt := topS 11
theorem sc_is_within : FnScope ["value", "least", "most"] ["value", "least", "most"] (defScope s_is_within) := ⟨rfl, rfl, rfl, by decide +kernel, rfl, by decide +kernel, by decide +kernel⟩
theorem ok_is_within {f : Addr} {fd : FuncData} (T : Txt mg) (F : FnP K "is_within" s_is_within f fd) (c_is_integer : Cal P w K mg base CX0 1 "is_integer" ["value"] (spIsInteger K)) : FnOk P w K mg base CX0 2 f fd ["value", "least", "most"] (spIsWithin K) := by
  have sc := sc_is_within
  refine F.ok sc (fun vs H Q E h => ?_) (fun cdv A outer s H vs Q E hr h => ?_)
  · obtain ⟨v, n, lo, hi, rfl, _⟩ := h
    rfl
  · obtain ⟨v, n, lo, hi, rfl, hn, ty, q⟩ := h
    refine ⟨_, PSs.nox (pss_one (ps_ret (pe_and (pe_cal c_is_integer hr (by rfl) pass0 (pa_cons (pv 0) pa_nil)) (pe_one (pe_chain op_le op_le (pv 1) (pv 0) (pv 2)))))), ?_⟩
    refine ⟨v, rfl, v, n, rfl, hn, ty, _, rfl, iteB (fun e1 => ?_) (fun e1 => ?_)⟩
    · obtain ⟨i, rfl⟩ : ∃ i, v = .int i := by
        cases v <;> first | exact ⟨_, rfl⟩ | cases e1
      refine ⟨_, rfl, _, rfl, lo, i, rfl, rfl, _, rfl, iteD (fun e2 => ?_) (fun e2 => ?_)⟩
      · refine ⟨_, rfl, i, hi, rfl, rfl, ?_⟩
        have q' : Q (.bl (decide (lo ≤ i) && decide (i ≤ hi))) H := q
        rw [decide_eq_true e2, Bool.true_and] at q'
        exact q'
      · have q' : Q (.bl (decide (lo ≤ i) && decide (i ≤ hi))) H := q
        rw [decide_eq_false e2, Bool.false_and] at q'
        exact q'
    · have z : withinB lo hi v = false := by
        cases v <;> first | rfl | cases e1
      rw [z] at q
      exact q
abbrev s_is_name : Stmt := topS 12
theorem sc_is_name : FnScope ["value", "letter"] ["value"] (defScope s_is_name) := ⟨rfl, rfl, rfl, by decide +kernel, rfl, by decide +kernel, by decide +kernel⟩
theorem ok_is_name {f : Addr} {fd : FuncData} (T : Txt mg) (F : FnP K "is_name" s_is_name f fd) : FnOk P w K mg base CX0 1 f fd ["value"] (spIsName K) := by
  have sc := sc_is_name
  refine F.ok sc (fun vs H Q E h => ?_) (fun cdv A outer s H vs Q E hr h => ?_)
  · obtain ⟨v, n, rfl, _⟩ := h
    rfl
  · obtain ⟨v, n, rfl, hn, ty, hz, q⟩ := h
    refine ⟨_, PSs.nox (pss_cons (ps_if (PW.pt (pw_or (pt_not (pt_val (pe_callB call_isi (by rfl) T.n_isinstance (by decide +kernel) (pa_cons (pv 0) (pa_cons (pe_bty "str" T.n_str (by decide +kernel)) pa_nil))))) (pw_or1 (pt_not (pt_chain op_le op_le pe_int (pe_callB call_len (by rfl) T.n_len (by decide +kernel) (pa_cons (pv 0) pa_nil)) (pe_gint T.g_MOST_LETTERS))))))
  (pss_one (ps_ret pe_bl))
  pss_nil)
(pss_one (ps_ret (pe_callB (cr_all rfl) (by rfl) T.n_all (by decide +kernel) (pa_cons (pe_lc (own := [("letter", 1)]) (g := (gName 1)) (te := (tOp (fun x y H Q => ∃ (c : Nat) (z : Str), x = .str ⟨#[c]⟩ ∧ y = .str z ∧ Q (.bl (decide (c ∈ z.cps.toList))) H) (tVar 1) (tC (.str "abcdefghijklmnopqrstuvwxyz")))) (tt := tYes) rfl sc.nd (pi_str (pv 0)) (blkOk_by (N := ["value", "letter"]) (sc := defScope s_is_name) (by decide +kernel)) (fun _ _ _ _ _ => by exact (pg_name (i := 1) sc.nd rfl (.inl rfl))) (fun _ _ _ _ _ => by exact pts_nil) (fun _ _ _ _ _ => by exact (pe_cmpR op_in_sign (pv 1) (pe_gstr T.g_LETTERS) (by rfl)))) pa_nil))))), ?_⟩
    refine ⟨v, rfl, v, .ty "str", .type n, .type "str", _, rfl, .ty _, ty, kit_k "str" (fun n => n == "str") (by decide +kernel) hn, _, rfl, ?_⟩
    by_cases e1 : n = "str"
    · subst e1
      obtain ⟨z, rfl⟩ := tyx_str ty
      have hl := hz z rfl
      refine ⟨_, rfl, .str z, _, rfl, ⟨sz_le hl, rfl⟩, 1, _, rfl, rfl, _, rfl, iteD (fun e2 => ?_) (fun e2 => ?_)⟩
      · refine ⟨z.length, 6, rfl, rfl, _, rfl, iteND (fun e3 => ?_) (fun e3 => ?_)⟩
        · have zz : isNameB (.str z) = false := by
            show nameB z = false
            unfold nameB
            rw [decide_eq_false (show ¬ z.length ≤ 6 by omega), Bool.and_false, Bool.false_and]
          rw [zz] at q
          exact q H (Same.refl H)
        · refine ⟨.str z, rfl, z, rfl, fun D nD => ?_⟩
          refine lc_it walk_str (fun i H' => Same H H' ∧ H' D = some (.lst (((z.cps.toList.take i).map fun c => decide (97 ≤ c) && decide (c ≤ 122)).map V.bl))) ⟨same_new nD, upd_same⟩ (fun _ _ _ _ => True.intro) ?_ ?_
          · rintro i x H' H2 hi ⟨sm, hD⟩ ⟨rfl, c, hc, rfl⟩
            refine ⟨rfl, tyes_of ?_⟩
            refine ⟨_, rfl, c, _, rfl, rfl, _, hD, ?_, fun b o e => ?_, ?_⟩
            · rw [List.length_map, List.length_map, List.length_take]
              have : z.cps.toList.length = z.length := rfl
              exact sz_lt (by omega)
            · rw [upd_ne (ne_of_none e nD)]
              exact sm b o e
            · have hc2 : z.cps.toList[i]? = some c := by simpa using hc
              rw [upd_same, take_next hc2, List.map_append, List.map_append, letters_dec]
              rfl
          · rintro H' ⟨sm, hD⟩
            have e4 : z.cps.toList.take z.cps.size = z.cps.toList := List.take_of_length_le (Nat.le_refl _)
            rw [e4] at hD
            refine ⟨D, _, rfl, .of hD, ?_⟩
            have zz : (List.map (fun c => decide (97 ≤ c) && decide (c ≤ 122)) z.cps.toList).all id = isNameB (.str z) := by
              show _ = nameB z
              unfold nameB
              rw [decide_eq_true (show 1 ≤ z.length by omega), decide_eq_true (show z.length ≤ 6 by omega), List.all_map]
              rfl
            rw [zz]
            exact q H' sm
      · have zz : isNameB (.str z) = false := by
          show nameB z = false
          unfold nameB
          rw [decide_eq_false (show ¬ 1 ≤ z.length by omega), Bool.false_and, Bool.false_and]
        rw [zz] at q
        exact ⟨_, rfl, q H (Same.refl H)⟩
    · have zz : isNameB v = false := notName_ty ty e1
      rw [zz] at q
      rw [beq_eq_false_iff_ne.mpr e1]
      exact q H (Same.refl H)
end
end LC
namespace LC
open PySem PySem.Spec PyProof.Rows L2
section
variable {P : Program} {w : World} {K : PySem.W.Frag} {mg : Str → Option Value} {base : Heap}
abbrev s_is_term : Stmt := topS 28
theorem sc_is_term : FnScope ["value", "factor", "names", "name"] ["value"] (defScope s_is_term) := ⟨rfl, rfl, rfl, by decide +kernel, rfl, by decide +kernel, by decide +kernel⟩
theorem ok_is_term {f : Addr} {fd : FuncData} (T : Txt mg) (F : FnP K "is_term" s_is_term f fd) (c_is_within : Cal P w K mg base CX0 2 "is_within" ["value", "least", "most"] (spIsWithin K)) (c_is_name : Cal P w K mg base CX0 2 "is_name" ["value"] (spIsName K)) :
    FnOk P w K mg base CX0 3 f fd ["value"] (spIsTerm K) := by
  have sc := sc_is_term
  refine F.ok sc (fun vs H Q E h => ?_) (fun cdv A outer s H vs Q E hr h => ?_)
  · obtain ⟨v, t, rfl, _⟩ := h
    rfl
  · obtain ⟨v, t, rfl, ⟨ta, tb, rfl, h1, h2⟩, ⟨f0, f1, hl3, hnm⟩, q⟩ := h
    refine ⟨_, PSs.nox (pss_cons (ps_if (PW.pt (pw_or (pt_not (pt_val (pe_callB call_isiT (by rfl) T.n_isinstance (by decide +kernel) (pa_cons (pv 0) (pa_cons (pe_tup (pa_cons (pe_bty "tuple" T.n_tuple (by decide +kernel)) (pa_cons (pe_bty "list" T.n_list (by decide +kernel)) pa_nil))) pa_nil))))) (pw_or1 (pt_cmpR op_ne (pe_callB call_len (by rfl) T.n_len (by decide +kernel) (pa_cons (pv 0) pa_nil)) pe_int (nomark _)))))
  (pss_one (ps_ret pe_bl))
  pss_nil)
(pss_cons (ps_asg (pv 0) (pg_tup rfl (pgs_cons (pg_name (i := 1) sc.nd rfl (.inl rfl)) (pgs_cons (pg_name (i := 2) sc.nd rfl (.inl rfl)) pgs_nil))))
(pss_cons (ps_if (PW.pt (pw_or (pt_not (pt_val (pe_cal c_is_within hr (by rfl) pass0 (pa_cons (pv 1) (pa_cons (pe_un un_neg (pe_gint T.g_MOST_FACTOR)) (pa_cons (pe_gint T.g_MOST_FACTOR) pa_nil)))))) (pw_or1 (pt_not (pt_val (pe_callB call_isiT (by rfl) T.n_isinstance (by decide +kernel) (pa_cons (pv 2) (pa_cons (pe_tup (pa_cons (pe_bty "tuple" T.n_tuple (by decide +kernel)) (pa_cons (pe_bty "list" T.n_list (by decide +kernel)) pa_nil))) pa_nil))))))))
  (pss_one (ps_ret pe_bl))
  pss_nil)
(pss_one (ps_ret (pe_and (pe_cmpR op_le (pe_callB call_len (by rfl) T.n_len (by decide +kernel) (pa_cons (pv 2) pa_nil)) (pe_gint T.g_MOST_TERM_NAMES) (nomark _)) (pe_one (pe_callB (cr_all rfl) (by rfl) T.n_all (by decide +kernel) (pa_cons (pe_lc (own := [("name", 3)]) (g := (gName 3)) (te := (tCal (spIsName K) E0 (tCons (tVar 3) tNil))) (tt := tYes) rfl sc.nd (pi_tup (pv 2)) (blkOk_by (N := ["value", "factor", "names", "name"]) (sc := defScope s_is_term) (by decide +kernel)) (fun _ _ _ _ _ => by exact (pg_name (i := 3) sc.nd rfl (.inl rfl))) (fun _ _ _ _ _ => by exact pts_nil) (fun _ _ _ _ _ => by exact (pe_cal c_is_name hr (by rfl) pass0 (pa_cons (pv 3) pa_nil)))) pa_nil))))))))), ?_⟩
    -- isinstance(value, (tuple, list)), len(value)
    refine ⟨.ref ta, rfl, szn 2, fun tp ntp => ?_⟩
    generalize hH1 : upd H tp _ = H1
    obtain ⟨s1, e1⟩ := alloc_eq ntp hH1
    refine ⟨.ref ta, tp, _, .type "tuple", [.type "tuple", .type "list"], true, rfl, e1, .cons (.ty _) (.cons (.ty _) .nil), sqt_ty (sqt_same s1 h1), kit_tl, _, rfl, ?_⟩
    refine iteF ?_
    refine ⟨.ref ta, rfl, .ref ta, _, rfl, .inr ⟨_, sqt_same s1 h1, rfl⟩, rfl, _, rfl, ?_⟩
    refine iteND (fun e2 => absurd rfl e2) (fun _ => ?_)
    -- factor, names = value
    refine ⟨.ref ta, rfl, ta, _, rfl, sqt_same s1 h1, rfl, .int t.1, [.ref tb], rfl, .ref tb, [], rfl, rfl, ?_⟩
    refine ⟨.int t.1, rfl, _, rfl, .int t.1, "int", _, _, rfl, by decide, .base (.int _), _, rfl, ?_⟩
    have w1 : withinB (-999999) 999999 (.int t.1) = true := by
      show (decide (-999999 ≤ t.1) && decide (t.1 ≤ 999999)) = true
      rw [decide_eq_true f0, decide_eq_true f1]
      rfl
    rw [w1]
    refine iteF ?_
    refine ⟨.ref tb, rfl, szn 2, fun tq ntq => ?_⟩
    generalize hH2 : upd H1 tq _ = H2
    obtain ⟨s2, e2⟩ := alloc_eq ntq hH2
    have h22 := sqt_same s2 (sqt_same s1 h2)
    refine ⟨.ref tb, tq, _, .type "tuple", [.type "tuple", .type "list"], true, rfl, e2, .cons (.ty _) (.cons (.ty _) .nil), sqt_ty h22, kit_tl, _, rfl, ?_⟩
    refine iteF ?_
    -- len(names) <= 3 and all(..)
    refine ⟨.ref tb, rfl, .ref tb, _, rfl, .inr ⟨_, h22, rfl⟩, _, _, rfl, rfl, _, rfl, iteD (fun _ => ?_) (fun e3 => absurd (by rw [List.length_map]; omega) e3)⟩
    refine ⟨.ref tb, rfl, tb, rfl, ⟨_, h22⟩, fun D nD => ?_⟩
    refine lc_tup (K := K) (a := tb) (xs := t.2.map V.str) (fun i H' => Same H2 H' ∧ H' D = some (.lst ((List.replicate i true).map V.bl))) ⟨same_new nD, upd_same⟩ (fun i H' _ h => sqt_same h.1 h22) ?_ ?_
    · rintro i x H' hi ⟨sm, hD⟩
      rw [List.getElem?_map] at hi
      obtain ⟨z, hz, rfl⟩ := Option.map_eq_some_iff.mp hi
      have hm : z ∈ t.2 := List.mem_of_getElem? hz
      have hil : i < t.2.length := (List.getElem?_eq_some_iff.mp hz).1
      refine ⟨rfl, tyes_of ?_⟩
      refine ⟨.str z, rfl, .str z, "str", rfl, by decide, .base (.str _), fun y e => ?_, fun H3 s3 => ?_⟩
      · cases e
        have := (name_len (hnm z hm)).2
        omega
      · have z1 : isNameB (.str z) = true := hnm z hm
        rw [z1]
        refine ⟨_, s3 _ _ hD, ?_, fun b o e => ?_, ?_⟩
        · rw [List.length_map, List.length_replicate]
          exact sz_lt (by omega)
        · rw [upd_ne (ne_of_none e nD)]
          exact s3 _ _ (sm b o e)
        · rw [upd_same, List.replicate_succ', List.map_append]
          rfl
    · rintro H' ⟨sm, hD⟩
      refine ⟨D, _, rfl, .of hD, ?_⟩
      have z : (List.replicate (t.2.map V.str).length true).all id = true := by
        rw [List.all_eq_true]
        intro b hb
        exact List.eq_of_mem_replicate hb
      rw [z]
      exact q H' ((s1.trans s2).trans sm)
abbrev s_unlike_names : Stmt := topS 29
theorem sc_unlike_names : FnScope ["terms", "found", "_", "names", "name"] ["terms"] (defScope s_unlike_names) := ⟨rfl, rfl, rfl, by decide +kernel, rfl, by decide +kernel, by decide +kernel⟩
theorem ok_unlike_names {f : Addr} {fd : FuncData} (T : Txt mg) (F : FnP K "unlike_names" s_unlike_names f fd) : FnOk P w K mg base CX0 1 f fd ["terms"] (spUnlikeNames K) := by
  have sc := sc_unlike_names
  refine F.ok sc (fun vs H Q E h => ?_) (fun cdv A outer s H vs Q E hr h => ?_)
  · obtain ⟨l, us, ts, rfl, _⟩ := h
    rfl
  · obtain ⟨l, us, ts, rfl, hl, hts, h10, h11, q⟩ := h
    refine ⟨_, PSs.nox (pss_cons (ps_set (i := 1) sc.nd rfl (.inl rfl) (pe_lst pa_nil))
(pss_cons (ps_for PassesOwn.never rfl (pi_tup (pv 0)) (pg_tup rfl (pgs_cons (pg_name (i := 2) sc.nd rfl (.inl rfl)) (pgs_cons (pg_name (i := 3) sc.nd rfl (.inl rfl)) pgs_nil)))
  (pss_one (ps_for PassesOwn.never rfl (pi_tup (pv 3)) (pg_name (i := 4) sc.nd rfl (.inl rfl))
    (pss_one (ps_if (pt_cmpR op_notIn_seq (pv 4) (pv 1) (by rfl))
      (pss_one (ps_expr (pe_bm PySem.F.plainAttrs_list PySem.F.slot_list_append PySem.F.type_list_append mt_append (pv 1) (pa_cons (pv 4) pa_nil))))
      pss_nil)))))
(pss_one (ps_ret (pe_callTy call_tuple_of (by rfl) T.n_tuple (by decide +kernel) (pa_cons (pv 1) pa_nil)))))), ?_⟩
    refine ⟨szn 0, fun fo n1 => ?_⟩
    generalize hH1 : upd H fo _ = H1
    obtain ⟨s1, e1⟩ := alloc_eq n1 hH1
    -- the terms
    refine ⟨.ref l, rfl, l, rfl, ⟨_, sqt_same s1 hl⟩, for_tup (K := K) (a := l) (xs := us) (fun i σ H' => ∃ a b c : Option V, σ = [some (.ref l), some (.ref fo), a, b, c] ∧ Same H H' ∧ H' fo = some (.lst ((unlike (ts.take i)).map V.str))) ⟨none, none, none, rfl, s1, e1⟩
      (fun i σ H' _ ⟨_, _, _, _, s, _⟩ => sqt_same s hl) ?_ ?_⟩
    · rintro i x σ H' hi ⟨a, b, c, rfl, sm, hfo⟩
      obtain ⟨t, ht, ta, tb, rfl, h1, h2⟩ := paired_get hts hi
      have hm : t ∈ ts := List.mem_of_getElem? ht
      refine ⟨ta, _, rfl, sqt_same sm h1, rfl, .int t.1, [.ref tb], rfl, .ref tb, [], rfl, rfl, ?_⟩
      -- the names
      have g2 := sqt_same sm h2
      refine ⟨.ref tb, rfl, tb, rfl, ⟨_, g2⟩, for_tup (K := K) (a := tb) (xs := t.2.map V.str) (fun j σ H2 => ∃ c : Option V, σ = [some (.ref l), some (.ref fo), some (.int t.1), some (.ref tb), c] ∧ Same H H2 ∧ H2 fo = some (.lst (((t.2.take j).foldl addN (unlike (ts.take i))).map V.str))) ⟨c, rfl, sm, hfo⟩
        (fun j σ H2 _ ⟨_, _, s, _⟩ => sqt_same s h2) ?_ ?_⟩
      · rintro j y σ H2 hj ⟨c, rfl, s2, hfo2⟩
        rw [List.getElem?_map] at hj
        obtain ⟨z, hz, rfl⟩ := Option.map_eq_some_iff.mp hj
        have nx := addN_next (acc := unlike (ts.take i)) hz
        have ln : ((t.2.take j).foldl addN (unlike (ts.take i))).length ≤ 1000 := by
          have a1 := foldN_len (t.2.take j) (unlike (ts.take i))
          have a2 := unlike_len (ts.take i) [] fun q hq => h11 q (List.mem_of_mem_take hq)
          have a3 : (ts.take i).length ≤ 10 := by
            rw [List.length_take]
            omega
          have a4 : (t.2.take j).length ≤ 10 := by
            rw [List.length_take]
            have := h11 t hm
            omega
          have a5 : ([] : List Str).length = 0 := rfl
          unfold unlike at a1 ⊢
          omega
        refine ⟨.str z, rfl, .ref fo, rfl, fo, _, rfl, .inl (.of hfo2), rfl, flat_strs _, _, rfl, ?_⟩
        rw [if_pos rfl, inV_str]
        refine iteND (fun hn => ?_) (fun hn => ?_)
        · refine ⟨.ref fo, rfl, .inl ⟨rfl, _, .inl (.inl hfo2)⟩, .str z, rfl, fo, _, _, rfl, rfl, hfo2, ?_, ?_⟩
          · rw [List.length_map]
            exact sz_lt (by omega)
          · refine ⟨some (.str z), rfl, ?_, ?_⟩
            · exact fun b o e => by
                rw [upd_ne (ne_of_none e n1)]
                exact s2 b o e
            · rw [upd_same, nx, addN_new hn, List.map_append]
              rfl
        · refine ⟨some (.str z), rfl, s2, ?_⟩
          rw [nx, addN_old hn]
          exact hfo2
      · rintro σ H2 ⟨c, rfl, s2, hfo2⟩
        refine ⟨_, _, c, rfl, s2, ?_⟩
        rw [unlike_next ht]
        rw [List.length_map, List.take_length] at hfo2
        exact hfo2
    · rintro σ H' ⟨a, b, c, rfl, sm, hfo⟩
      rw [hts.length, List.take_length] at hfo
      refine ⟨.ref fo, rfl, fo, _, rfl, .inl ⟨.of hfo, fun r nr => ?_⟩⟩
      generalize hH9 : upd H' r _ = H9
      obtain ⟨s9, e9⟩ := alloc_eq nr hH9
      exact q r H9 (sm.free nr) (sm.trans s9) (.of e9)
end
end LC
namespace LC
open PySem PySem.Spec PyProof.Rows L2
section
variable {P : Program} {w : World} {K : PySem.W.Frag} {mg : Str → Option Value} {base : Heap}
abbrev s_Sum_total : Stmt := inClass (topS 30) 4
theorem sc_Sum_total : FnScope ["self", "values", "modulus", "whole", "factor", "names", "product", "name"] ["self", "values", "modulus"] (defScope s_Sum_total) := ⟨rfl, rfl, rfl, by decide +kernel, rfl, by decide +kernel, by decide +kernel⟩
theorem ok_total {f C : Addr} {fd : FuncData} (T : Txt mg) (S : SumTxt K mg C) (F : FunD K "total" "Sum.total" (defArgs s_Sum_total) (defBody s_Sum_total) (defScope s_Sum_total) [] [] f fd) : FnOk P w K mg base CX0 1 f fd ["self", "values", "modulus"] (spTotal K C) := by
  have sc := sc_Sum_total
  refine F.ok sc (fun vs H Q E h => ?_) (fun cdv A outer s H vs Q E hr h => ?_)
  · obtain ⟨x, d, m, ts, kvs, val, rfl, _⟩ := h
    rfl
  · obtain ⟨x, d, m, ts, kvs, val, rfl, ⟨dx, T0, N, us, h1, h2, h3, h4⟩, hd, m0, m1, hf, hv, q⟩ := h
    have hu := hu_of hr
    refine ⟨_, PSs.nox (pss_cons (ps_set (i := 3) sc.nd rfl (.inl rfl) pe_int)
(pss_cons (ps_for PassesOwn.never rfl (pi_tup (pe_fld (pv 0) rfl)) (pg_tup rfl (pgs_cons (pg_name (i := 4) sc.nd rfl (.inl rfl)) (pgs_cons (pg_name (i := 5) sc.nd rfl (.inl rfl)) pgs_nil)))
  (pss_cons (ps_set (i := 6) sc.nd rfl (.inl rfl) (pv 4))
  (pss_cons (ps_for PassesOwn.never rfl (pi_tup (pv 5)) (pg_name (i := 7) sc.nd rfl (.inl rfl))
    (pss_one (ps_set (i := 6) sc.nd rfl (.inl rfl) (pe_op op_modN (pe_op op_mulW (pv 6) (pe_dget hu (pv 1) (pv 7) (fun _ _ => rfl))) (pv 2)))))
  (pss_one (ps_set (i := 3) sc.nd rfl (.inl rfl) (pe_op op_add (pv 3) (pv 6)))))))
(pss_one (ps_ret (pe_op op_modN (pv 3) (pv 2)))))), ?_⟩
    refine ⟨.ref x, rfl, x, C, dx, _, _, rfl, h1, S.cl, S.nT, sflds_terms _ _, T0, rfl, ⟨_, h2⟩, for_tup (K := K) (a := T0) (xs := us) (fun i σ H' => H' = H ∧ ∃ a b c e : Option V, σ = [some (.ref x), some (.ref d), some (.int m), some (.int ((ts.take i).foldl (fun w t => w + prodOf val m t) 0)), a, b, c, e]) ⟨rfl, none, none, none, none, rfl⟩
      (fun i σ H' _ ⟨e, _⟩ => by rw [e]; exact h2) ?_ ?_⟩
    · rintro i y σ H' hi ⟨rfl, a, b, c, e, rfl⟩
      obtain ⟨t, ht, ta, tb, rfl, g1, g2⟩ := paired_get h3 hi
      have hm : t ∈ ts := List.mem_of_getElem? ht
      obtain ⟨f0, f1, fl, fn⟩ := hf t hm
      refine ⟨ta, _, rfl, g1, rfl, .int t.1, [.ref tb], rfl, .ref tb, [], rfl, rfl, ?_⟩
      refine ⟨.int t.1, rfl, ?_⟩
      refine ⟨.ref tb, rfl, tb, rfl, ⟨_, g2⟩, for_tup (K := K) (a := tb) (xs := t.2.map V.str) (fun j σ H2 => H2 = H' ∧ ∃ e : Option V, ((t.2.take j).foldl (fun p x => (p * val x).fmod m) t.1).natAbs < 2 ^ 64 ∧ σ = [some (.ref x), some (.ref d), some (.int m), some (.int ((ts.take i).foldl (fun w t => w + prodOf val m t) 0)), some (.int t.1), some (.ref tb), some (.int ((t.2.take j).foldl (fun p x => (p * val x).fmod m) t.1)), e])
        ⟨rfl, e, by show t.1.natAbs < _; omega, rfl⟩ (fun j σ H2 _ ⟨z, _⟩ => by rw [z]; exact g2) ?_ ?_⟩
      · rintro j y σ H2 hj ⟨rfl, e, hp, rfl⟩
        rw [List.getElem?_map] at hj
        obtain ⟨z, hz, rfl⟩ := Option.map_eq_some_iff.mp hj
        obtain ⟨v1, v2⟩ := hv t hm z (List.mem_of_getElem? hz)
        have b1 := fmod_bounds (i := (t.2.take j).foldl (fun p x => (p * val x).fmod m) t.1 * val z) m0
        have dg : DGet H2 d (.str z) (some (.int (val z))) := by
          have q := DGet.k (k := Sum.inr z) hd
          rw [v1] at q
          exact q
        refine ⟨_, rfl, .ref d, rfl, .str z, rfl, d, _, rfl, dg, _, _, rfl, rfl, wide_mul hp v2 (by decide) (by decide) (by decide), .int m, rfl, _, _, rfl, rfl, Int.ne_of_gt m0, rfl, some (.str z), ?_, ?_⟩
        · rw [take_next hz, List.foldl_append]
          exact natAbs_lt_pow b1.1 (Int.lt_trans b1.2 m1)
        · rw [take_next hz, List.foldl_append]
          rfl
      · rintro σ H2 ⟨rfl, e, hp, rfl⟩
        rw [List.length_map, List.take_length]
        refine ⟨_, rfl, _, rfl, _, _, rfl, rfl, rfl, some (.int t.1), some (.ref tb), some (.int (prodOf val m t)), e, ?_⟩
        rw [take_next ht, List.foldl_append]
        rfl
    · rintro σ H' ⟨rfl, a, b, c, e, rfl⟩
      refine ⟨_, rfl, .int m, rfl, _, _, rfl, rfl, Int.ne_of_gt m0, ?_⟩
      rw [h3.length, List.take_length]
      exact q
abbrev s_Sum_init : Stmt := inClass (topS 30) 0
theorem sc_Sum_init : FnScope ["self", "terms", "at", "term", "factor", "names"] ["self", "terms"] (defScope s_Sum_init) := ⟨rfl, rfl, rfl, by decide +kernel, rfl, by decide +kernel, by decide +kernel⟩
theorem fr_init {f C : Addr} {fd : FuncData} (T : Txt mg) (S : SumTxt K mg C) (F : FunD K "__init__" "Sum.__init__" (defArgs s_Sum_init) (defBody s_Sum_init) (defScope s_Sum_init) [] [] f fd) (c_is_term : Cal P w K mg base CX0 3 "is_term" ["value"] (spIsTerm K))
    (c_unlike_names : Cal P w K mg base CX0 3 "unlike_names" ["terms"] (spUnlikeNames K)) : FnR P w K mg base CX0 4 f (fun vs H Q E => ∃ ws rest, vs = ws ++ rest ∧ ws.length = 1 ∧ rest.length ≤ sizeLine ∧ ∀ p, H p = none → spSumInit K C (ws ++ [V.ref p]) (upd H p (.tup rest)) Q E) := by
  have sc := sc_Sum_init
  obtain ⟨oc, od, dV, kV, doc, pm, an, cdv, ct, osl, rfl, lk, hcd, hD, _⟩ := F.ex
  have eD : dV = .none := by
    rcases hD with ⟨_, e⟩ | ⟨e, _⟩
    · exact e
    · exact absurd rfl e
  subst eD
  refine StX.fn_star (ps := ["self"]) (pv := "terms") lk hcd sc StX.cxUp_none (StX.bind_star1 (B := fun us => bindArgs (PySem.W.fnOf "__init__" "Sum.__init__" (defArgs s_Sum_init) (defBody s_Sum_init) (defScope s_Sum_init) .none kV doc pm an cdv ct) ⟨us, []⟩) (p1 := "self") (pv := "terms") (fun a => rfl) (fun a r rs => rfl)) (fun A outer s H vs Q E hr h => ?_)
  obtain ⟨x, tp, dx, us, ts, rfl, hx, htp, hts, ⟨l1, l4, hf, hun⟩, q⟩ := h
  refine ⟨_, PSs.nox (pss_cons (ps_if (pt_not (pt_truth (pv 1) (by intro _; rfl)))
  (pss_one ps_never)
  pss_nil)
(pss_cons (ps_if (pt_cmpR op_gt (pe_callB call_len (by rfl) T.n_len (by decide +kernel) (pa_cons (pv 1) pa_nil)) (pe_gint T.g_MOST_TERMS) (nomark _))
  (pss_one ps_never)
  pss_nil)
(pss_cons (ps_for PassesOwn.never rfl (pi_enumT (by rfl) T.n_enumerate (pa_cons (pv 1) pa_nil)) (pg_tup rfl (pgs_cons (pg_name (i := 2) sc.nd rfl (.inl rfl)) (pgs_cons (pg_name (i := 3) sc.nd rfl (.inl rfl)) pgs_nil)))
  (pss_one (ps_if (pt_not (pt_val (pe_cal c_is_term hr (by rfl) pass0 (pa_cons (pv 3) pa_nil))))
    (pss_one ps_never)
    pss_nil)))
(pss_cons (ps_fld (pv 0) (pe_callTy call_tuple_of (by rfl) T.n_tuple (by decide +kernel) (pa_cons (pe_lc (own := [("factor", 4), ("names", 5)]) (g := (gTup K 2 (gCons (gName 4) (gCons (gName 5) gNil)))) (te := (tTup (tCons (tVar 4) (tCons (tCB (fun xs H Q => ∃ p ys, xs = [.ref p] ∧ ((SqL K H p ys ∧ ∀ l, H l = none → Q (.ref l) (upd H l (.tup ys))) ∨ (SqT K H p ys ∧ Q (.ref p) H))) (tCons (tVar 5) tNil)) tNil)))) (tt := tYes) rfl sc.nd (pi_tup (pv 1)) (blkOk_by (N := ["self", "terms", "at", "term", "factor", "names"]) (sc := defScope s_Sum_init) (by decide +kernel)) (fun _ _ _ _ _ => by exact (pg_tup rfl (pgs_cons (pg_name (i := 4) sc.nd rfl (.inl rfl)) (pgs_cons (pg_name (i := 5) sc.nd rfl (.inl rfl)) pgs_nil)))) (fun _ _ _ _ _ => by exact pts_nil) (fun _ _ _ _ _ => by exact (pe_tup (pa_cons (pv 4) (pa_cons (pe_callTy call_tuple_of (by rfl) T.n_tuple (by decide +kernel) (pa_cons (pv 5) pa_nil)) pa_nil))))) pa_nil)) rfl)
(pss_cons (ps_fld (pv 0) (pe_cal c_unlike_names hr (by rfl) pass0 (pa_cons (pe_fld (pv 0) rfl) pa_nil)) rfl)
(pss_one (ps_if (pt_cmpR op_gt (pe_callB call_len (by rfl) T.n_len (by decide +kernel) (pa_cons (pe_fld (pv 0) rfl) pa_nil)) (pe_gint T.g_MOST_UNLIKE) (nomark _))
  (pss_one ps_never)
  pss_nil))))))), ?_⟩
  -- if not terms, if len(terms) > MOST_TERMS
  have hlen : us.length = ts.length := hts.length
  refine ⟨.ref tp, rfl, _, .inr (.inl ⟨us, htp, rfl⟩), ?_⟩
  have e0 : (!us.isEmpty) = true := by
    cases us with
    | nil => have z : ts.length = 0 := hlen.symm; omega
    | cons a r => rfl
  rw [e0]
  refine iteF ?_
  refine ⟨.ref tp, rfl, .ref tp, _, rfl, .inr ⟨_, htp, rfl⟩, _, 4, rfl, rfl, _, rfl, iteD (fun e1 => ?_) (fun _ => ?_)⟩
  · exfalso
    omega
  -- for at, term in enumerate(terms)
  refine ⟨.ref tp, rfl, tp, us, rfl, htp, for_it walk_enumT (fun i σ H' => Same H H' ∧ ∃ a b : Option V, σ = [some (.ref x), some (.ref tp), a, b, none, none]) ⟨Same.refl H, none, none, rfl⟩ (fun i σ H' _ h => sqt_same h.1 htp) ?_ ?_⟩
  · rintro i v σ H' H2 hi ⟨sm, a, b, rfl⟩ ⟨tt, v1, v2, rfl, ntt, rfl, hv1, hv2⟩
    cases Option.some.inj hv1
    obtain ⟨t, ht, tv⟩ := paired_get hts hv2
    have hm : t ∈ ts := List.mem_of_getElem? ht
    have s2 : Same H (upd H' tt (.tup [.int (i : Nat), v2])) := sm.trans (same_new ntt)
    refine ⟨tt, _, rfl, .of upd_same, rfl, .int (i : Nat), [v2], rfl, v2, [], rfl, rfl, ?_⟩
    refine ⟨v2, rfl, v2, t, rfl, tv.same s2, hf t hm, fun H3 s3 => ⟨_, rfl, iteF ?_⟩⟩
    exact ⟨s2.trans s3, some (.int (i : Nat)), some v2, rfl⟩
  · rintro σ H' ⟨sm, a, b, rfl⟩
    have hx' := sm _ _ hx
    -- self._terms = tuple([..])
    refine ⟨.ref tp, rfl, tp, rfl, ⟨_, sqt_same sm htp⟩, fun D nD => ?_⟩
    refine lc_tup (K := K) (a := tp) (xs := us) (fun i H2 => ∃ vs2 : List V, Same H' H2 ∧ H2 D = some (.lst vs2) ∧ TermsV K H2 vs2 (ts.take i) ∧ vs2.length = i) ⟨[], same_new nD, upd_same, .nil, rfl⟩ (fun i H2 _ ⟨_, s2, _⟩ => sqt_same s2 (sqt_same sm htp)) ?_ ?_
    · rintro i v H2 hi ⟨vs2, s2, hD, h2, hl2⟩
      obtain ⟨t, ht, ta, tb, rfl, g1, g2⟩ := paired_get hts hi
      have g1' := sqt_same (sm.trans s2) g1
      have g2' := sqt_same (sm.trans s2) g2
      have hil : i < us.length := (List.getElem?_eq_some_iff.mp hi).1
      refine ⟨ta, _, rfl, g1', rfl, .int t.1, [.ref tb], rfl, .ref tb, [], rfl, rfl, rfl, tyes_of ?_⟩
      refine ⟨.int t.1, rfl, .ref tb, rfl, tb, _, rfl, .inr ⟨g2', szn 2, fun tn ntn => ?_⟩⟩
      generalize hH3 : upd H2 tn _ = H3
      obtain ⟨s3, e3⟩ := alloc_eq ntn hH3
      have hD3 := s3 _ _ hD
      refine ⟨vs2, hD3, sz_lt (by omega), vs2 ++ [.ref tn], fun b o e => ?_, upd_same, ?_, ?_⟩
      · rw [upd_ne (ne_of_none e nD)]
        exact s3 _ _ (s2 b o e)
      · have k3 : But D H3 (upd H3 D (.lst (vs2 ++ [.ref tn]))) := .set
        rw [take_next ht]
        exact ((h2.same s3).but k3 hD3).snoc (TermV.but ⟨tn, tb, rfl, .of e3, sqt_same s3 g2'⟩ k3 hD3)
      · rw [List.length_append, hl2]
        rfl
    · rintro H2 ⟨vs2, s2, hD, h2, hl2⟩
      rw [hlen, List.take_length] at h2
      refine ⟨D, _, rfl, .inl ⟨.of hD, fun tT ntT => ?_⟩⟩
      generalize hH3 : upd H2 tT _ = H3
      obtain ⟨s3, e3⟩ := alloc_eq ntT hH3
      have hx3 := s3 _ _ (s2 _ _ hx')
      refine ⟨.ref x, rfl, x, C, dx, _, rfl, hx3, S.cl, S.nT, by show 0 < 1000; decide, ?_⟩
      generalize hH4 : upd H3 x _ = H4
      have k4 : But x H3 H4 := by
        rw [← hH4]
        exact .set
      have hx4 : H4 x = some (.ins C dx (putF "_terms" (.ref tT) [])) := by
        rw [← hH4]
        exact upd_same
      have txT : tT ≠ x := ne_of e3 hx3 (fun z => nomatch z)
      have eT : H4 tT = some (.tup vs2) := k4 _ _ txT e3
      have h4 : TermsV K H4 vs2 ts := (h2.same s3).butN k4 hx3 trivial
      -- self._names = unlike_names(self._terms)
      refine ⟨.ref x, rfl, x, C, dx, _, _, rfl, hx4, S.cl, S.nT, by rw [lookup_putF, if_pos rfl], tT, vs2, ts, rfl, .of eT, h4, by omega, fun t ht => by have := (hf t ht).2.2.1; omega, fun r H5 nr s5 hr5 => ?_⟩
      have hx5 := s5 _ _ hx4
      refine ⟨.ref x, rfl, x, C, dx, _, rfl, hx5, S.cl, S.nN, by show 1 < 1000; decide, ?_⟩
      generalize hH6 : upd H5 x _ = H6
      have k6 : But x H5 H6 := by
        rw [← hH6]
        exact .set
      have hx6 : H6 x = some (.ins C dx (sflds tT r)) := by
        rw [← hH6]
        exact upd_same
      have hN6 := k6.sqtN hx5 trivial hr5
      -- if len(self._names) > MOST_UNLIKE
      refine ⟨.ref x, rfl, x, C, dx, _, _, rfl, hx6, S.cl, S.nN, sflds_names _ _, .ref r, _, rfl, .inr ⟨_, hN6, rfl⟩, _, 3, rfl, rfl, _, rfl, iteD (fun e9 => ?_) (fun _ => ?_)⟩
      · exfalso
        rw [List.length_map] at e9
        omega
      · refine q H6 ?_ ⟨dx, tT, r, vs2, hx6, k6.sqtN hx5 trivial (sqt_same s5 (.of eT)), (h4.same s5).butN k6 hx5 trivial, hN6⟩
        exact (((((But.same sm).trans (.same s2)).trans (.same s3)).trans k4).trans (.same s5)).trans k6
end
end LC
namespace LC
open PySem PySem.Spec PyProof.Rows L2
section
variable {P : Program} {w : World} {K : PySem.W.Frag} {mg : Str → Option Value} {base : Heap}
abbrev s_sum : Stmt := topS 39
theorem sc_sum : FnScope ["terms"] ["terms"] (defScope s_sum) := ⟨rfl, rfl, rfl, by decide +kernel, rfl, by decide +kernel, by decide +kernel⟩
theorem ok_sum {f C fI : Addr} {fd : FuncData} (T : Txt mg) (S : SumTxt K mg C) (M : Mk K C fI) (F : FnP K "_law_sum" s_sum f fd)
    (FI : FnR P w K mg base CX0 4 fI (fun vs H Q E => ∃ ws rest, vs = ws ++ rest ∧ ws.length = 1 ∧ rest.length ≤ sizeLine ∧ ∀ p, H p = none → spSumInit K C (ws ++ [V.ref p]) (upd H p (.tup rest)) Q E)) : FnOk P w K mg base CX0 6 f fd ["terms"] (spSum K C) := by
  have sc := sc_sum
  refine F.ok sc (fun vs H Q E h => ?_) (fun cdv A outer s H vs Q E hr h => ?_)
  · obtain ⟨l, us, ts, rfl, _⟩ := h
    rfl
  · obtain ⟨l, us, ts, rfl, hl, hts, hf, q⟩ := h
    refine ⟨_, PSs.nox (pss_cons (ps_if (pt_cmpR op_eq (pe_callB call_len (by rfl) T.n_len (by decide +kernel) (pa_cons (pv 0) pa_nil)) pe_int (nomark _))
  (pss_one ps_never)
  pss_nil)
(pss_cons (ps_if (pt_cmpR op_eq (pe_callB call_len (by rfl) T.n_len (by decide +kernel) (pa_cons (pv 0) pa_nil)) pe_int (nomark _))
  (pss_one (ps_ret (StX.pe_makeR M FI hr (by rfl) S.g_Sum pass0 (pa_cons (pe_ix ix_list (pv 0) pe_int (fun _ _ => rfl)) pa_nil))))
  pss_nil)
(pss_cons (ps_if (pt_cmpR op_eq (pe_callB call_len (by rfl) T.n_len (by decide +kernel) (pa_cons (pv 0) pa_nil)) pe_int (nomark _))
  (pss_one (ps_ret (StX.pe_makeR M FI hr (by rfl) S.g_Sum pass0 (pa_cons (pe_ix ix_list (pv 0) pe_int (fun _ _ => rfl)) (pa_cons (pe_ix ix_list (pv 0) pe_int (fun _ _ => rfl)) pa_nil)))))
  pss_nil)
(pss_cons (ps_if (pt_cmpR op_eq (pe_callB call_len (by rfl) T.n_len (by decide +kernel) (pa_cons (pv 0) pa_nil)) pe_int (nomark _))
  (pss_one (ps_ret (StX.pe_makeR M FI hr (by rfl) S.g_Sum pass0 (pa_cons (pe_ix ix_list (pv 0) pe_int (fun _ _ => rfl)) (pa_cons (pe_ix ix_list (pv 0) pe_int (fun _ _ => rfl)) (pa_cons (pe_ix ix_list (pv 0) pe_int (fun _ _ => rfl)) pa_nil))))))
  pss_nil)
(pss_cons (ps_if (pt_cmpR op_eq (pe_callB call_len (by rfl) T.n_len (by decide +kernel) (pa_cons (pv 0) pa_nil)) pe_int (nomark _))
  (pss_one (ps_ret (StX.pe_makeR M FI hr (by rfl) S.g_Sum pass0 (pa_cons (pe_ix ix_list (pv 0) pe_int (fun _ _ => rfl)) (pa_cons (pe_ix ix_list (pv 0) pe_int (fun _ _ => rfl)) (pa_cons (pe_ix ix_list (pv 0) pe_int (fun _ _ => rfl)) (pa_cons (pe_ix ix_list (pv 0) pe_int (fun _ _ => rfl)) pa_nil)))))))
  pss_nil)
(pss_one ps_never)))))), ?_⟩
    obtain ⟨l1, l4, _⟩ := id hf
    have hlen : us.length = ts.length := hts.length
    have mk := fun (q : _) => mk_sum (C := C) (Q := Q) hts hf q
    refine ⟨.ref l, rfl, .ref l, _, rfl, .inl ⟨_, hl, rfl⟩, rfl, _, rfl, iteD (fun e => ?_) (fun _ => ?_)⟩
    · have e2 : ((us.length : Nat) : Int) = 0 := V.int.inj e
      omega
    match us, hl, hts, hlen, mk with
    | [], _, _, hlen, _ => simp at hlen; omega
    | [a], hl, hts, hlen, mk =>
      refine ⟨.ref l, rfl, .ref l, _, rfl, .inl ⟨_, hl, rfl⟩, rfl, _, rfl, iteD (fun _ => ?_) (fun e => absurd rfl e)⟩
      exact ⟨.ref l, rfl, l, _, 0, a, rfl, rfl, hl, rfl, mk q⟩
    | [a, b], hl, hts, hlen, mk =>
      refine ⟨.ref l, rfl, .ref l, _, rfl, .inl ⟨_, hl, rfl⟩, rfl, _, rfl, iteD (fun e => absurd (V.int.inj e) (by simp)) (fun _ => ?_)⟩
      refine ⟨.ref l, rfl, .ref l, _, rfl, .inl ⟨_, hl, rfl⟩, rfl, _, rfl, iteD (fun _ => ?_) (fun e => absurd rfl e)⟩
      exact ⟨.ref l, rfl, l, _, 0, a, rfl, rfl, hl, rfl, .ref l, rfl, l, _, 1, b, rfl, rfl, hl, rfl, mk q⟩
    | [a, b, c], hl, hts, hlen, mk =>
      refine ⟨.ref l, rfl, .ref l, _, rfl, .inl ⟨_, hl, rfl⟩, rfl, _, rfl, iteD (fun e => absurd (V.int.inj e) (by simp)) (fun _ => ?_)⟩
      refine ⟨.ref l, rfl, .ref l, _, rfl, .inl ⟨_, hl, rfl⟩, rfl, _, rfl, iteD (fun e => absurd (V.int.inj e) (by simp)) (fun _ => ?_)⟩
      refine ⟨.ref l, rfl, .ref l, _, rfl, .inl ⟨_, hl, rfl⟩, rfl, _, rfl, iteD (fun _ => ?_) (fun e => absurd rfl e)⟩
      exact ⟨.ref l, rfl, l, _, 0, a, rfl, rfl, hl, rfl, .ref l, rfl, l, _, 1, b, rfl, rfl, hl, rfl, .ref l, rfl, l, _, 2, c, rfl, rfl, hl, rfl, mk q⟩
    | [a, b, c, d], hl, hts, hlen, mk =>
      refine ⟨.ref l, rfl, .ref l, _, rfl, .inl ⟨_, hl, rfl⟩, rfl, _, rfl, iteD (fun e => absurd (V.int.inj e) (by simp)) (fun _ => ?_)⟩
      refine ⟨.ref l, rfl, .ref l, _, rfl, .inl ⟨_, hl, rfl⟩, rfl, _, rfl, iteD (fun e => absurd (V.int.inj e) (by simp)) (fun _ => ?_)⟩
      refine ⟨.ref l, rfl, .ref l, _, rfl, .inl ⟨_, hl, rfl⟩, rfl, _, rfl, iteD (fun e => absurd (V.int.inj e) (by simp)) (fun _ => ?_)⟩
      refine ⟨.ref l, rfl, .ref l, _, rfl, .inl ⟨_, hl, rfl⟩, rfl, _, rfl, iteD (fun _ => ?_) (fun e => absurd rfl e)⟩
      exact ⟨.ref l, rfl, l, _, 0, a, rfl, rfl, hl, rfl, .ref l, rfl, l, _, 1, b, rfl, rfl, hl, rfl, .ref l, rfl, l, _, 2, c, rfl, rfl, hl, rfl, .ref l, rfl, l, _, 3, d, rfl, rfl, hl, rfl, mk q⟩
    | a :: b :: c :: d :: e :: r, _, _, hlen, _ => simp at hlen; omega
abbrev s_modulus : Stmt := topS 41
theorem sc_modulus : FnScope ["pen", "some"] ["pen"] (defScope s_modulus) := ⟨rfl, rfl, rfl, by decide +kernel, rfl, by decide +kernel, by decide +kernel⟩
theorem ok_modulus {f : Addr} {fd : FuncData} (T : Txt mg) (F : FnP K "_law_modulus" s_modulus f fd) (c__law_draw : Cal P w K mg base CX0 2 "_law_draw" ["pen", "many"] spDraw) (c__law_pick : Cal P w K mg base CX0 2 "_law_pick" ["pen", "some"] spPick) :
    FnOk P w K mg base CX0 3 f fd ["pen"] spModulus := by
  have sc := sc_modulus
  refine F.ok sc (fun vs H Q E h => ?_) (fun cdv A outer s H vs Q E hr h => ?_)
  · obtain ⟨p, c, n, rfl, _⟩ := h
    rfl
  · obtain ⟨p, c, n, rfl, hP, hn, q⟩ := h
    refine ⟨_, PSs.nox (pss_cons (ps_set (i := 1) sc.nd rfl (.inl rfl) (pe_lst (pa_cons pe_int (pa_cons pe_int (pa_cons pe_int (pa_cons pe_int (pa_cons (pe_op op_pow pe_int pe_int) (pa_cons (pe_op op_add (pe_op op_pow pe_int pe_int) pe_int) (pa_cons pe_int (pa_cons (pe_op op_pow pe_int pe_int) (pa_cons (pe_op op_sub (pe_op op_pow pe_int pe_int) pe_int) pa_nil)))))))))))
(pss_one (ps_ret (pe_cal c__law_pick hr (by rfl) pass0 (pa_cons (pv 0) (pa_cons (pe_op op_cat (pv 1) (pe_lst (pa_cons (pe_op op_add pe_int (pe_cal c__law_draw hr (by rfl) pass0 (pa_cons (pv 0) (pa_cons pe_int pa_nil)))) (pa_cons (pe_op op_add pe_int (pe_cal c__law_draw hr (by rfl) pass0 (pa_cons (pv 0) (pa_cons (pe_op op_sub (pe_op op_pow pe_int pe_int) pe_int) pa_nil)))) pa_nil)))) pa_nil)))))), ?_⟩
    refine ⟨_, _, rfl, rfl, ⟨by decide, by decide, by decide⟩, _, _, rfl, rfl, ⟨by decide, by decide, by decide⟩, _, _, rfl, rfl, _, _, rfl, rfl, ⟨by decide, by decide, by decide⟩, _, _, rfl, rfl, ⟨by decide, by decide, by decide⟩, _, _, rfl, rfl, szn 9, alloc_of fun l H1 n1 s1 e1 => ?_⟩
    have hlp : l ≠ p := hP.newP n1
    refine ⟨.ref p, rfl, .ref l, rfl, .ref p, rfl, p, c, n, _, rfl, hP.same s1, by omega, by decide, by decide, fun d1 H2 a0 a1 k2 P2 => ?_⟩
    refine ⟨_, _, rfl, rfl, .ref p, rfl, _, _, rfl, rfl, ⟨by decide, by decide, by decide⟩, _, _, rfl, rfl, p, c, n + 1, _, rfl, P2, by omega, by decide, by decide, fun d2 H3 b0 b1 k3 P3 => ?_⟩
    refine ⟨_, _, rfl, rfl, szn 2, fun l2 n4 => ?_⟩
    generalize hH4 : upd H3 l2 _ = H4
    obtain ⟨s4, e4⟩ := alloc_eq n4 hH4
    have f1 := s4 _ _ (k3 _ _ hlp (k2 _ _ hlp e1))
    refine ⟨l, l2, _, _, rfl, rfl, f1, e4, by show 11 ≤ sizeLine; decide, alloc_of fun l3 H5 n5 s5 e5 => ?_⟩
    have P5 := (P3.same s4).same s5
    refine ⟨p, c, n + 2, l3, _, rfl, P5, by omega, e5, (P3.same s4).newP n5, by show 0 < 11; decide, by show 11 ≤ 1000; decide, fun v H6 hv k6 P6 => ?_⟩
    have K6 : But p H H6 := (((((But.same s1).trans k2).trans k3).trans (.same s4)).trans (.same s5)).trans k6
    have hv' : v ∈ ([.int 2, .int 3, .int 10, .int 97, .int 4294967296, .int 1000000007, .int 999999, .int 1000000000000000000, .int 999999999999999999, .int (2 + d1), .int (2 + d2)] : List V) := hv
    have b1' : d2 < 999999999999999999 := b1
    simp only [List.mem_cons, List.not_mem_nil, or_false] at hv'
    rcases hv' with e | e | e | e | e | e | e | e | e | e | e <;> (subst e; exact q _ H6 (by omega) (by omega) K6 P6)
abbrev s_value : Stmt := topS 42
theorem sc_value : FnScope ["pen", "modulus", "some"] ["pen", "modulus"] (defScope s_value) := ⟨rfl, rfl, rfl, by decide +kernel, rfl, by decide +kernel, by decide +kernel⟩
theorem ok_value {f : Addr} {fd : FuncData} (T : Txt mg) (F : FnP K "_law_value" s_value f fd) (c__law_draw : Cal P w K mg base CX0 2 "_law_draw" ["pen", "many"] spDraw) (c__law_pick : Cal P w K mg base CX0 2 "_law_pick" ["pen", "some"] spPick) :
    FnOk P w K mg base CX0 3 f fd ["pen", "modulus"] spValue := by
  have sc := sc_value
  refine F.ok sc (fun vs H Q E h => ?_) (fun cdv A outer s H vs Q E hr h => ?_)
  · obtain ⟨p, c, n, m, rfl, _⟩ := h
    rfl
  · obtain ⟨p, c, n, m, rfl, hP, hn, m2, m3, q⟩ := h
    refine ⟨_, PSs.nox (pss_cons (ps_set (i := 2) sc.nd rfl (.inl rfl) (pe_lst (pa_cons pe_int (pa_cons pe_int (pa_cons (pe_un un_neg pe_int) (pa_cons (pv 1) (pa_cons (pe_op op_sub (pv 1) pe_int) (pa_cons (pe_op op_add (pv 1) pe_int) (pa_cons (pe_op op_sub pe_int (pv 1)) (pa_cons (pe_op op_add (pe_op op_pow pe_int pe_int) pe_int) (pa_cons (pe_op op_sub pe_int (pe_op op_pow pe_int pe_int)) pa_nil)))))))))))
(pss_one (ps_ret (pe_cal c__law_pick hr (by rfl) pass0 (pa_cons (pv 0) (pa_cons (pe_op op_cat (pv 2) (pe_lst (pa_cons (pe_cal c__law_draw hr (by rfl) pass0 (pa_cons (pv 0) (pa_cons (pv 1) pa_nil))) (pa_cons (pe_cal c__law_draw hr (by rfl) pass0 (pa_cons (pv 0) (pa_cons (pv 1) pa_nil))) (pa_cons (pe_cal c__law_draw hr (by rfl) pass0 (pa_cons (pv 0) (pa_cons (pe_op op_pow pe_int pe_int) pa_nil))) pa_nil))))) pa_nil)))))), ?_⟩
    refine ⟨_, rfl, .int m, rfl, .int m, rfl, _, _, rfl, rfl, .int m, rfl, _, _, rfl, rfl, .int m, rfl, _, _, rfl, rfl, _, _, rfl, rfl, ⟨by decide, by decide, by decide⟩, _, _, rfl, rfl, _, _, rfl, rfl, ⟨by decide, by decide, by decide⟩, _, _, rfl, rfl, szn 9, alloc_of fun l H1 n1 s1 e1 => ?_⟩
    have hlp : l ≠ p := hP.newP n1
    have msm : m.natAbs < 2 ^ 8000 := small_pow (by omega) (by omega)
    refine ⟨.ref p, rfl, .ref l, rfl, .ref p, rfl, .int m, rfl, p, c, n, m, rfl, hP.same s1, by omega, by omega, msm, fun d1 H2 a0 a1 k2 P2 => ?_⟩
    refine ⟨.ref p, rfl, .int m, rfl, p, c, n + 1, m, rfl, P2, by omega, by omega, msm, fun d2 H3 b0 b1 k3 P3 => ?_⟩
    refine ⟨.ref p, rfl, _, _, rfl, rfl, ⟨by decide, by decide, by decide⟩, p, c, n + 2, _, rfl, P3, by omega, by decide, by decide, fun d3 H4 c0 c1 k4 P4 => ?_⟩
    refine ⟨szn 3, fun l2 n5 => ?_⟩
    generalize hH5 : upd H4 l2 _ = H5
    obtain ⟨s5, e5⟩ := alloc_eq n5 hH5
    have f1 := s5 _ _ (k4 _ _ hlp (k3 _ _ hlp (k2 _ _ hlp e1)))
    refine ⟨l, l2, _, _, rfl, rfl, f1, e5, by show 12 ≤ sizeLine; decide, alloc_of fun l3 H6 n6 s6 e6 => ?_⟩
    have P6 := (P4.same s5).same s6
    refine ⟨p, c, n + 3, l3, _, rfl, P6, by omega, e6, (P4.same s5).newP n6, by show 0 < 12; decide, by show 12 ≤ 1000; decide, fun v H7 hv k7 P7 => ?_⟩
    have K7 : But p H H7 := ((((((But.same s1).trans k2).trans k3).trans k4).trans (.same s5)).trans (.same s6)).trans k7
    have hv' : v ∈ ([.int 0, .int 1, .int (-1), .int m, .int (m - 1), .int (m + 1), .int (0 - m), .int 100000000000000000000000000000000000000000000000000000000007, .int (-99999999999999999999999999999999999999999999999999999999997), .int d1, .int d2, .int d3] : List V) := hv
    have c1' : d3 < 1000000000000000000000000000000 := c1
    simp only [List.mem_cons, List.not_mem_nil, or_false] at hv'
    rcases hv' with e | e | e | e | e | e | e | e | e | e | e | e <;> (subst e; exact q _ H7 (by omega) K7 P7)
abbrev s_due : Stmt := topS 43
theorem sc_due : FnScope ["terms", "values", "modulus", "whole", "factor", "names", "part", "name"] ["terms", "values", "modulus"] (defScope s_due) := ⟨rfl, rfl, rfl, by decide +kernel, rfl, by decide +kernel, by decide +kernel⟩
theorem ok_due {f : Addr} {fd : FuncData} (T : Txt mg) (F : FnP K "_law_due" s_due f fd) : FnOk P w K mg base CX0 1 f fd ["terms", "values", "modulus"] (spDue K) := by
  have sc := sc_due
  refine F.ok sc (fun vs H Q E h => ?_) (fun cdv A outer s H vs Q E hr h => ?_)
  · obtain ⟨l, d, m, us, ts, kvs, val, rfl, _⟩ := h
    rfl
  · obtain ⟨l, d, m, us, ts, kvs, val, rfl, hl, hts, hd, m0, m1, hv, q⟩ := h
    have hu := hu_of hr
    refine ⟨_, PSs.nox (pss_cons (ps_set (i := 3) sc.nd rfl (.inl rfl) pe_int)
(pss_cons (ps_for PassesOwn.never rfl (pi_list (pv 0)) (pg_tup rfl (pgs_cons (pg_name (i := 4) sc.nd rfl (.inl rfl)) (pgs_cons (pg_name (i := 5) sc.nd rfl (.inl rfl)) pgs_nil)))
  (pss_cons (ps_set (i := 6) sc.nd rfl (.inl rfl) (pe_op op_modN (pe_callTy call_int1 (by rfl) T.n_int (by decide +kernel) (pa_cons (pv 4) pa_nil)) (pv 2)))
  (pss_cons (ps_for PassesOwn.never rfl (pi_tup (pv 5)) (pg_name (i := 7) sc.nd rfl (.inl rfl))
    (pss_one (ps_set (i := 6) sc.nd rfl (.inl rfl) (pe_op op_modN (pe_callTy call_int1 (by rfl) T.n_int (by decide +kernel) (pa_cons (pe_op op_mul (pv 6) (pe_op op_modN (pe_callTy call_int1 (by rfl) T.n_int (by decide +kernel) (pa_cons (pe_dget hu (pv 1) (pv 7) (fun _ _ => rfl)) pa_nil)) (pv 2))) pa_nil)) (pv 2)))))
  (pss_one (ps_set (i := 3) sc.nd rfl (.inl rfl) (pe_op op_modN (pe_callTy call_int1 (by rfl) T.n_int (by decide +kernel) (pa_cons (pe_op op_add (pv 3) (pv 6)) pa_nil)) (pv 2)))))))
(pss_one (ps_ret (pv 3))))), ?_⟩
    refine ⟨.ref l, rfl, l, rfl, ⟨_, hl⟩, for_list (K := K) (a := l) (xs := us) (fun i σ H' => H' = H ∧ ∃ a b c e : Option V, σ = [some (.ref l), some (.ref d), some (.int m), some (.int ((ts.take i).foldl (fun w t => (w + partOf val m t).fmod m) 0)), a, b, c, e]) ⟨rfl, none, none, none, none, rfl⟩
      (fun i σ H' _ ⟨e, _⟩ => by rw [e]; exact hl) ?_ ?_⟩
    · rintro i y σ H' hi ⟨rfl, a, b, c, e, rfl⟩
      obtain ⟨t, ht, ta, tb, rfl, g1, g2⟩ := paired_get hts hi
      have hm : t ∈ ts := List.mem_of_getElem? ht
      have b0 := fmod_bounds (i := t.1) m0
      refine ⟨ta, _, rfl, g1, rfl, .int t.1, [.ref tb], rfl, .ref tb, [], rfl, rfl, ?_⟩
      refine ⟨.int t.1, rfl, .inl ⟨t.1, rfl, .int m, rfl, _, _, rfl, rfl, Int.ne_of_gt m0, ?_⟩⟩
      refine ⟨.ref tb, rfl, tb, rfl, ⟨_, g2⟩, for_tup (K := K) (a := tb) (xs := t.2.map V.str) (fun j σ H2 => H2 = H' ∧ ∃ e : Option V, (0 ≤ (t.2.take j).foldl (fun p x => (p * ((val x).fmod m)).fmod m) (t.1.fmod m) ∧ (t.2.take j).foldl (fun p x => (p * ((val x).fmod m)).fmod m) (t.1.fmod m) < m) ∧ σ = [some (.ref l), some (.ref d), some (.int m), some (.int ((ts.take i).foldl (fun w t => (w + partOf val m t).fmod m) 0)), some (.int t.1), some (.ref tb), some (.int ((t.2.take j).foldl (fun p x => (p * ((val x).fmod m)).fmod m) (t.1.fmod m))), e])
        ⟨rfl, e, b0, rfl⟩ (fun j σ H2 _ ⟨z, _⟩ => by rw [z]; exact g2) ?_ ?_⟩
      · rintro j y σ H2 hj ⟨rfl, e, hp, rfl⟩
        rw [List.getElem?_map] at hj
        obtain ⟨z, hz, rfl⟩ := Option.map_eq_some_iff.mp hj
        obtain ⟨v1, v2⟩ := hv t hm z (List.mem_of_getElem? hz)
        have b1 := fmod_bounds (i := (t.2.take j).foldl (fun p x => (p * ((val x).fmod m)).fmod m) (t.1.fmod m) * ((val z).fmod m)) m0
        have dg : DGet H2 d (.str z) (some (.int (val z))) := by
          have q := DGet.k (k := Sum.inr z) hd
          rw [v1] at q
          exact q
        refine ⟨_, rfl, .ref d, rfl, .str z, rfl, d, _, rfl, dg, .inl ⟨_, rfl, .int m, rfl, _, _, rfl, rfl, Int.ne_of_gt m0, _, _, rfl, rfl, .inl ⟨by omega, by omega⟩, .inl ⟨_, rfl, .int m, rfl, _, _, rfl, rfl, Int.ne_of_gt m0, rfl, some (.str z), ?_, ?_⟩⟩⟩
        · rw [take_next hz, List.foldl_append]
          exact b1
        · rw [take_next hz, List.foldl_append]
          rfl
      · rintro σ H2 ⟨rfl, e, hp, rfl⟩
        rw [List.length_map, List.take_length]
        refine ⟨_, rfl, _, rfl, _, _, rfl, rfl, .inl ⟨_, rfl, .int m, rfl, _, _, rfl, rfl, Int.ne_of_gt m0, rfl, some (.int t.1), some (.ref tb), some (.int (partOf val m t)), e, ?_⟩⟩
        rw [take_next ht, List.foldl_append]
        rfl
    · rintro σ H' ⟨rfl, a, b, c, e, rfl⟩
      rw [hts.length, List.take_length]
      exact ⟨_, rfl, q⟩
end
/-! ### the two ways of reckoning agree -/
theorem fm {a m : Int} (h : 0 < m) : a.fmod m = a % m := Int.fmod_eq_emod_of_nonneg a (Int.le_of_lt h)
theorem part_same {val : Str → Int} {m : Int} (m0 : 0 < m) : ∀ (ws : List Str) (p q : Int), p % m = q % m → (ws.foldl (fun p x => (p * val x).fmod m) p) % m = (ws.foldl (fun p x => (p * ((val x).fmod m)).fmod m) q) % m
  | [], p, q, h => h
  | x :: r, p, q, h => by
    refine part_same m0 r _ _ ?_
    show ((p * val x).fmod m) % m = ((q * ((val x).fmod m)).fmod m) % m
    rw [fm m0, fm m0, fm m0, Int.emod_emod, Int.emod_emod, Int.mul_emod, h, Int.mul_emod q (val x % m), Int.emod_emod]
theorem part_range {val : Str → Int} {m : Int} (m0 : 0 < m) : ∀ (ws : List Str) (q : Int), 0 ≤ q → q < m → 0 ≤ (ws.foldl (fun p x => (p * ((val x).fmod m)).fmod m) q) ∧ (ws.foldl (fun p x => (p * ((val x).fmod m)).fmod m) q) < m
  | [], q, h0, h1 => ⟨h0, h1⟩
  | x :: r, q, _, _ => by
    have b := fmod_bounds (i := q * ((val x).fmod m)) m0
    exact part_range m0 r _ b.1 b.2
theorem whole_same {val : Str → Int} {m : Int} (m0 : 0 < m) : ∀ (ts : List Term) (p q : Int), p % m = q → (ts.foldl (fun w t => w + prodOf val m t) p) % m = ts.foldl (fun w t => (w + partOf val m t).fmod m) q
  | [], p, q, h => h
  | t :: r, p, q, h => by
    refine whole_same m0 r _ _ ?_
    have e : prodOf val m t % m = partOf val m t % m := part_same m0 t.2 _ _ (by rw [fm m0, Int.emod_emod])
    show (p + prodOf val m t) % m = (q + partOf val m t).fmod m
    rw [fm m0, Int.add_emod p, e, ← Int.add_emod, ← h, Int.emod_add_emod]
theorem total_due {val : Str → Int} {m : Int} (m0 : 0 < m) (ts : List Term) : totalOf val m ts = dueOf val m ts := by
  unfold totalOf dueOf
  rw [fm m0]
  exact whole_same m0 ts 0 0 (by simp)
end LC
namespace LC
open PySem PySem.Spec PyProof.Rows L2
def gT {α : Type} : List α → List α → List α
  | [u], [m, v] => [u, v, m]
  | us, ws => us ++ ws
theorem gT_rel {vs : List V} {us : List Value} {zs : List V} {ws : List Value} (r1 : Vals vs us) (r2 : Vals zs ws) : Vals (gT vs zs) (gT us ws) := by
  match vs, us, zs, ws, r1, r2 with
  | [_], [_], [_, _], [_, _], .cons a .nil, .cons b (.cons c .nil) => exact .cons a (.cons c (.cons b .nil))
  | [], [], _, _, .nil, r2 => exact r2
  | _ :: _ :: _, _ :: _ :: _, _, _, .cons a (.cons b r), r2 => exact .cons a (.cons b (Vals.append r r2))
  | [_], [_], [], [], .cons a .nil, .nil => exact .cons a .nil
  | [_], [_], [_], [_], .cons a .nil, .cons b .nil => exact .cons a (.cons b .nil)
  | [_], [_], _ :: _ :: _ :: _, _ :: _ :: _ :: _, .cons a .nil, .cons b (.cons c (.cons d r)) => exact .cons a (.cons b (.cons c (.cons d r)))
theorem total_ne : ¬ (("total" : Str) = "_names") ∧ ¬ (("total" : Str) = "_terms") := by decide +kernel
theorem sflds_total (T N : Addr) : (sflds T N).lookup ("total" : Str) = none := by
  unfold sflds
  rw [lookup_putF, if_neg total_ne.1, lookup_putF, if_neg total_ne.2]
  rfl
section
variable {P : Program} {w : World} {K : PySem.W.Frag} {mg : Str → Option Value} {base : Heap}
theorem kb_total {f : Addr} {fd : FuncData} (F : FunD K "total" "Sum.total" (defArgs s_Sum_total) (defBody s_Sum_total) (defScope s_Sum_total) [] [] f fd) : KBn K fd ["self", "values", "modulus"] 1 ["modulus", "values"] gT gT := by
  obtain ⟨oc, od, dV, kV, doc, pm, an, cdv, ct, osl, rfl, lk, hcd, hD, hK⟩ := F.ex
  rcases hD with ⟨_, rfl⟩ | ⟨e, _⟩
  · refine ⟨fun s us ws X l1 l2 => ?_, fun r1 r2 => gT_rel r1 r2⟩
    match us, l1, ws, l2 with
    | [u], _, [m, v], _ => exact .of_eq rfl
  · exact absurd rfl e
/-- total, as it is called -/
structure TotM (P : Program) (w : World) (K : PySem.W.Frag) (mg : Str → Option Value) (base : Heap) (C fT : Addr) (fdT : FuncData) (k : Nat) : Prop where
  m : Meth K C "total" fT
  F : FnOk P w K mg base CX0 k fT fdT ["self", "values", "modulus"] (spTotal K C)
  b : Binds K fdT ["self", "values", "modulus"] []
  kb : KBn K fdT ["self", "values", "modulus"] 1 ["modulus", "values"] gT gT
theorem TotM.mono {C fT : Addr} {fdT : FuncData} {j k : Nat} (t : TotM P w K mg base C fT fdT j) (h : j ≤ k) : TotM P w K mg base C fT fdT k := ⟨t.m, t.F.mono h, t.b, t.kb⟩
abbrev s_is_due : Stmt := topS 44
theorem sc_is_due : FnScope ["value", "terms", "values", "modulus", "kept", "due", "told"] ["value", "terms", "values", "modulus"] (defScope s_is_due) := ⟨rfl, rfl, rfl, by decide +kernel, rfl, by decide +kernel, by decide +kernel⟩
def spIsDue (K : PySem.W.Frag) (C : Addr) : Sp := fun vs H Q _ => ∃ (x l d : Addr) (m : Int) (us : List V) (ts : List Term) (ns : List Str) (val : Str → Int), vs = [.ref x, .ref l, .ref d, .int m] ∧ SumAt K C H x ts ∧ H l = some (.lst us) ∧ TermsV K H us ts ∧ (∀ t ∈ ts, TermFine t) ∧ H d = some (.dK (intsK ns val)) ∧
  ns.length ≤ 10 ∧ (∀ z ∈ ns, nameB z = true) ∧ (∀ z ∈ ns, (val z).natAbs < 2 ^ 250) ∧ (∀ t ∈ ts, ∀ z ∈ t.2, z ∈ ns) ∧ 0 < m ∧ m < 2 ^ 64 ∧ ∀ H', Same H H' → Q (.bl true) H'
theorem due_bounds {val : Str → Int} {m : Int} (m0 : 0 < m) : ∀ ts : List Term, 0 ≤ totalOf val m ts ∧ totalOf val m ts < m := fun ts => fmod_bounds m0
theorem ok_is_due {f C fT : Addr} {fd fdT : FuncData} (T : Txt mg) (S : SumTxt K mg C) (TM : TotM P w K mg base C fT fdT 1) (F : FnP K "_law_is_due" s_is_due f fd) (c__law_due : Cal P w K mg base CX0 1 "_law_due" ["terms", "values", "modulus"] (spDue K)) :
    GOk P w K mg base CX0 2 f fd ["value", "terms", "values", "modulus"] (spIsDue K C) := by
  have sc := sc_is_due
  refine g_of F sc (fun vs H Q E h => ?_) (fun cdv A outer s H vs Q E hg hr h => ?_)
  · obtain ⟨x, l, d, m, us, ts, ns, val, rfl, _⟩ := h
    rfl
  · obtain ⟨x, l, d, m, us, ts, ns, val, rfl, hx, hl, hts, hf, hd, n10, hn, hv, hin, m0, m1, q⟩ := h
    refine ⟨_, PSs.nox (pss_cons (ps_par (i := 4) (j := 5) (by rfl) sc.nd rfl rfl (by decide) rfl rfl (pa_cons (pe_callB (call_reprK hg hr.units) (by rfl) T.n_repr (by decide +kernel) (pa_cons (pv 2) pa_nil)) (pa_cons (pe_cal c__law_due hr (by rfl) pass0 (pa_cons (pv 1) (pa_cons (pv 2) (pa_cons (pv 3) pa_nil)))) pa_nil)) (by rfl))
(pss_cons (ps_set (i := 6) sc.nd rfl (.inl rfl) (pe_lst (pa_cons (pe_meth (pv 0) S.cl TM.m TM.F hr TM.b .nil pass0 (pa_cons (pv 2) (pa_cons (pv 3) pa_nil))) (pa_cons (pe_methK0 (pv 0) S.cl TM.m TM.F hr TM.kb pass0 (pk_cons (pv 3) (pk_cons (pv 2) pk_nil))) pa_nil))))
(pss_one (ps_ret (pe_and (pe_cmpR op_eq (pe_callB (call_reprD hg hr.units) (by rfl) T.n_repr (by decide +kernel) (pa_cons (pv 6) pa_nil)) (pe_callB (call_reprD hg hr.units) (by rfl) T.n_repr (by decide +kernel) (pa_cons (pe_lst (pa_cons (pv 5) (pa_cons (pv 5) pa_nil))) pa_nil)) (nomark _)) (pe_one (pe_cmpR op_eq (pe_callB (call_reprK hg hr.units) (by rfl) T.n_repr (by decide +kernel) (pa_cons (pv 2) pa_nil)) (pv 4) (nomark _)))))))), ?_⟩
    obtain ⟨s1, s2, s3⟩ := ints_shown hn hv n10
    obtain ⟨dx, T0, N, us0, h1, h2, h3, h4⟩ := id hx
    have hval : ∀ t ∈ ts, ∀ z ∈ t.2, valV (intsK ns val) (Sum.inr z) = some (.int (val z)) ∧ (val z).natAbs < 2 ^ 250 := fun t ht z hz => ⟨valV_ints (hin t ht z hz), hv z (hin t ht z hz)⟩
    -- kept, due
    refine ⟨.ref d, rfl, d, _, _, rfl, hd, kvd_ints val ns, s1, s2, s3, ?_⟩
    refine ⟨.ref l, rfl, .ref d, rfl, .int m, rfl, l, d, m, us, ts, _, val, rfl, .of hl, hts, hd, m0, m1, hval, _, _, rfl, ?_⟩
    -- told
    refine ⟨.ref x, rfl, x, dx, _, rfl, h1, sflds_total _ _, .ref d, rfl, .int m, rfl, x, d, m, ts, _, val, rfl, hx, hd, m0, m1, hf, hval, ?_⟩
    refine ⟨.ref x, rfl, x, dx, _, rfl, h1, sflds_total _ _, .int m, rfl, .ref d, rfl, rfl, x, d, m, ts, _, val, rfl, hx, hd, m0, m1, hf, hval, ?_⟩
    refine ⟨szn 2, fun tp n1 => ?_⟩
    generalize hH1 : upd H tp _ = H1
    obtain ⟨k1, e1⟩ := alloc_eq n1 hH1
    have bt := due_bounds (val := val) m0 ts
    have bd : (dueOf val m ts).natAbs < 2 ^ 250 := by
      rw [← total_due m0]
      exact Nat.lt_of_lt_of_le (natAbs_lt_pow bt.1 (Int.lt_trans bt.2 m1)) (by decide)
    have bt2 : (totalOf val m ts).natAbs < 2 ^ 250 := by
      rw [total_due m0]
      exact bd
    obtain ⟨c1, c2, c3, c4⟩ := two_shown bt2 bt2
    obtain ⟨d1, d2, d3, d4⟩ := two_shown bd bd
    refine ⟨.ref tp, rfl, tp, _, rfl, .lst (.of e1) (dpAll_ints [totalOf val m ts, totalOf val m ts]), c1, c2, c3, c4, ?_⟩
    refine ⟨.int (dueOf val m ts), rfl, .int (dueOf val m ts), rfl, szn 2, fun dp n2 => ?_⟩
    generalize hH2 : upd H1 dp _ = H2
    obtain ⟨k2, e2⟩ := alloc_eq n2 hH2
    refine ⟨dp, _, rfl, .lst (.of e2) (dpAll_ints [dueOf val m ts, dueOf val m ts]), d1, d2, d3, d4, rfl, ?_⟩
    refine ⟨_, rfl, iteD (fun _ => ?_) (fun z => absurd (show _ = _ by rw [total_due m0]) z)⟩
    have kk := k1.trans k2
    exact ⟨.ref d, rfl, d, _, _, rfl, kk _ _ hd, kvd_ints val ns, s1, s2, s3, _, rfl, rfl, by rw [decide_eq_true rfl]; exact q _ kk⟩
end
end LC
/-! LcMath: what a sum is worth. -/
namespace LC
open PySem PySem.Spec PyProof.Rows L2
/-- without any modulus -/
def exactOf (val : Str → Int) (t : Term) : Int := t.2.foldl (fun p x => p * val x) t.1
def sumOf (val : Str → Int) (ts : List Term) : Int := ts.foldl (fun w t => w + exactOf val t) 0
theorem part_exact {val : Str → Int} {m : Int} (m0 : 0 < m) : ∀ (ws : List Str) (p q : Int), p % m = q % m → (ws.foldl (fun p x => (p * val x).fmod m) p) % m = (ws.foldl (fun p x => p * val x) q) % m
  | [], p, q, h => h
  | x :: r, p, q, h => by
    refine part_exact m0 r _ _ ?_
    show ((p * val x).fmod m) % m = (q * val x) % m
    rw [fm m0, Int.emod_emod, Int.mul_emod, h, ← Int.mul_emod]
theorem whole_exact {val : Str → Int} {m : Int} (m0 : 0 < m) : ∀ (ts : List Term) (p q : Int), p % m = q % m → (ts.foldl (fun w t => w + prodOf val m t) p) % m = (ts.foldl (fun w t => w + exactOf val t) q) % m
  | [], p, q, h => h
  | t :: r, p, q, h => by
    refine whole_exact m0 r _ _ ?_
    have e : prodOf val m t % m = exactOf val t % m := part_exact m0 t.2 _ _ rfl
    show (p + prodOf val m t) % m = (q + exactOf val t) % m
    rw [Int.add_emod, e, h, ← Int.add_emod]
theorem total_exact {val : Str → Int} {m : Int} (m0 : 0 < m) (ts : List Term) : totalOf val m ts = sumOf val ts % m := by
  unfold totalOf sumOf
  rw [fm m0]
  exact whole_exact m0 ts 0 0 rfl
/-- only the values by the modulus count -/
theorem due_mod {v1 v2 : Str → Int} {m : Int} : ∀ (ts : List Term) (q : Int), (∀ t ∈ ts, ∀ z ∈ t.2, (v1 z).fmod m = (v2 z).fmod m) → ts.foldl (fun w t => (w + partOf v1 m t).fmod m) q = ts.foldl (fun w t => (w + partOf v2 m t).fmod m) q
  | [], _, _ => rfl
  | t :: r, q, h => by
    have e : ∀ (ws : List Str) (p : Int), (∀ z ∈ ws, (v1 z).fmod m = (v2 z).fmod m) → ws.foldl (fun p x => (p * ((v1 x).fmod m)).fmod m) p = ws.foldl (fun p x => (p * ((v2 x).fmod m)).fmod m) p := fun ws => by
      induction ws with
      | nil => intro _ _; rfl
      | cons x r ih =>
        intro p hp
        show r.foldl _ ((p * ((v1 x).fmod m)).fmod m) = r.foldl _ ((p * ((v2 x).fmod m)).fmod m)
        rw [hp x (List.mem_cons_self ..)]
        exact ih _ fun z hz => hp z (List.mem_cons_of_mem _ hz)
    have e2 : partOf v1 m t = partOf v2 m t := e t.2 _ (h t (List.mem_cons_self ..))
    show r.foldl _ ((q + partOf v1 m t).fmod m) = r.foldl _ ((q + partOf v2 m t).fmod m)
    rw [e2]
    exact due_mod r _ fun u hu => h u (List.mem_cons_of_mem _ hu)
/-- a value moved by the modulus, some times -/
theorem moved_same {val : Str → Int} {m k : Int} (m0 : 0 < m) (z : Str) (ts : List Term) : totalOf (valPut val z (val z + m * k)) m ts = totalOf val m ts := by
  rw [total_due m0, total_due m0]
  refine due_mod ts 0 fun t _ x _ => ?_
  unfold valPut
  by_cases e : x = z
  · rw [if_pos e, e, fm m0, fm m0, Int.add_mul_emod_self_left]
  · rw [if_neg e]
/-- the other way round -/
def turn1 (t : Term) : Term := (t.1, t.2.reverse)
def turnT (ts : List Term) : List Term := ts.reverse.map turn1
theorem exact_turn (val : Str → Int) (t : Term) : exactOf val (turn1 t) = exactOf val t :=
  List.Perm.foldl_eq' (List.reverse_perm t.2) (fun x _ y _ z => by rw [Int.mul_assoc, Int.mul_comm (val x), ← Int.mul_assoc]) t.1
theorem sum_turn (val : Str → Int) (ts : List Term) : sumOf val (turnT ts) = sumOf val ts := by
  have e : sumOf val (turnT ts) = sumOf val ts.reverse := by
    unfold sumOf turnT
    rw [List.foldl_map]
    congr 1
    funext w t
    rw [exact_turn]
  rw [e]
  exact List.Perm.foldl_eq' (List.reverse_perm ts) (fun x _ y _ z => by omega) 0
theorem total_turn {val : Str → Int} {m : Int} (m0 : 0 < m) (ts : List Term) : totalOf val m (turnT ts) = totalOf val m ts := by
  rw [total_exact m0, total_exact m0, sum_turn]
/-! ### unlike names are the names, each once -/
theorem addN_mem {acc : List Str} {x z : Str} : z ∈ addN acc x ↔ z ∈ acc ∨ z = x := by
  unfold addN
  by_cases h : x ∈ acc
  · rw [if_pos h]
    constructor
    · exact .inl
    · rintro (a | a)
      · exact a
      · rw [a]; exact h
  · rw [if_neg h]
    simp
theorem addN_nodup {acc : List Str} {x : Str} (h : acc.Nodup) : (addN acc x).Nodup := by
  unfold addN
  by_cases m : x ∈ acc
  · rw [if_pos m]
    exact h
  · rw [if_neg m, List.nodup_append]
    refine ⟨h, by simp, fun a ha b hb e => ?_⟩
    rw [List.mem_singleton] at hb
    rw [e, hb] at ha
    exact m ha
theorem foldN_mem {z : Str} : ∀ (ws acc : List Str), z ∈ ws.foldl addN acc ↔ z ∈ acc ∨ z ∈ ws
  | [], acc => by simp
  | x :: r, acc => by
    show z ∈ r.foldl addN (addN acc x) ↔ _
    rw [foldN_mem r, addN_mem, List.mem_cons, or_assoc]
theorem foldN_nodup : ∀ (ws acc : List Str), acc.Nodup → (ws.foldl addN acc).Nodup
  | [], acc, h => h
  | x :: r, acc, h => foldN_nodup r _ (addN_nodup h)
theorem unlikeF_mem {z : Str} : ∀ (ts : List Term) (acc : List Str), z ∈ unlikeF acc ts ↔ z ∈ acc ∨ ∃ t ∈ ts, z ∈ t.2
  | [], acc => by simp [unlikeF]
  | t :: r, acc => by
    show z ∈ unlikeF (t.2.foldl addN acc) r ↔ _
    rw [unlikeF_mem r, foldN_mem]
    constructor
    · rintro ((a | a) | ⟨u, hu, hz⟩)
      · exact .inl a
      · exact .inr ⟨t, List.mem_cons_self .., a⟩
      · exact .inr ⟨u, List.mem_cons_of_mem _ hu, hz⟩
    · rintro (a | ⟨u, hu, hz⟩)
      · exact .inl (.inl a)
      · rcases List.mem_cons.mp hu with e | hu
        · rw [e] at hz
          exact .inl (.inr hz)
        · exact .inr ⟨u, hu, hz⟩
theorem unlikeF_nodup : ∀ (ts : List Term) (acc : List Str), acc.Nodup → (unlikeF acc ts).Nodup
  | [], acc, h => h
  | t :: r, acc, h => unlikeF_nodup r _ (foldN_nodup t.2 acc h)
theorem unlike_mem {z : Str} {ts : List Term} : z ∈ unlike ts ↔ ∃ t ∈ ts, z ∈ t.2 := by
  have e := unlikeF_mem (z := z) ts []
  unfold unlike
  rw [e]
  simp
theorem unlike_nodup (ts : List Term) : (unlike ts).Nodup := unlikeF_nodup ts [] List.nodup_nil
theorem unlike_le {ts : List Term} {ys : List Str} (h : ∀ t ∈ ts, ∀ z ∈ t.2, z ∈ ys) : (unlike ts).length ≤ ys.length :=
  List.Nodup.length_le_of_subset (unlike_nodup ts) fun z hz => by
    obtain ⟨t, ht, hz⟩ := unlike_mem.mp hz
    exact h t ht z hz
theorem mem_turn {ts : List Term} {t : Term} : t ∈ turnT ts ↔ ∃ u ∈ ts, turn1 u = t := by
  unfold turnT
  rw [List.mem_map]
  constructor
  · rintro ⟨u, hu, e⟩
    exact ⟨u, List.mem_reverse.mp hu, e⟩
  · rintro ⟨u, hu, e⟩
    exact ⟨u, List.mem_reverse.mpr hu, e⟩
theorem fine_turn {ts : List Term} (h : Fine ts) : Fine (turnT ts) := by
  obtain ⟨h1, h2, h3, h4⟩ := h
  have hl : (turnT ts).length = ts.length := by
    unfold turnT
    rw [List.length_map, List.length_reverse]
  refine ⟨by omega, by omega, fun t ht => ?_, ?_⟩
  · obtain ⟨u, hu, rfl⟩ := mem_turn.mp ht
    obtain ⟨a, b, c, d⟩ := h3 u hu
    refine ⟨a, b, ?_, fun x hx => d x (List.mem_reverse.mp hx)⟩
    show u.2.reverse.length ≤ 3
    rw [List.length_reverse]
    exact c
  · refine Nat.le_trans (unlike_le (ys := unlike ts) fun t ht z hz => ?_) h4
    obtain ⟨u, hu, rfl⟩ := mem_turn.mp ht
    exact unlike_mem.mpr ⟨u, hu, List.mem_reverse.mp hz⟩
theorem fine_of {ys : List Str} {ts : List Term} (h1 : 1 ≤ ts.length) (h4 : ts.length ≤ 4) (ho : ∀ t ∈ ts, TermOk ys t) (hn : ∀ y ∈ ys, nameB y = true) (hy : ys.length ≤ 3) : Fine ts :=
  ⟨h1, h4, fun t ht => ⟨(ho t ht).1, (ho t ht).2.1, (ho t ht).2.2.1, fun x hx => hn x ((ho t ht).2.2.2 x hx)⟩, Nat.le_trans (unlike_le fun t ht z hz => (ho t ht).2.2.2 z hz) hy⟩
end LC
namespace LC
open PySem PySem.Spec PyProof.Rows L2
theorem paired_snoc {α β : Type} {F : α → β → Prop} {a : α} {b : β} (h : F a b) : ∀ {xs : List α} {ys : List β}, Paired F xs ys → Paired F (xs ++ [a]) (ys ++ [b])
  | _, _, .nil => .cons h .nil
  | _, _, .cons c r => .cons c (paired_snoc h r)
theorem paired_rev {α β : Type} {F : α → β → Prop} : ∀ {xs : List α} {ys : List β}, Paired F xs ys → Paired F xs.reverse ys.reverse
  | _, _, .nil => .nil
  | _, _, .cons c r => by
    rw [List.reverse_cons, List.reverse_cons]
    exact paired_snoc c (paired_rev r)
section
variable {P : Program} {w : World} {K : PySem.W.Frag} {mg : Str → Option Value} {base : Heap}
abbrev s_moved : Stmt := topS 45
theorem sc_moved : FnScope ["pen", "terms", "values", "modulus", "value", "names", "name", "step", "far", "near", "turned", "factor"] ["pen", "terms", "values", "modulus"] (defScope s_moved) := ⟨rfl, rfl, rfl, by decide +kernel, rfl, by decide +kernel, by decide +kernel⟩
def spMoved (K : PySem.W.Frag) (C : Addr) : Sp := fun vs H Q _ => ∃ (p c : Addr) (n : Nat) (l d : Addr) (m : Int) (us : List V) (ts : List Term) (ns : List Str) (val : Str → Int), vs = [.ref p, .ref l, .ref d, .int m] ∧ Pen H p c n ∧ n ≤ 90000 ∧ H l = some (.lst us) ∧ l ≠ p ∧ TermsV K H us ts ∧ Fine ts ∧ H d = some (.dK (intsK ns val)) ∧
  ns.length ≤ 10 ∧ (∀ z ∈ ns, nameB z = true) ∧ (∀ z ∈ ns, (val z).natAbs < 2 ^ 240) ∧ (∀ t ∈ ts, ∀ z ∈ t.2, z ∈ ns) ∧ 0 < m ∧ m ≤ 1000000000000000000 ∧ ∀ H', But p H H' → Pen H' p c (n + 10) → Q (.bl true) H'
theorem ok_moved {f C fT : Addr} {fd fdT : FuncData} (T : Txt mg) (S : SumTxt K mg C) (TM : TotM P w K mg base C fT fdT 6) (F : FnP K "_law_moved" s_moved f fd) (c__law_due : Cal P w K mg base CX0 6 "_law_due" ["terms", "values", "modulus"] (spDue K))
    (c__law_is_due : CalG P w K mg base CX0 6 "_law_is_due" ["value", "terms", "values", "modulus"] (spIsDue K C)) (c__law_sum : Cal P w K mg base CX0 6 "_law_sum" ["terms"] (spSum K C)) (c__law_unlike : Cal P w K mg base CX0 6 "_law_unlike" ["terms"] (spUnlike K)) (c__law_draw : Cal P w K mg base CX0 6 "_law_draw" ["pen", "many"] spDraw) :
    GOk P w K mg base CX0 7 f fd ["pen", "terms", "values", "modulus"] (spMoved K C) := by
  have sc := sc_moved
  refine g_of F sc (fun vs H Q E h => ?_) (fun cdv A outer s H vs Q E hg hr h => ?_)
  · obtain ⟨p, c, n, l, d, m, us, ts, ns, val, rfl, _⟩ := h
    rfl
  · obtain ⟨p, c, n, l, d, m, us, ts, ns, val, rfl, hP, hn9, hl, hlp, hts, hf, hd, n10, hn, hv, hin, m0, m1, q⟩ := h
    have hu := hu_of hr
    refine ⟨_, PSs.nox (pss_cons (ps_par (i := 4) (j := 5) (by rfl) sc.nd rfl rfl (by decide) rfl rfl (pa_cons (pe_cal c__law_sum hr (by rfl) pass0 (pa_cons (pv 1) pa_nil)) (pa_cons (pe_cal c__law_unlike hr (by rfl) pass0 (pa_cons (pv 1) pa_nil)) pa_nil)) (by rfl))
(pss_cons (ps_for PassesOwn.never rfl (pi_list (pv 5)) (pg_name (i := 6) sc.nd rfl (.inl rfl))
  (pss_cons (ps_set (i := 7) sc.nd rfl (.inl rfl) (pe_ix ix_list (pe_lst (pa_cons (pv 3) (pa_cons (pe_op op_sub pe_int (pv 3)) (pa_cons (pe_op op_mul (pv 3) pe_int) pa_nil)))) (pe_cal c__law_draw hr (by rfl) pass0 (pa_cons (pv 0) (pa_cons pe_int pa_nil))) (fun _ _ => rfl)))
  (pss_cons (ps_set (i := 8) sc.nd rfl (.inl rfl) (pe_callTy call_dictD (by rfl) T.n_dict (by decide +kernel) (pa_cons (pv 2) pa_nil)))
  (pss_cons (ps_dput hu (pv 8) (pv 6) (pe_op op_add (pe_dget hu (pv 2) (pv 6) (fun _ _ => rfl)) (pv 7)) rfl)
  (pss_cons (ps_if (pt_cmpR op_ne (pe_callB SkE.call_repr_int (by rfl) T.n_repr (by decide +kernel) (pa_cons (pe_meth (pv 4) S.cl TM.m TM.F hr TM.b .nil pass0 (pa_cons (pv 8) (pa_cons (pv 3) pa_nil))) pa_nil)) (pe_callB SkE.call_repr_int (by rfl) T.n_repr (by decide +kernel) (pa_cons (pe_meth (pv 4) S.cl TM.m TM.F hr TM.b .nil pass0 (pa_cons (pv 2) (pa_cons (pv 3) pa_nil))) pa_nil)) (nomark _))
    (pss_one (ps_ret pe_bl))
    pss_nil)
  (pss_cons (ps_set (i := 9) sc.nd rfl (.inl rfl) (pe_callTy call_dictD (by rfl) T.n_dict (by decide +kernel) (pa_cons (pv 2) pa_nil)))
  (pss_cons (ps_dput hu (pv 9) (pv 6) (pe_op op_add (pe_dget hu (pv 2) (pv 6) (fun _ _ => rfl)) pe_int) rfl)
  (pss_one (ps_if (pt_not (pt_val (pe_calG c__law_is_due hg hr (by rfl) pass0 (pa_cons (pv 4) (pa_cons (pv 1) (pa_cons (pv 9) (pa_cons (pv 3) pa_nil)))))))
    (pss_one (ps_ret pe_bl))
    pss_nil)))))))))
(pss_cons (ps_setLc (i := 10) (own := [("factor", 11), ("names", 5)]) (g := (gTup K 2 (gCons (gName 11) (gCons (gName 5) gNil)))) (te := (tTup (tCons (tVar 11) (tCons (tRevT K (tVar 5)) tNil)))) (tt := tYes) rfl sc.nd rfl rfl (by rfl) (pi_list (pe_revL (pv 1))) (blkOk_by (N := ["pen", "terms", "values", "modulus", "value", "names", "name", "step", "far", "near", "turned", "factor"]) (sc := defScope s_moved) (by decide +kernel)) (fun _ _ _ _ _ => by exact (pg_tup rfl (pgs_cons (pg_name (i := 11) sc.nd rfl (.inl rfl)) (pgs_cons (pg_name (i := 5) sc.nd rfl (.inl rfl)) pgs_nil)))) (fun _ _ _ _ _ => by exact pts_nil) (fun _ _ _ _ _ => by exact (pe_tup (pa_cons (pv 11) (pa_cons (pe_revT (pv 5)) pa_nil)))))
(pss_one (ps_ret (pe_cmpR op_eq (pe_callB SkE.call_repr_int (by rfl) T.n_repr (by decide +kernel) (pa_cons (pe_meth (pe_cal c__law_sum hr (by rfl) pass0 (pa_cons (pv 10) pa_nil)) S.cl TM.m TM.F hr TM.b .nil pass0 (pa_cons (pv 2) (pa_cons (pv 3) pa_nil))) pa_nil)) (pe_callB SkE.call_repr_int (by rfl) T.n_repr (by decide +kernel) (pa_cons (pe_cal c__law_due hr (by rfl) pass0 (pa_cons (pv 1) (pa_cons (pv 2) (pa_cons (pv 3) pa_nil)))) pa_nil)) (nomark _))))))), ?_⟩
    obtain ⟨l1, l4, tf, u3⟩ := id hf
    have m64 : m < 2 ^ 64 := Int.lt_of_le_of_lt m1 (by decide)
    have hlt : us.length = ts.length := hts.length
    have vals : ∀ v1 : Str → Int, (∀ z ∈ ns, (v1 z).natAbs < 2 ^ 250) → ∀ t ∈ ts, ∀ z ∈ t.2, valV (intsK ns v1) (Sum.inr z) = some (.int (v1 z)) ∧ (v1 z).natAbs < 2 ^ 250 := fun v1 hb t ht z hz => ⟨valV_ints (hin t ht z hz), hb z (hin t ht z hz)⟩
    have hv0 : ∀ z ∈ ns, (val z).natAbs < 2 ^ 250 := fun z hz => Nat.lt_of_lt_of_le (hv z hz) (by decide)
    have logt : ∀ (v1 : Str → Int) (us : List Term), (totalOf v1 m us).natAbs.log2 < 1920 := fun v1 us => by
      have b := due_bounds (val := v1) m0 us
      have q := log2_small (i := totalOf v1 m us) (Nat.lt_of_lt_of_le (natAbs_lt_pow b.1 (Int.lt_trans b.2 m64)) (by decide))
      omega
    -- value, names
    refine ⟨.ref l, rfl, l, us, ts, rfl, .of hl, hts, hf, fun x H1 nx k1 sx => ?_⟩
    refine ⟨.ref l, rfl, l, us, ts, rfl, .of (k1 _ _ hl), hts.same k1, by omega, fun t ht => Nat.le_trans (tf t ht).2.2.1 (by decide), fun r H2 nr k2 er => ?_⟩
    refine ⟨_, _, rfl, ?_⟩
    have k12 := k1.trans k2
    have sx2 := sx.same k2
    have hP2 := hP.same k12
    obtain ⟨px, hpx⟩ := hP2.at_
    have hrp : r ≠ p := (hP.same k1).newP nr
    have hl2 := k12 _ _ hl
    have hd2 := k12 _ _ hd
    have hts2 := hts.same k12
    have hdp : d ≠ p := ne_of hd2 hpx (fun z => nomatch z)
    -- the names, one by one
    refine ⟨.ref r, rfl, r, rfl, ⟨_, .of er⟩, for_list (K := K) (a := r) (xs := (unlike ts).map V.str) (fun i σ H' => (∃ a b c e : Option V, σ = [some (.ref p), some (.ref l), some (.ref d), some (.int m), some (.ref x), some (.ref r), a, b, c, e, none, none]) ∧ But p H2 H' ∧ Pen H' p c (n + i)) ⟨⟨none, none, none, none, rfl⟩, But.refl _ _, hP2⟩
      (fun i σ H' _ ⟨_, k, _⟩ => .of (k _ _ hrp er)) ?_ ?_⟩
    · rintro i y σ H' hi ⟨⟨a, b, c0, e, rfl⟩, k', P'⟩
      rw [List.getElem?_map] at hi
      obtain ⟨z, hz, rfl⟩ := Option.map_eq_some_iff.mp hi
      have hzu : z ∈ unlike ts := List.mem_of_getElem? hz
      have hzn : z ∈ ns := by
        obtain ⟨t, ht, h⟩ := unlike_mem.mp hzu
        exact hin t ht z h
      have i3 : i < (unlike ts).length := (List.getElem?_eq_some_iff.mp hz).1
      have hd' := k' _ _ hdp hd2
      have hl' := k' _ _ hlp hl2
      have hts' := hts2.but k' hpx
      have sx' := sx2.but k' hpx
      obtain ⟨px', hpx'⟩ := P'.at_
      -- step
      refine ⟨.int m, rfl, .int m, rfl, _, _, rfl, rfl, .int m, rfl, _, _, rfl, rfl, .inr ⟨by decide, by decide⟩, szn 3, fun sl n3 => ?_⟩
      generalize hH3 : upd H' sl _ = H3
      obtain ⟨s3, e3⟩ := alloc_eq n3 hH3
      have h3p : sl ≠ p := P'.newP n3
      refine ⟨.ref p, rfl, p, c, n + i, 3, rfl, P'.same s3, by omega, by decide, by decide, fun g H4 g0 g1 k4 P4 => ?_⟩
      obtain ⟨v, ha, hvm⟩ := atI_in (xs := ([.int m, .int (0 - m), .int (m * 12)] : List V)) g0 g1
      have hkk : ∃ kk : Int, v = .int (m * kk) ∧ (m * kk).natAbs ≤ 12000000000000000000 := by
        simp only [List.mem_cons, List.not_mem_nil, or_false] at hvm
        rcases hvm with e | e | e
        · exact ⟨1, by rw [e, Int.mul_one], by rw [Int.mul_one]; omega⟩
        · refine ⟨-1, by rw [e]; congr 1; omega, by omega⟩
        · exact ⟨12, e, by omega⟩
      obtain ⟨kk, rfl, hkk⟩ := hkk
      refine ⟨sl, _, g, _, rfl, rfl, k4.sql e3 h3p, ha, ?_⟩
      have K4 : But p H' H4 := (But.same s3).trans k4
      have hd4 := K4 _ _ hdp hd'
      have hl4 := K4 _ _ hlp hl'
      have hts4 := hts'.but K4 hpx'
      have sx4 := sx'.but K4 hpx'
      -- far
      refine ⟨.ref d, rfl, d, _, rfl, .inl hd4, fun fa n5 => ?_⟩
      generalize hH5 : upd H4 fa _ = H5
      obtain ⟨s5, e5⟩ := alloc_eq n5 hH5
      have dgt : ∀ {H7 : Hp}, H7 d = some (.dK (intsK ns val)) → DGet H7 d (.str z) (some (.int (val z))) := fun h => by
        have q := DGet.k (k := Sum.inr z) h
        rw [valV_ints hzn] at q
        exact q
      have lk : (intsK ns val).length < sizeLine := by
        unfold intsK
        rw [List.length_map]
        exact sz_lt (by omega)
      refine ⟨.ref d, rfl, .str z, rfl, d, _, rfl, dgt (s5 _ _ hd4), .int (m * kk), rfl, _, _, rfl, rfl, .ref fa, rfl, .str z, rfl, fa, _, rfl, DPut.k (k := Sum.inr z) e5 lk, ?_⟩
      rw [putK_ints _ hzn]
      generalize hH6 : upd H5 fa _ = H6
      have e6 : H6 fa = some (.dK (intsK ns (valPut val z (val z + m * kk)))) := by
        rw [← hH6]
        exact upd_same
      have s6 : Same H4 H6 := fun b o e => by
        rw [← hH6, upd_ne (ne_of_none e n5)]
        exact s5 b o e
      have sx6 := sx4.same s6
      have hd6 := s6 _ _ hd4
      obtain ⟨dx, T0, N, us0, h1, _⟩ := id sx6
      have hv1 : ∀ y ∈ ns, (valPut val z (val z + m * kk) y).natAbs < 2 ^ 250 := fun y hy => by
        unfold valPut
        split
        · have b1 := hv z hzn
          have b2 := Int.natAbs_add_le (val z) (m * kk)
          omega
        · exact hv0 y hy
      refine ⟨.ref x, rfl, x, dx, _, rfl, h1, sflds_total _ _, .ref fa, rfl, .int m, rfl, x, fa, m, ts, _, _, rfl, sx6, e6, m0, m64, tf, vals _ hv1, _, rfl, logt _ _, ?_⟩
      refine ⟨.ref x, rfl, x, dx, _, rfl, h1, sflds_total _ _, .ref d, rfl, .int m, rfl, x, d, m, ts, _, _, rfl, sx6, hd6, m0, m64, tf, vals _ hv0, _, rfl, logt _ _, ?_⟩
      refine ⟨rfl, _, rfl, iteND (fun q => absurd (by rw [moved_same m0]) q) (fun _ => ?_)⟩
      -- near
      refine ⟨.ref d, rfl, d, _, rfl, .inl hd6, fun na n7 => ?_⟩
      generalize hH7 : upd H6 na _ = H7
      obtain ⟨s7, e7⟩ := alloc_eq n7 hH7
      refine ⟨.ref d, rfl, .str z, rfl, d, _, rfl, dgt (s7 _ _ hd6), _, _, rfl, rfl, .ref na, rfl, .str z, rfl, na, _, rfl, DPut.k (k := Sum.inr z) e7 lk, ?_⟩
      rw [putK_ints _ hzn]
      generalize hH8 : upd H7 na _ = H8
      have e8 : H8 na = some (.dK (intsK ns (valPut val z (val z + 1)))) := by
        rw [← hH8]
        exact upd_same
      have s8 : Same H6 H8 := fun b o e => by
        rw [← hH8, upd_ne (ne_of_none e n7)]
        exact s7 b o e
      have hv2 : ∀ y ∈ ns, (valPut val z (val z + 1) y).natAbs < 2 ^ 250 := fun y hy => by
        unfold valPut
        split
        · have b1 := hv z hzn
          omega
        · exact hv0 y hy
      have s48 := s6.trans s8
      refine ⟨.ref x, rfl, .ref l, rfl, .ref na, rfl, .int m, rfl, x, l, na, m, us, ts, ns, _, rfl, sx6.same s8, s48 _ _ hl4, hts4.same s48, tf, e8, n10, hn, hv2, hin, m0, m64, fun H9 k9 => ?_⟩
      refine ⟨_, rfl, iteF ?_⟩
      have K9 : But p H4 H9 := .same (s48.trans k9)
      exact ⟨⟨_, _, _, _, rfl⟩, (k'.trans K4).trans K9, (P4.same (s48.trans k9)).mono (by omega)⟩
    · rintro σ H' ⟨⟨a, b, c0, e, rfl⟩, k', P'⟩
      have hd' := k' _ _ hdp hd2
      have hl' := k' _ _ hlp hl2
      have hts' := hts2.but k' hpx
      -- turned
      refine ⟨.ref l, rfl, l, us, rfl, .of hl', fun rl n3 => ?_⟩
      generalize hH3 : upd H' rl _ = H3
      obtain ⟨s3, e3⟩ := alloc_eq n3 hH3
      refine ⟨rl, rfl, ⟨_, .of e3⟩, fun D nD => ?_⟩
      refine lc_list (K := K) (a := rl) (xs := us.reverse) (fun i H4 => ∃ vs2 : List V, Same H3 H4 ∧ H4 D = some (.lst vs2) ∧ TermsV K H4 vs2 ((ts.reverse.take i).map turn1) ∧ vs2.length = i) ⟨[], same_new nD, upd_same, .nil, rfl⟩ (fun i H4 _ ⟨_, s, _⟩ => .of (s _ _ e3)) ?_ ?_
      · rintro i v H4 hi ⟨vs2, s4, hD, h2, hl2'⟩
        obtain ⟨t, ht, ta, tb, rfl, g1, g2⟩ := paired_get (paired_rev hts') hi
        have g1' := sqt_same (s3.trans s4) g1
        have g2' := sqt_same (s3.trans s4) g2
        have hil : i < us.reverse.length := (List.getElem?_eq_some_iff.mp hi).1
        rw [List.length_reverse] at hil
        refine ⟨ta, _, rfl, g1', rfl, .int t.1, [.ref tb], rfl, .ref tb, [], rfl, rfl, rfl, tyes_of ?_⟩
        refine ⟨.int t.1, rfl, .ref tb, rfl, tb, _, rfl, g2', fun tn ntn => ?_⟩
        generalize hH5 : upd H4 tn _ = H5
        obtain ⟨s5, e5⟩ := alloc_eq ntn hH5
        refine ⟨szn 2, fun tt ntt => ?_⟩
        generalize hH6 : upd H5 tt _ = H6
        obtain ⟨s6, e6⟩ := alloc_eq ntt hH6
        have hD6 := s6 _ _ (s5 _ _ hD)
        have e56 := s6 _ _ e5
        rw [← List.map_reverse] at e56
        refine ⟨vs2, hD6, sz_lt (by omega), vs2 ++ [.ref tt], fun b o e => ?_, upd_same, ?_, ?_⟩
        · rw [upd_ne (ne_of_none e nD)]
          exact s6 _ _ (s5 _ _ (s4 b o e))
        · have k6 : But D H6 (upd H6 D (.lst (vs2 ++ [.ref tt]))) := .set
          rw [take_next ht, List.map_append]
          exact ((h2.same (s5.trans s6)).but k6 hD6).snoc (TermV.but ⟨tt, tn, rfl, .of e6, .of e56⟩ k6 hD6)
        · rw [List.length_append, hl2']
          rfl
      · rintro H4 ⟨vs2, s4, hD, h2, hl2'⟩
        have e : (ts.reverse.take us.reverse.length).map turn1 = turnT ts := by
          unfold turnT
          rw [List.length_reverse, hlt, ← List.length_reverse (as := ts), List.take_length]
        rw [e] at h2
        have s34 := s3.trans s4
        have sx4 := (sx2.but k' hpx).same s34
        refine ⟨.ref D, rfl, D, _, _, rfl, .of hD, h2, fine_turn hf, fun y H5 ny k5 sy => ?_⟩
        obtain ⟨dy, T0, N, us0, h1, _⟩ := id sy
        have s35 := s34.trans k5
        have hd5 := s35 _ _ hd'
        have tf2 := (fine_turn hf).2.2.1
        have valsT : ∀ t ∈ turnT ts, ∀ z ∈ t.2, valV (intsK ns val) (Sum.inr z) = some (.int (val z)) ∧ (val z).natAbs < 2 ^ 250 := fun t ht z hz => by
          obtain ⟨u, hu, rfl⟩ := mem_turn.mp ht
          exact vals val hv0 u hu z (List.mem_reverse.mp hz)
        refine ⟨y, dy, _, rfl, h1, sflds_total _ _, .ref d, rfl, .int m, rfl, y, d, m, turnT ts, _, val, rfl, sy, hd5, m0, m64, tf2, valsT, _, rfl, logt _ _, ?_⟩
        refine ⟨.ref l, rfl, .ref d, rfl, .int m, rfl, l, d, m, us, ts, _, val, rfl, .of (s35 _ _ hl'), hts'.same s35, hd5, m0, m64, vals val hv0, _, rfl, ?_, rfl, ?_⟩
        · rw [← total_due m0]
          exact logt _ _
        · rw [total_turn m0, total_due m0, decide_eq_true rfl]
          exact q H5 ((But.same k12).trans (k'.trans (.same s35))) ((P'.same s35).mono (by rw [List.length_map]; omega))
end
end LC
/-! LcLap: what one lap of the law keeps. -/
namespace LC
open PySem PySem.Spec PyProof.Rows L2
theorem cut_to {xs : List V} {k : Nat} (h : k ≤ xs.length) : cutV xs none (some (k : Int)) = xs.take k := by
  unfold cutV
  rw [HT.sIx_none, List.drop_zero, HT.sIx_nat, Nat.sub_zero, Nat.min_eq_left h]
theorem cut_from {xs : List V} {k : Nat} (h : k ≤ xs.length) : cutV xs (some (k : Int)) none = xs.drop k := by
  unfold cutV
  rw [HT.sIx_none, HT.sIx_nat, Nat.min_eq_left h]
  exact List.take_of_length_le (by rw [List.length_drop]; exact Nat.le_refl _)
theorem SumAt.butN {K : PySem.W.Frag} {C x q : Addr} {H H' : Hp} {ts : List Term} {kvs : List (Key × V)} (h : SumAt K C H x ts) (k : But q H H') (hq : H q = some (.dK kvs)) : SumAt K C H' x ts := by
  obtain ⟨dx, T, N, us, h1, h2, h3, h4⟩ := h
  exact ⟨dx, T, N, us, k _ _ (ne_of h1 hq (fun z => nomatch z)) h1, k.sqtN hq trivial h2, h3.butN k hq trivial, k.sqtN hq trivial h4⟩
/-- a term's row, its sum -/
structure Row1 (K : PySem.W.Frag) (C : Addr) (p : Addr) (H : Hp) (r : Addr) (us : List V) (ts : List Term) : Prop where
  e : H r = some (.lst us)
  t : TermsV K H us ts
  ne : r ≠ p
theorem Row1.same {K : PySem.W.Frag} {C p r : Addr} {H H' : Hp} {us : List V} {ts : List Term} (h : Row1 K C p H r us ts) (s : Same H H') : Row1 K C p H' r us ts := ⟨s _ _ h.e, h.t.same s, h.ne⟩
theorem Row1.but {K : PySem.W.Frag} {C p r : Addr} {H H' : Hp} {us px : List V} {ts : List Term} (h : Row1 K C p H r us ts) (s : But p H H') (hp : H p = some (.lst px)) : Row1 K C p H' r us ts := ⟨s _ _ h.ne h.e, h.t.but s hp, h.ne⟩
theorem Row1.butD {K : PySem.W.Frag} {C p r q : Addr} {H H' : Hp} {us : List V} {ts : List Term} {kvs : List (Key × V)} (h : Row1 K C p H r us ts) (s : But q H H') (hq : H q = some (.dK kvs)) : Row1 K C p H' r us ts :=
  ⟨s _ _ (ne_of h.e hq (fun z => nomatch z)) h.e, h.t.butN s hq trivial, h.ne⟩
structure Lap (K : PySem.W.Frag) (C : Addr) (p : Addr) (nl r1 r2 x1 x2 : Addr) (ys : List Str) (us1 us2 : List V) (ts1 ts2 : List Term) (H : Hp) : Prop where
  enl : H nl = some (.lst (ys.map V.str))
  nlp : nl ≠ p
  a : Row1 K C p H r1 us1 ts1
  b : Row1 K C p H r2 us2 ts2
  s1 : SumAt K C H x1 ts1
  s2 : SumAt K C H x2 ts2
section
variable {K : PySem.W.Frag} {C p nl r1 r2 x1 x2 : Addr} {ys : List Str} {us1 us2 : List V} {ts1 ts2 : List Term} {H H' : Hp}
theorem Lap.same (h : Lap K C p nl r1 r2 x1 x2 ys us1 us2 ts1 ts2 H) (s : Same H H') : Lap K C p nl r1 r2 x1 x2 ys us1 us2 ts1 ts2 H' := ⟨s _ _ h.enl, h.nlp, h.a.same s, h.b.same s, h.s1.same s, h.s2.same s⟩
theorem Lap.but {px : List V} (h : Lap K C p nl r1 r2 x1 x2 ys us1 us2 ts1 ts2 H) (s : But p H H') (hp : H p = some (.lst px)) : Lap K C p nl r1 r2 x1 x2 ys us1 us2 ts1 ts2 H' := ⟨s _ _ h.nlp h.enl, h.nlp, h.a.but s hp, h.b.but s hp, h.s1.but s hp, h.s2.but s hp⟩
theorem Lap.butD {q : Addr} {kvs : List (Key × V)} (h : Lap K C p nl r1 r2 x1 x2 ys us1 us2 ts1 ts2 H) (s : But q H H') (hq : H q = some (.dK kvs)) : Lap K C p nl r1 r2 x1 x2 ys us1 us2 ts1 ts2 H' :=
  ⟨s _ _ (ne_of h.enl hq (fun z => nomatch z)) h.enl, h.nlp, h.a.butD s hq, h.b.butD s hq, h.s1.butN s hq, h.s2.butN s hq⟩
end
theorem intsK_put {val : Str → Int} {ns : List Str} {z : Str} {i : Int} (h : ¬ z ∈ ns) : intsK ns (valPut val z i) = intsK ns val := by
  unfold intsK
  apply List.map_congr_left
  intro x hx
  unfold valPut
  rw [if_neg fun e => h (by rw [← e]; exact hx)]
theorem intsK_snoc {val : Str → Int} {ns : List Str} {z : Str} : intsK (ns ++ [z]) val = intsK ns val ++ [(.inr z, .int (val z))] := by
  unfold intsK
  rw [List.map_append]
  rfl
theorem not_before {ys : List Str} {j : Nat} {z : Str} (nd : ys.Nodup) (h : ys[j]? = some z) : ¬ z ∈ ys.take j := fun m => by
  obtain ⟨i, hi, e⟩ := List.getElem_of_mem m
  rw [List.length_take] at hi
  rw [List.getElem_take] at e
  have e2 : ys[i]? = ys[j]? := by rw [h, List.getElem?_eq_getElem (by omega), e]
  have e3 := (List.getElem?_inj (by omega) nd).mp e2
  omega
/-- pairs of a name and an int, as they stand -/
def PairsV (K : PySem.W.Frag) (H : Hp) : List Addr → List (Key × V) → Prop := Paired fun p kv => SqT K H p [kV kv.1, kv.2]
theorem PairsV.same {K : PySem.W.Frag} {H H' : Hp} (s : Same H H') : ∀ {ps : List Addr} {kvs : List (Key × V)}, PairsV K H ps kvs → PairsV K H' ps kvs
  | _, _, .nil => .nil
  | _, _, .cons a r => .cons (sqt_same s a) (PairsV.same s r)
theorem PairsV.but {K : PySem.W.Frag} {H H' : Hp} {q : Addr} {xs : List V} (s : But q H H') (hq : H q = some (.lst xs)) : ∀ {ps : List Addr} {kvs : List (Key × V)}, PairsV K H ps kvs → PairsV K H' ps kvs
  | _, _, .nil => .nil
  | _, _, .cons a r => .cons (s.sqt hq a) (PairsV.but s hq r)
theorem PairsV.snoc {K : PySem.W.Frag} {H : Hp} {p : Addr} {kv : Key × V} (h : SqT K H p [kV kv.1, kv.2]) {ps : List Addr} {kvs : List (Key × V)} (r : PairsV K H ps kvs) : PairsV K H (ps ++ [p]) (kvs ++ [kv]) := paired_snoc (F := fun (p : Addr) (kv : Key × V) => SqT K H p [kV kv.1, kv.2]) h r
theorem Pen.dc {H : Hp} {p c q : Addr} {n : Nat} {kvs : List (Key × V)} (h : Pen H p c n) (hq : H q = some (.dK kvs)) : q ≠ c := by
  obtain ⟨ns, i, g, h1, h2, h3, h4, h5⟩ := h.ex
  exact ne_of hq h2 (fun z => nomatch z)
def valsB (kvs : List (Key × V)) (ts : List Term) (val : Str → Int) : Bool := ts.all fun t => t.2.all fun z => decide (valV kvs (Sum.inr z) = some (.int (val z))) && decide ((val z).natAbs < 2 ^ 250)
theorem vals_b {kvs : List (Key × V)} {ts : List Term} {val : Str → Int} (h : valsB kvs ts val = true) : ∀ t ∈ ts, ∀ z ∈ t.2, valV kvs (Sum.inr z) = some (.int (val z)) ∧ (val z).natAbs < 2 ^ 250 := fun t ht z hz => by
  have a := List.all_eq_true.mp (List.all_eq_true.mp h t ht) z hz
  rw [Bool.and_eq_true, decide_eq_true_eq, decide_eq_true_eq] at a
  exact a
/-- a row of terms, tried by reckoning -/
def fineB (ts : List Term) : Bool := decide (1 ≤ ts.length) && decide (ts.length ≤ 4) && (ts.all fun t => decide (-999999 ≤ t.1) && decide (t.1 ≤ 999999) && decide (t.2.length ≤ 3) && t.2.all nameB) && decide ((unlike ts).length ≤ 3)
theorem fine_b {ts : List Term} (h : fineB ts = true) : Fine ts := by
  unfold fineB at h
  simp only [Bool.and_eq_true, decide_eq_true_eq, List.all_eq_true] at h
  obtain ⟨⟨⟨h1, h2⟩, h3⟩, h4⟩ := h
  exact ⟨h1, h2, fun t ht => ⟨(h3 t ht).1.1.1, (h3 t ht).1.1.2, (h3 t ht).1.2, (h3 t ht).2⟩, h4⟩
end LC
namespace LC
open PySem PySem.Spec PyProof.Rows L2
theorem CalG.mono {P : Program} {w : World} {K : PySem.W.Frag} {mg : Str → Option Value} {base : Heap} {CX : CXT} {j k : Nat} {x : Str} {ps : List Str} {sp : Sp} (c : CalG P w K mg base CX j x ps sp) (h : j ≤ k) : CalG P w K mg base CX k x ps sp := by
  obtain ⟨f, fd, m, F, kp, b⟩ := c
  exact ⟨f, fd, m, F.mono h, kp, b⟩
section
variable {P : Program} {w : World} {K : PySem.W.Frag} {mg : Str → Option Value} {base : Heap}
abbrev s_pen : Stmt := topS 32
theorem sc_pen : FnScope ["script"] ["script"] (defScope s_pen) := ⟨rfl, rfl, rfl, by decide +kernel, rfl, by decide +kernel, by decide +kernel⟩
def spPen (K : PySem.W.Frag) : Sp := fun vs H Q _ => ∃ (a : Addr) (ns : List Int), vs = [.ref a] ∧ SqL K H a (ns.map V.int) ∧ ns.length ≤ 63 ∧ ∀ (p c : Addr) (H' : Hp), Same H H' → Pen H' p c 0 → Q (.ref p) H'
theorem ok_pen {f : Addr} {fd : FuncData} (T : Txt mg) (F : FnP K "_law_pen" s_pen f fd) : FnOk P w K mg base CX0 1 f fd ["script"] (spPen K) := by
  have sc := sc_pen
  refine F.ok sc (fun vs H Q E h => ?_) (fun cdv A outer s H vs Q E hr h => ?_)
  · obtain ⟨a, ns, rfl, _⟩ := h
    rfl
  · obtain ⟨a, ns, rfl, ha, hl, q⟩ := h
    refine ⟨_, PSs.nox (pss_one (ps_ret (pe_lst (pa_cons (pe_callTy call_list_of (by rfl) T.n_list (by decide +kernel) (pa_cons (pe_slice sl_list (pv 0) po_none (po_some pe_int)) pa_nil)) (pa_cons pe_int (pa_cons pe_int pa_nil)))))), ?_⟩
    have e : cutV (ns.map V.int) none (some 63) = ns.map V.int := by
      unfold cutV
      have e2 : HT.sIx (ns.map V.int).length (ns.map V.int).length (some 63) = min 63 (ns.map V.int).length := HT.sIx_nat _ _ 63
      rw [HT.sIx_none, List.drop_zero, e2]
      exact List.take_of_length_le (by rw [List.length_map]; omega)
    refine ⟨.ref a, rfl, 63, rfl, a, _, rfl, ha, fun sl n1 => ?_⟩
    rw [e]
    generalize hH1 : upd H sl _ = H1
    obtain ⟨s1, e1⟩ := alloc_eq n1 hH1
    refine ⟨sl, _, rfl, .inl (.of e1), fun c n2 => ?_⟩
    generalize hH2 : upd H1 c _ = H2
    obtain ⟨s2, e2⟩ := alloc_eq n2 hH2
    refine ⟨szn 3, fun p n3 => ?_⟩
    generalize hH3 : upd H2 p _ = H3
    obtain ⟨s3, e3⟩ := alloc_eq n3 hH3
    exact q p c H3 ((s1.trans s2).trans s3) ⟨ns, 0, 0, e3, s3 _ _ e2, hl, Int.le_refl _, Int.le_refl _⟩
abbrev s_law : Stmt := topS 46
theorem sc_law : FnScope ["script", "pen", "lap", "modulus", "names", "values", "one", "other", "first", "second", "turn", "few", "some", "name"] ["script"] (defScope s_law) := ⟨rfl, rfl, rfl, by decide +kernel, rfl, by decide +kernel, by decide +kernel⟩
def spLaw (K : PySem.W.Frag) : Sp := fun vs H Q _ => ∃ (a : Addr) (ns : List Int), vs = [.ref a] ∧ SqL K H a (ns.map V.int) ∧ ns.length ≤ 63 ∧ ∀ H', Q (.bl true) H'
theorem ok_law {f C fT : Addr} {fd fdT : FuncData} (T : Txt mg) (S : SumTxt K mg C) (TM : TotM P w K mg base C fT fdT 7) (F : FnP K "law" s_law f fd) (c__law_pen : Cal P w K mg base CX0 7 "_law_pen" ["script"] (spPen K))
    (c__law_modulus : Cal P w K mg base CX0 7 "_law_modulus" ["pen"] spModulus) (c__law_names : Cal P w K mg base CX0 7 "_law_names" ["pen", "many"] spNames) (c__law_value : Cal P w K mg base CX0 7 "_law_value" ["pen", "modulus"] spValue)
    (c__law_terms : Cal P w K mg base CX0 7 "_law_terms" ["pen", "names"] (spTerms K)) (c__law_sum : Cal P w K mg base CX0 7 "_law_sum" ["terms"] (spSum K C)) (c__law_is_due : CalG P w K mg base CX0 7 "_law_is_due" ["value", "terms", "values", "modulus"] (spIsDue K C))
    (c__law_unlike : Cal P w K mg base CX0 7 "_law_unlike" ["terms"] (spUnlike K)) (c__law_moved : CalG P w K mg base CX0 7 "_law_moved" ["pen", "terms", "values", "modulus"] (spMoved K C)) :
    GOk P w K mg base CX0 8 f fd ["script"] (spLaw K) := by
  have sc := sc_law
  refine g_of F sc (fun vs H Q E h => ?_) (fun cdv A outer s H vs Q E hg hr h => ?_)
  · obtain ⟨a, ns, rfl, _⟩ := h
    rfl
  · obtain ⟨a, ns, rfl, ha, hl, q⟩ := h
    have hu := hu_of hr
    refine ⟨_, PSs.nox (pss_cons (ps_set (i := 1) sc.nd rfl (.inr rfl) (pe_cal c__law_pen hr (by rfl) pass0 (pa_cons (pv 0) pa_nil)))
(pss_cons (ps_for PassesOwn.never rfl (pi_range1 rfl T.n_range (pa_cons pe_int pa_nil)) (pg_name (i := 2) sc.nd rfl (.inl rfl))
  (pss_cons (ps_asg (pe_tup (pa_cons (pe_cal c__law_modulus hr (by rfl) pass0 (pa_cons (pv 1) pa_nil)) (pa_cons (pe_cal c__law_names hr (by rfl) pass0 (pa_cons (pv 1) (pa_cons pe_int pa_nil))) pa_nil))) (pg_tup rfl (pgs_cons (pg_name (i := 3) sc.nd rfl (.inr rfl)) (pgs_cons (pg_name (i := 4) sc.nd rfl (.inl rfl)) pgs_nil))))
  (pss_cons (ps_set (i := 5) sc.nd rfl (.inr rfl) (pe_callTy (call_dictP rfl) (by rfl) T.n_dict (by decide +kernel) (pa_cons (pe_lc (own := [("name", 13)]) (g := (gName 13)) (te := (tTup (tCons (tVar 13) (tCons (tCal spValue E0 (tCons (tVar 1) (tCons (tVar 3) tNil))) tNil)))) (tt := tYes) rfl sc.nd (pi_list (pv 4)) (blkOk_by (N := ["script", "pen", "lap", "modulus", "names", "values", "one", "other", "first", "second", "turn", "few", "some", "name"]) (sc := defScope s_law) (by decide +kernel)) (fun _ _ _ _ _ => by exact (pg_name (i := 13) sc.nd rfl (.inl rfl))) (fun _ _ _ _ _ => by exact pts_nil) (fun _ _ _ _ _ => by exact (pe_tup (pa_cons (pv 13) (pa_cons (pe_cal c__law_value hr (by rfl) pass0 (pa_cons (pv 1) (pa_cons (pv 3) pa_nil))) pa_nil))))) pa_nil)))
  (pss_cons (ps_asg (pe_tup (pa_cons (pe_cal c__law_terms hr (by rfl) pass0 (pa_cons (pv 1) (pa_cons (pe_slice sl_list (pv 4) po_none (po_some pe_int)) pa_nil))) (pa_cons (pe_cal c__law_terms hr (by rfl) pass0 (pa_cons (pv 1) (pa_cons (pe_slice sl_list (pv 4) (po_some pe_int) po_none) pa_nil))) pa_nil))) (pg_tup rfl (pgs_cons (pg_name (i := 6) sc.nd rfl (.inr rfl)) (pgs_cons (pg_name (i := 7) sc.nd rfl (.inl rfl)) pgs_nil))))
  (pss_cons (ps_par (i := 8) (j := 9) (by rfl) sc.nd rfl rfl (by decide) rfl rfl (pa_cons (pe_cal c__law_sum hr (by rfl) pass0 (pa_cons (pv 6) pa_nil)) (pa_cons (pe_cal c__law_sum hr (by rfl) pass0 (pa_cons (pv 7) pa_nil)) pa_nil)) (by rfl))
  (pss_cons (ps_for PassesOwn.never rfl (pi_range1 rfl T.n_range (pa_cons pe_int pa_nil)) (pg_name (i := 10) sc.nd rfl (.inl rfl))
    (pss_cons (ps_if (PW.pt (pw_or (pt_not (pt_val (pe_calG c__law_is_due hg hr (by rfl) pass0 (pa_cons (pv 8) (pa_cons (pv 6) (pa_cons (pv 5) (pa_cons (pv 3) pa_nil))))))) (pw_or1 (pt_not (pt_val (pe_calG c__law_is_due hg hr (by rfl) pass0 (pa_cons (pv 9) (pa_cons (pv 7) (pa_cons (pv 5) (pa_cons (pv 3) pa_nil))))))))))
      (pss_one (ps_ret pe_bl))
      pss_nil)
    (pss_cons (ps_dput hu (pv 5) (pe_ix ix_list (pv 4) pe_int (fun _ _ => rfl)) (pe_cal c__law_value hr (by rfl) pass0 (pa_cons (pv 1) (pa_cons (pv 3) pa_nil))) rfl)
    (pss_one (ps_set (i := 3) sc.nd rfl (.inr rfl) (pe_cal c__law_modulus hr (by rfl) pass0 (pa_cons (pv 1) pa_nil)))))))
  (pss_cons (ps_set (i := 11) sc.nd rfl (.inl rfl) (pe_callTy (call_dictP rfl) (by rfl) T.n_dict (by decide +kernel) (pa_cons (pe_lc (own := [("name", 13)]) (g := (gName 13)) (te := (tTup (tCons (tVar 13) (tCons (tDGet (tVar 5) (tVar 13)) tNil)))) (tt := (tTest (tOp (rIn K false) (tVar 13) (tCal (spUnlike K) E0 (tCons (tVar 6) tNil))))) rfl sc.nd (pi_list (pv 4)) (blkOk_by (N := ["script", "pen", "lap", "modulus", "names", "values", "one", "other", "first", "second", "turn", "few", "some", "name"]) (sc := defScope s_law) (by decide +kernel)) (fun _ _ _ _ _ => by exact (pg_name (i := 13) sc.nd rfl (.inl rfl))) (fun _ _ _ _ _ => by exact (pts_one (pt_cmpR op_in_seq (pv 13) (pe_cal c__law_unlike hr (by rfl) pass0 (pa_cons (pv 6) pa_nil)) (by rfl)))) (fun _ _ _ _ _ => by exact (pe_tup (pa_cons (pv 13) (pa_cons (pe_dget hu (pv 5) (pv 13) (fun _ _ => rfl)) pa_nil))))) pa_nil)))
  (pss_one (ps_if (PW.pt (pw_or (pt_not (pt_val (pe_calG c__law_is_due hg hr (by rfl) pass0 (pa_cons (pv 8) (pa_cons (pv 6) (pa_cons (pv 11) (pa_cons (pv 3) pa_nil))))))) (pw_or1 (pt_not (pt_val (pe_calG c__law_moved hg hr (by rfl) pass0 (pa_cons (pv 1) (pa_cons (pv 6) (pa_cons (pv 5) (pa_cons (pv 3) pa_nil))))))))))
    (pss_one (ps_ret pe_bl))
    pss_nil)))))))))
(pss_cons (ps_set (i := 12) sc.nd rfl (.inl rfl) (pe_lst (pa_cons (pe_meth (pe_cal c__law_sum hr (by rfl) pass0 (pa_cons (pe_lst (pa_cons (pe_tup (pa_cons (pe_un un_neg pe_int) (pa_cons (pe_tup (pa_cons pe_str (pa_cons pe_str pa_nil))) pa_nil))) pa_nil)) pa_nil)) S.cl TM.m TM.F hr TM.b .nil pass0 (pa_cons (pe_disp (pps_cons pe_str pe_int pps_nil) rfl rfl (List.cons_ne_nil _ _) (Nat.le_of_ble_eq_true rfl)) (pa_cons pe_int pa_nil))) pa_nil)))
(pss_cons (ps_expr (pe_bm PySem.F.plainAttrs_list PySem.F.slot_list_append PySem.F.type_list_append mt_append (pv 12) (pa_cons (pe_meth (pe_cal c__law_sum hr (by rfl) pass0 (pa_cons (pe_lst (pa_cons (pe_tup (pa_cons pe_int (pa_cons (pe_tup (pa_cons pe_str (pa_cons pe_str (pa_cons pe_str pa_nil)))) pa_nil))) pa_nil)) pa_nil)) S.cl TM.m TM.F hr TM.b .nil pass0 (pa_cons (pe_disp (pps_cons pe_str (pe_un un_neg pe_int) pps_nil) rfl rfl (List.cons_ne_nil _ _) (Nat.le_of_ble_eq_true rfl)) (pa_cons (pe_op op_pow pe_int pe_int) pa_nil))) pa_nil)))
(pss_cons (ps_expr (pe_bm PySem.F.plainAttrs_list PySem.F.slot_list_append PySem.F.type_list_append mt_append (pv 12) (pa_cons (pe_meth (pe_cal c__law_sum hr (by rfl) pass0 (pa_cons (pe_lst (pa_cons (pe_tup (pa_cons pe_int (pa_cons (pe_tup (pa_cons pe_str (pa_cons pe_str pa_nil))) pa_nil))) (pa_cons (pe_tup (pa_cons (pe_un un_neg pe_int) (pa_cons (pe_tup (pa_cons pe_str pa_nil)) pa_nil))) (pa_cons (pe_tup (pa_cons pe_int (pa_cons (pe_tup pa_nil) pa_nil))) pa_nil)))) pa_nil)) S.cl TM.m TM.F hr TM.b .nil pass0 (pa_cons (pe_disp (pps_cons pe_str pe_int (pps_cons pe_str pe_int (pps_cons pe_str pe_int pps_nil))) rfl rfl (List.cons_ne_nil _ _) (Nat.le_of_ble_eq_true rfl)) (pa_cons pe_int pa_nil))) pa_nil)))
(pss_one (ps_ret (pe_and (pe_cmpR (op_eqD hr.units) (pv 12) (pe_lst (pa_cons pe_int (pa_cons (pe_op op_sub (pe_op op_pow pe_int pe_int) pe_int) (pa_cons pe_int pa_nil)))) (nomark _)) (pe_one (pe_cmpR op_eq (pe_meth (pe_cal c__law_sum hr (by rfl) pass0 (pa_cons (pe_lst (pa_cons (pe_tup (pa_cons pe_int (pa_cons (pe_tup (pa_cons pe_str pa_nil)) pa_nil))) pa_nil)) pa_nil)) S.cl TM.m TM.F hr TM.b .nil pass0 (pa_cons (pe_disp (pps_cons pe_str (pe_op op_pow pe_int pe_int) pps_nil) rfl rfl (List.cons_ne_nil _ _) (Nat.le_of_ble_eq_true rfl)) (pa_cons pe_int pa_nil))) pe_int (nomark _))))))))))), ?_⟩
    refine ⟨.ref a, rfl, a, ns, rfl, ha, hl, fun p c H0 k0 P0 => ?_⟩
    obtain ⟨p0, hp0⟩ := P0.at_
    -- the laps
    refine ⟨_, rfl, by decide, by decide, ?_⟩
    refine for_range (n := 6) (fun i σ H' => (∃ o2 o3 o4 o5 o6 o7 o8 o9 o10 o11 : Option V, σ = [some (.ref a), some (.ref p), o2, o3, o4, o5, o6, o7, o8, o9, o10, o11, none, none]) ∧ Pen H' p c (1000 * i)) ?_ ?_ ?_
    · exact ⟨⟨none, none, none, none, none, none, none, none, none, none, rfl⟩, P0⟩
    · rintro i σ H' hi ⟨⟨o2, o3, o4, o5, o6, o7, o8, o9, o10, o11, rfl⟩, P'⟩
      -- modulus, names
      refine ⟨.ref p, rfl, p, c, _, rfl, P', by omega, fun m H1 m2 m18 k1 P1 => ?_⟩
      refine ⟨.ref p, rfl, p, c, _, 5, rfl, P1, by omega, by decide, by decide, fun nl ys H2 nd hnm hy5 nnl enl nlp k2 P2 => ?_⟩
      refine ⟨szn 2, fun tt ntt => ?_⟩
      generalize hH3 : upd H2 tt _ = H3
      obtain ⟨s3, e3⟩ := alloc_eq ntt hH3
      have P3 := P2.same s3
      have enl3 := s3 _ _ enl
      refine ⟨tt, _, rfl, .of e3, rfl, .int m, [.ref nl], rfl, .ref nl, [], rfl, rfl, ?_⟩
      -- values
      have hy5' : ys.length = 5 := by omega
      have hP3 := P3.at_
      obtain ⟨p3, hp3⟩ := hP3
      refine ⟨.ref nl, rfl, nl, rfl, ⟨_, .of enl3⟩, fun D nD => ?_⟩
      have hDp : D ≠ p := P3.newP nD
      have hDc : D ≠ c := P3.newC nD
      refine lc_list (K := K) (a := nl) (xs := ys.map V.str) (fun j H6 => ∃ (ps : List Addr) (val : Str → Int), H6 D = some (.lst (ps.map V.ref)) ∧ PairsV K H6 ps (intsK (ys.take j) val) ∧ ps.length = j ∧ (∀ z ∈ ys.take j, (val z).natAbs < 2 ^ 240) ∧ But p H3 H6 ∧ Pen H6 p c (1000 * i + 13 + 4 * j))
        ⟨[], fun _ => 0, upd_same, .nil, rfl, fun z hz => (nomatch hz), .new nD, (P3.new nD).mono (by omega)⟩ (fun j H6 _ ⟨_, _, _, _, _, _, k6, _⟩ => .of (k6 _ _ nlp enl3)) ?_ ?_
      · rintro j v H6 hj ⟨ps, val, hD, hps, hpl, hb, k6, P6⟩
        rw [List.getElem?_map] at hj
        obtain ⟨z, hz, rfl⟩ := Option.map_eq_some_iff.mp hj
        have hjl : j < ys.length := (List.getElem?_eq_some_iff.mp hz).1
        have hnew := not_before nd hz
        obtain ⟨p6, hp6⟩ := P6.at_
        refine ⟨rfl, tyes_of ?_⟩
        refine ⟨.str z, rfl, .ref p, rfl, .int m, rfl, p, c, _, m, rfl, P6, by omega, m2, m18, fun w H7 hw k7 P7 => ?_⟩
        refine ⟨szn 2, fun tt ntt => ?_⟩
        generalize hH8 : upd H7 tt _ = H8
        obtain ⟨s8, e8⟩ := alloc_eq ntt hH8
        have k8 : But p H6 H8 := k7.trans (.same s8)
        have hD8 := k8 _ _ hDp hD
        have k9 : But D H8 (upd H8 D (.lst (ps.map V.ref ++ [.ref tt]))) := .set
        refine ⟨_, hD8, ?_, ps ++ [tt], valPut val z w, ?_, ?_, ?_, ?_, ?_, ?_⟩
        · rw [List.length_map]
          exact sz_lt (by omega)
        · rw [upd_same, List.map_append]
          rfl
        · rw [take_next hz, intsK_snoc, intsK_put hnew]
          refine PairsV.snoc ?_ ((hps.but k8 hp6).but k9 hD8)
          have e : valPut val z w z = w := if_pos rfl
          rw [e]
          exact k9.sqt hD8 (.of e8)
        · rw [List.length_append, hpl]
          rfl
        · intro x hx
          rw [take_next hz] at hx
          unfold valPut
          split
          · exact hw
          · rename_i hne
            rcases List.mem_append.mp hx with hx | hx
            · exact hb x hx
            · exact absurd (List.mem_singleton.mp hx) hne
        · exact (k6.trans k8).mut nD
        · exact ((P7.same s8).mut hDp hDc).mono (by omega)
      · rintro H6 ⟨ps, val, hD, hps, hpl, hb, k6, P6⟩
        rw [List.length_map, List.take_length] at hps hb
        rw [List.length_map] at P6
        refine ⟨D, ps, _, rfl, .of hD, hps, fun dv ndv => ?_⟩
        rw [mergeK_ints nd]
        generalize hH7 : upd H6 dv _ = H7
        obtain ⟨s7, edv⟩ := alloc_eq ndv hH7
        have P7 := P6.same s7
        have enl7 := s7 _ _ (k6 _ _ nlp enl3)
        -- one, other
        have y3 : (ys.map V.str).length = 5 := by
          rw [List.length_map]
          exact hy5'
        have ct : cutV (ys.map V.str) none (some 3) = (ys.take 3).map V.str := (cut_to (k := 3) (by omega)).trans List.map_take.symm
        have cf : cutV (ys.map V.str) (some 2) none = (ys.drop 2).map V.str := (cut_from (k := 2) (by omega)).trans List.map_drop.symm
        refine ⟨.ref p, rfl, .ref nl, rfl, 3, rfl, nl, _, rfl, .of enl7, fun sa nsa => ?_⟩
        rw [ct]
        generalize hH8 : upd H7 sa _ = H8
        obtain ⟨s8, e8⟩ := alloc_eq nsa hH8
        have P8 := P7.same s8
        obtain ⟨p8, hp8⟩ := P8.at_
        refine ⟨p, c, _, sa, ys.take 3, rfl, P8, by omega, e8, P7.newP nsa, by rw [List.length_take]; omega, fun y hy => hnm y (List.mem_of_mem_take hy), fun r1 us1 ts1 H9 ht1 h11 h14 hok1 nr1 er1 r1p k9 P9 => ?_⟩
        have enl9 := k9 _ _ nlp (s8 _ _ enl7)
        refine ⟨.ref p, rfl, .ref nl, rfl, 2, rfl, nl, _, rfl, .of enl9, fun sb nsb => ?_⟩
        rw [cf]
        generalize hH10 : upd H9 sb _ = H10
        obtain ⟨s10, e10⟩ := alloc_eq nsb hH10
        have P10 := P9.same s10
        obtain ⟨p10, hp10⟩ := P10.at_
        refine ⟨p, c, _, sb, ys.drop 2, rfl, P10, by omega, e10, P9.newP nsb, by rw [List.length_drop]; omega, fun y hy => hnm y (List.mem_of_mem_drop hy), fun r2 us2 ts2 H11 ht2 h21 h24 hok2 nr2 er2 r2p k11 P11 => ?_⟩
        refine ⟨szn 2, fun tu ntu => ?_⟩
        generalize hH12 : upd H11 tu _ = H12
        obtain ⟨s12, e12⟩ := alloc_eq ntu hH12
        refine ⟨tu, _, rfl, .of e12, rfl, .ref r1, [.ref r2], rfl, .ref r2, [], rfl, rfl, ?_⟩
        have P12 := P11.same s12
        have K10 : But p H10 H12 := k11.trans (.same s12)
        have K9 : But p H9 H12 := (But.same s10).trans K10
        have K7 : But p H7 H12 := ((But.same s8).trans k9).trans K9
        obtain ⟨p9, hp9⟩ := P9.at_
        obtain ⟨p7, hp7⟩ := P7.at_
        have f1 : Fine ts1 := fine_of h11 h14 hok1 (fun y hy => hnm y (List.mem_of_mem_take hy)) (by rw [List.length_take]; omega)
        have f2 : Fine ts2 := fine_of h21 h24 hok2 (fun y hy => hnm y (List.mem_of_mem_drop hy)) (by rw [List.length_drop]; omega)
        have R1 : Row1 K C p H12 r1 us1 ts1 := ⟨K9 _ _ r1p er1, ht1.but K9 hp9, r1p⟩
        have R2 : Row1 K C p H12 r2 us2 ts2 := ⟨s12 _ _ er2, ht2.same s12, r2p⟩
        have edv12 := K7 _ _ (ne_of edv hp7 (fun z => nomatch z)) edv
        -- first, second
        refine ⟨.ref r1, rfl, r1, us1, ts1, rfl, .of R1.e, R1.t, f1, fun x1 H13 nx1 k13 sx1 => ?_⟩
        have R2' := R2.same k13
        refine ⟨.ref r2, rfl, r2, us2, ts2, rfl, .of R2'.e, R2'.t, f2, fun x2 H14 nx2 k14 sx2 => ?_⟩
        refine ⟨_, _, rfl, ?_⟩
        have L14 : Lap K C p nl r1 r2 x1 x2 ys us1 us2 ts1 ts2 H14 := ⟨k14 _ _ (k13 _ _ (K7 _ _ nlp enl7)), nlp, (R1.same k13).same k14, R2'.same k14, sx1.same k14, sx2⟩
        have P14 := (P12.same k13).same k14
        have edv14 := k14 _ _ (k13 _ _ edv12)
        have in1 : ∀ t ∈ ts1, ∀ z ∈ t.2, z ∈ ys := fun t ht z hz => List.mem_of_mem_take ((hok1 t ht).2.2.2 z hz)
        have in2 : ∀ t ∈ ts2, ∀ z ∈ t.2, z ∈ ys := fun t ht z hz => List.mem_of_mem_drop ((hok2 t ht).2.2.2 z hz)
        have big : ∀ v1 : Str → Int, (∀ z ∈ ys, (v1 z).natAbs < 2 ^ 240) → ∀ z ∈ ys, (v1 z).natAbs < 2 ^ 250 := fun v1 h z hz => Nat.lt_of_lt_of_le (h z hz) (by decide)
        obtain ⟨z2, hz2⟩ : ∃ z2, ys[2]? = some z2 := ⟨ys[2], List.getElem?_eq_getElem (by omega)⟩
        have hz2m : z2 ∈ ys := List.mem_of_getElem? hz2
        -- two turns
        refine ⟨_, rfl, by decide, by decide, ?_⟩
        refine for_range (n := 2) (fun j σ HT => ∃ (m : Int) (val : Str → Int) (o10 : Option V), σ = [some (.ref a), some (.ref p), some (.int (0 + (i : Int))), some (.int m), some (.ref nl), some (.ref dv), some (.ref r1), some (.ref r2), some (.ref x1), some (.ref x2), o10, o11, none, none] ∧ 2 ≤ m ∧ m ≤ 1000000000000000000 ∧
          Lap K C p nl r1 r2 x1 x2 ys us1 us2 ts1 ts2 HT ∧ HT dv = some (.dK (intsK ys val)) ∧ (∀ z ∈ ys, (val z).natAbs < 2 ^ 240) ∧ Pen HT p c (1000 * i + 300 + 10 * j)) ?_ ?_ ?_
        · exact ⟨m, val, o10, rfl, m2, m18, L14, edv14, hb, P14.mono (by omega)⟩
        · rintro j σ HT hj ⟨m, val, o10, rfl, m2, m18, L, ed, hb, PT⟩
          have m64 : m < 2 ^ 64 := Int.lt_of_le_of_lt m18 (by decide)
          refine ⟨.ref x1, rfl, .ref r1, rfl, .ref dv, rfl, .int m, rfl, x1, r1, dv, m, us1, ts1, ys, val, rfl, L.s1, L.a.e, L.a.t, f1.2.2.1, ed, by omega, hnm, big val hb, in1, by omega, m64, fun Ha ka => ?_⟩
          refine ⟨_, rfl, iteF ?_⟩
          have La := L.same ka
          have eda := ka _ _ ed
          refine ⟨.ref x2, rfl, .ref r2, rfl, .ref dv, rfl, .int m, rfl, x2, r2, dv, m, us2, ts2, ys, val, rfl, La.s2, La.b.e, La.b.t, f2.2.2.1, eda, by omega, hnm, big val hb, in2, by omega, m64, fun Hb kb => ?_⟩
          refine ⟨_, rfl, iteF ?_⟩
          have Lb := La.same kb
          have edb := kb _ _ eda
          have Pb := (PT.same ka).same kb
          obtain ⟨pb, hpb⟩ := Pb.at_
          -- values[names[2]] = ..
          refine ⟨.ref p, rfl, .int m, rfl, p, c, _, m, rfl, Pb, by omega, m2, m18, fun w Hc hw kc Pc => ?_⟩
          have Lc := Lb.but kc hpb
          have edc := kc _ _ (ne_of edb hpb (fun z => nomatch z)) edb
          have at2 : atI (ys.map V.str) 2 = some (.str z2) := atI_nat (j := 2) (by rw [List.getElem?_map, hz2]; rfl)
          have lk : (intsK ys val).length < sizeLine := by
            unfold intsK
            rw [List.length_map]
            exact sz_lt (by omega)
          refine ⟨.ref dv, rfl, .ref nl, rfl, nl, _, 2, _, rfl, rfl, .of Lc.enl, at2, dv, _, rfl, DPut.k (k := Sum.inr z2) edc lk, ?_⟩
          rw [putK_ints _ hz2m]
          generalize hHd : upd Hc dv _ = Hd
          have kd : But dv Hc Hd := by
            rw [← hHd]
            exact .set
          have edd : Hd dv = some (.dK (intsK ys (valPut val z2 w))) := by
            rw [← hHd]
            exact upd_same
          have Ld := Lc.butD kd edc
          obtain ⟨pc, hpc⟩ := Pc.at_
          have Pd : Pen Hd p c (1000 * i + 300 + 10 * j + 4) := Pc.but kd (ne_of edc hpc (fun z => nomatch z)) (Pc.dc edc)
          obtain ⟨pd, hpd⟩ := Pd.at_
          -- modulus
          refine ⟨.ref p, rfl, p, c, _, rfl, Pd, by omega, fun m' He m2' m18' ke Pe => ?_⟩
          refine ⟨m', valPut val z2 w, _, rfl, m2', m18', Ld.but ke hpd, ke _ _ (ne_of edd hpd (fun z => nomatch z)) edd, fun y hy => ?_, Pe.mono (by omega)⟩
          unfold valPut
          split
          · exact hw
          · exact hb y hy
        · rintro σ HT ⟨m, val, o10, rfl, m2, m18, L, ed, hb, PT⟩
          have m64 : m < 2 ^ 64 := Int.lt_of_le_of_lt m18 (by decide)
          -- few
          have t10 : ∀ t ∈ ts1, t.2.length ≤ 10 := fun t ht => Nat.le_trans (f1.2.2.1 t ht).2.2.1 (by decide)
          refine ⟨.ref nl, rfl, nl, rfl, ⟨_, .of L.enl⟩, fun D nD => ?_⟩
          refine lc_list (K := K) (a := nl) (xs := ys.map V.str) (fun j H6 => ∃ ps : List Addr, H6 D = some (.lst (ps.map V.ref)) ∧ PairsV K H6 ps (intsK ((ys.take j).filter fun y => decide (y ∈ unlike ts1)) val) ∧ ps.length ≤ j ∧ Same HT H6)
            ⟨[], upd_same, .nil, Nat.le_refl _, same_new nD⟩ (fun j H6 _ ⟨_, _, _, _, k6⟩ => .of (k6 _ _ L.enl)) ?_ ?_
          · rintro j v H6 hj ⟨ps, hD, hps, hpl, k6⟩
            rw [List.getElem?_map] at hj
            obtain ⟨z, hz, rfl⟩ := Option.map_eq_some_iff.mp hj
            have hjl : j < ys.length := (List.getElem?_eq_some_iff.mp hz).1
            have hzm : z ∈ ys := List.mem_of_getElem? hz
            have L6 := L.same k6
            refine ⟨rfl, ?_⟩
            refine ⟨.str z, rfl, .ref r1, rfl, r1, us1, ts1, rfl, .of L6.a.e, L6.a.t, by omega, t10, fun u H7 nu k7 e7 => ?_⟩
            refine ⟨u, _, rfl, .inl (.of e7), rfl, flat_strs _, _, rfl, ?_⟩
            dsimp only [Bool.false_eq_true, if_false]
            rw [inV_str]
            refine iteD (fun hz1 => ?_) (fun hz0 => ?_)
            · have dg : DGet H7 dv (.str z) (some (.int (val z))) := by
                have q := DGet.k (k := Sum.inr z) (k7 _ _ (k6 _ _ ed))
                rw [valV_ints hzm] at q
                exact q
              refine ⟨.str z, rfl, .ref dv, rfl, .str z, rfl, dv, _, rfl, dg, szn 2, fun tt ntt => ?_⟩
              generalize hH8 : upd H7 tt _ = H8
              obtain ⟨s8, e8⟩ := alloc_eq ntt hH8
              have k8 := k7.trans s8
              have hD8 := k8 _ _ hD
              have k9 : But D H8 (upd H8 D (.lst (ps.map V.ref ++ [.ref tt]))) := .set
              refine ⟨_, hD8, ?_, ps ++ [tt], ?_, ?_, ?_, fun b o e => ?_⟩
              · rw [List.length_map]
                exact sz_lt (by omega)
              · rw [upd_same, List.map_append]
                rfl
              · rw [take_next hz, List.filter_append, List.filter_cons, decide_eq_true hz1, if_pos rfl, List.filter_nil, intsK_snoc]
                exact PairsV.snoc (k9.sqt hD8 (.of e8)) ((hps.same k8).but k9 hD8)
              · rw [List.length_append]
                exact Nat.add_le_add_right hpl 1
              · rw [upd_ne (ne_of_none e nD)]
                exact k8 _ _ (k6 b o e)
            · refine ⟨ps, k7 _ _ hD, ?_, by omega, k6.trans k7⟩
              rw [take_next hz, List.filter_append, List.filter_cons, decide_eq_false hz0, if_neg Bool.false_ne_true, List.filter_nil, List.append_nil]
              exact hps.same k7
          · rintro H6 ⟨ps, hD, hps, hpl, k6⟩
            rw [List.length_map, List.take_length] at hps
            refine ⟨D, ps, _, rfl, .of hD, hps, fun fv nfv => ?_⟩
            have nf : (ys.filter fun y => decide (y ∈ unlike ts1)).Nodup := nd.filter _
            have lf : (ys.filter fun y => decide (y ∈ unlike ts1)).length ≤ ys.length := List.length_filter_le _ _
            have mf : ∀ y ∈ ys.filter (fun y => decide (y ∈ unlike ts1)), y ∈ ys := fun y hy => (List.mem_filter.mp hy).1
            rw [mergeK_ints nf]
            generalize hH7 : upd H6 fv _ = H7
            obtain ⟨s7, efv⟩ := alloc_eq nfv hH7
            have k7 := k6.trans s7
            have L7 := L.same k7
            have P7' := PT.same k7
            have ed7 := k7 _ _ ed
            refine ⟨.ref x1, rfl, .ref r1, rfl, .ref fv, rfl, .int m, rfl, x1, r1, fv, m, us1, ts1, _, val, rfl, L7.s1, L7.a.e, L7.a.t, f1.2.2.1, efv, by omega, fun y hy => hnm y (mf y hy), fun y hy => big val hb y (mf y hy), fun t ht y hy => ?_, by omega, m64, fun Ha ka => ?_⟩
            · exact List.mem_filter.mpr ⟨in1 t ht y hy, decide_eq_true (unlike_mem.mpr ⟨t, ht, hy⟩)⟩
            refine ⟨_, rfl, iteF ?_⟩
            have La := L7.same ka
            refine ⟨.ref p, rfl, .ref r1, rfl, .ref dv, rfl, .int m, rfl, p, c, _, r1, dv, m, us1, ts1, ys, val, rfl, P7'.same ka, by omega, La.a.e, La.a.ne, La.a.t, f1, ka _ _ ed7, by omega, hnm, hb, in1, by omega, m18, fun Hb kb Pb => ?_⟩
            refine ⟨_, rfl, iteF ?_⟩
            exact ⟨⟨_, _, _, _, _, _, _, _, _, _, rfl⟩, Pb.mono (by omega)⟩
    · rintro σ H' ⟨⟨o2, o3, o4, o5, o6, o7, o8, o9, o10, o11, rfl⟩, P'⟩
      have mm : ∀ {H H' : Hp} {d : Addr} {o1 o2 : HO}, H d = none → upd (upd H d o1) d o2 = H' → Same H H' ∧ H' d = some o2 := fun n e => by
        rw [← e]
        refine ⟨fun b o q => ?_, upd_same⟩
        rw [upd_ne (ne_of_none q n), upd_ne (ne_of_none q n)]
        exact q
      -- the first one
      refine ⟨1, rfl, szn 2, fun t1 n1 => ?_⟩
      generalize hH1 : upd H' t1 _ = H1
      obtain ⟨s1, e1⟩ := alloc_eq n1 hH1
      refine ⟨szn 2, fun t2 n2 => ?_⟩
      generalize hH2 : upd H1 t2 _ = H2
      obtain ⟨s2, e2⟩ := alloc_eq n2 hH2
      refine ⟨szn 1, fun l3 n3 => ?_⟩
      generalize hH3 : upd H2 l3 _ = H3
      obtain ⟨s3, e3⟩ := alloc_eq n3 hH3
      have tv : TermsV K H3 [.ref t2] [((-1 : Int), [("a" : Str), "a"])] := .cons ⟨t2, t1, rfl, .of (s3 _ _ e2), .of (s3 _ _ (s2 _ _ e1))⟩ .nil
      have f1 : Fine [((-1 : Int), [("a" : Str), "a"])] := fine_b (by decide +kernel)
      refine ⟨l3, _, _, rfl, .of e3, tv, f1, fun x H4 nx k4 sx => ?_⟩
      obtain ⟨dx, T0, N, us0, h1, _⟩ := id sx
      refine ⟨x, dx, _, rfl, h1, sflds_total _ _, fun d nd => ⟨upd_same, [(.inr "a", .int 3)], rfl, by decide, ?_⟩⟩
      generalize hH5 : upd (upd H4 d _) d _ = H5
      obtain ⟨s5, e5⟩ := mm nd hH5
      refine ⟨x, d, _, _, _, fun _ => 3, rfl, sx.same s5, e5, by decide, by decide, f1.2.2.1, vals_b (by decide +kernel), ?_⟩
      have w1 : totalOf (fun _ => 3) 10 [((-1 : Int), [("a" : Str), "a"])] = 1 := by decide +kernel
      rw [w1]
      refine ⟨szn 1, fun so nso => ?_⟩
      generalize hH6 : upd H5 so _ = H6
      obtain ⟨s6, e6⟩ := alloc_eq nso hH6
      clear hH1 hH2 hH3 hH5 hH6 tv e1 e2 e3 e5
      -- the second one
      refine ⟨.ref so, rfl, .inl ⟨rfl, _, .inl (.inl e6)⟩, ?_⟩
      refine ⟨szn 3, fun t1 n1 => ?_⟩
      generalize hH1 : upd H6 t1 _ = H1
      obtain ⟨s1, e1⟩ := alloc_eq n1 hH1
      refine ⟨szn 2, fun t2 n2 => ?_⟩
      generalize hH2 : upd H1 t2 _ = H2
      obtain ⟨s2, e2⟩ := alloc_eq n2 hH2
      refine ⟨szn 1, fun l3 n3 => ?_⟩
      generalize hH3 : upd H2 l3 _ = H3
      obtain ⟨s3, e3⟩ := alloc_eq n3 hH3
      have tv : TermsV K H3 [.ref t2] [((999999 : Int), [("a" : Str), "a", "a"])] := .cons ⟨t2, t1, rfl, .of (s3 _ _ e2), .of (s3 _ _ (s2 _ _ e1))⟩ .nil
      have f1 : Fine [((999999 : Int), [("a" : Str), "a", "a"])] := fine_b (by decide +kernel)
      refine ⟨l3, _, _, rfl, .of e3, tv, f1, fun x H4 nx k4 sx => ?_⟩
      obtain ⟨dx, T0, N, us0, h1, _⟩ := id sx
      refine ⟨x, dx, _, rfl, h1, sflds_total _ _, fun d nd => ⟨1, rfl, upd_same, [(.inr "a", .int (-1))], rfl, by decide, ?_⟩⟩
      generalize hH5 : upd (upd H4 d _) d _ = H5
      obtain ⟨s5, e5⟩ := mm nd hH5
      refine ⟨10, 18, rfl, rfl, ⟨by decide, by decide, by decide⟩, x, d, _, _, _, fun _ => -1, rfl, sx.same s5, e5, by decide, by decide, f1.2.2.1, vals_b (by decide +kernel), ?_⟩
      have w2 : totalOf (fun _ => -1) (10 ^ (18 : Int).toNat) [((999999 : Int), [("a" : Str), "a", "a"])] = 999999999999000001 := by decide +kernel
      rw [w2]
      have e6' := s5 _ _ (k4 _ _ (s3 _ _ (s2 _ _ (s1 _ _ e6))))
      refine ⟨so, _, _, rfl, rfl, e6', sz_lt (by show 1 < 100000; decide), ?_⟩
      generalize hH7 : upd H5 so _ = H7
      have e7 : H7 so = some (.lst [.int 1, .int 999999999999000001]) := by
        rw [← hH7]
        exact upd_same
      clear hH1 hH2 hH3 hH5 hH7 tv e1 e2 e3 e5 e6 e6' sx h1 f1
      -- the third one
      refine ⟨.ref so, rfl, .inl ⟨rfl, _, .inl (.inl e7)⟩, ?_⟩
      refine ⟨szn 2, fun t1 n1 => ?_⟩
      generalize hH1 : upd H7 t1 _ = H1
      obtain ⟨s1, e1⟩ := alloc_eq n1 hH1
      refine ⟨szn 2, fun t2 n2 => ?_⟩
      generalize hH2 : upd H1 t2 _ = H2
      obtain ⟨s2, e2⟩ := alloc_eq n2 hH2
      refine ⟨3, rfl, szn 1, fun t3 n3 => ?_⟩
      generalize hH3 : upd H2 t3 _ = H3
      obtain ⟨s3, e3⟩ := alloc_eq n3 hH3
      refine ⟨szn 2, fun t4 n4 => ?_⟩
      generalize hH4 : upd H3 t4 _ = H4
      obtain ⟨s4, e4⟩ := alloc_eq n4 hH4
      refine ⟨szn 0, fun t5 n5 => ?_⟩
      generalize hH5 : upd H4 t5 _ = H5
      obtain ⟨s5, e5⟩ := alloc_eq n5 hH5
      refine ⟨szn 2, fun t6 n6 => ?_⟩
      generalize hH6 : upd H5 t6 _ = H6
      obtain ⟨s6, e6⟩ := alloc_eq n6 hH6
      refine ⟨szn 3, fun l7 n7 => ?_⟩
      generalize hH8 : upd H6 l7 _ = H8
      obtain ⟨s8, e8⟩ := alloc_eq n7 hH8
      have r6 := s6.trans s8
      have r5 := s5.trans r6
      have r4 := s4.trans r5
      have r3 := s3.trans r4
      have r2 := s2.trans r3
      have tv : TermsV K H8 [.ref t2, .ref t4, .ref t6] [((2 : Int), [("a" : Str), "b"]), (-3, ["b"]), (7, [])] :=
        .cons ⟨t2, t1, rfl, .of (r3 _ _ e2), .of (r2 _ _ e1)⟩ (.cons ⟨t4, t3, rfl, .of (r5 _ _ e4), .of (r4 _ _ e3)⟩ (.cons ⟨t6, t5, rfl, .of (s8 _ _ e6), .of (r6 _ _ e5)⟩ .nil))
      have f1 : Fine [((2 : Int), [("a" : Str), "b"]), (-3, ["b"]), (7, [])] := fine_b (by decide +kernel)
      refine ⟨l7, _, _, rfl, .of e8, tv, f1, fun x H9 nx k9 sx => ?_⟩
      obtain ⟨dx, T0, N, us0, h1, _⟩ := id sx
      refine ⟨x, dx, _, rfl, h1, sflds_total _ _, fun d nd => ⟨upd_same, [(.inr "a", .int 5), (.inr "b", .int 4), (.inr "c", .int 1)], rfl, by decide, ?_⟩⟩
      generalize hH10 : upd (upd H9 d _) d _ = H10
      obtain ⟨s10, e10⟩ := mm nd hH10
      refine ⟨x, d, _, _, _, fun y => if y = "a" then 5 else 4, rfl, sx.same s10, e10, by decide, by decide, f1.2.2.1, vals_b (by decide +kernel), ?_⟩
      have w3 : totalOf (fun y => if y = "a" then 5 else 4) 11 [((2 : Int), [("a" : Str), "b"]), (-3, ["b"]), (7, [])] = 2 := by decide +kernel
      rw [w3]
      have e7' := s10 _ _ (k9 _ _ (r2 _ _ (s1 _ _ e7)))
      refine ⟨so, _, _, rfl, rfl, e7', sz_lt (by show 2 < 100000; decide), ?_⟩
      generalize hH11 : upd H10 so _ = H11
      have e11 : H11 so = some (.lst [.int 1, .int 999999999999000001, .int 2]) := by
        rw [← hH11]
        exact upd_same
      clear hH1 hH2 hH3 hH4 hH5 hH6 hH8 hH10 hH11 tv e1 e2 e3 e4 e5 e6 e7 e7' e8 e10 sx h1 f1
      -- what was told
      refine ⟨.ref so, rfl, 10, 18, rfl, rfl, ⟨by decide, by decide, by decide⟩, _, _, rfl, rfl, szn 3, fun l1 n1 => ?_⟩
      generalize hH1 : upd H11 l1 _ = H1
      obtain ⟨s1, e1⟩ := alloc_eq n1 hH1
      refine ⟨_, _, .lst (.of (s1 _ _ e11)) (dpAll_ints [1, 999999999999000001, 2]), .lst (.of e1) (dpAll_ints [1, 10 ^ (18 : Int).toNat - 999999, 2]), shaped_ints _, rfl, _, rfl, ?_⟩
      have we : (PyData.list (List.map PyData.int [1, 999999999999000001, 2])).eqv (PyData.list (List.map PyData.int [1, 10 ^ Int.toNat 18 - 999999, 2])) = true := by decide +kernel
      rw [if_pos we]
      -- the last one
      refine ⟨szn 1, fun t1 n2 => ?_⟩
      generalize hH2 : upd H1 t1 _ = H2
      obtain ⟨s2, e2⟩ := alloc_eq n2 hH2
      refine ⟨szn 2, fun t2 n3 => ?_⟩
      generalize hH3 : upd H2 t2 _ = H3
      obtain ⟨s3, e3⟩ := alloc_eq n3 hH3
      refine ⟨szn 1, fun l3 n4 => ?_⟩
      generalize hH4 : upd H3 l3 _ = H4
      obtain ⟨s4, e4⟩ := alloc_eq n4 hH4
      have tv : TermsV K H4 [.ref t2] [((0 : Int), [("a" : Str)])] := .cons ⟨t2, t1, rfl, .of (s4 _ _ e3), .of (s4 _ _ (s3 _ _ e2))⟩ .nil
      have f1 : Fine [((0 : Int), [("a" : Str)])] := fine_b (by decide +kernel)
      refine ⟨l3, _, _, rfl, .of e4, tv, f1, fun x H5 nx k5 sx => ?_⟩
      obtain ⟨dx, T0, N, us0, h1, _⟩ := id sx
      refine ⟨x, dx, _, rfl, h1, sflds_total _ _, fun d nd => ⟨10, 59, rfl, rfl, ⟨by decide, by decide, by decide⟩, upd_same, [(.inr "a", .int (10 ^ (59 : Int).toNat))], rfl, by decide, ?_⟩⟩
      generalize hH6 : upd (upd H5 d _) d _ = H6
      obtain ⟨s6, e6⟩ := mm nd hH6
      refine ⟨x, d, _, _, _, fun _ => 10 ^ (59 : Int).toNat, rfl, sx.same s6, e6, by decide, by decide, f1.2.2.1, vals_b (by decide +kernel), ?_⟩
      have w4 : totalOf (fun _ => 10 ^ (59 : Int).toNat) 2 [((0 : Int), [("a" : Str)])] = 0 := by decide +kernel
      rw [w4]
      refine ⟨rfl, ?_⟩
      rw [decide_eq_true rfl]
      exact q H6
end
end LC
namespace LC
open PySem PySem.Spec PyProof.Rows L2
/-- a def of the top, a method -/
def dP (x : Str) (st : Stmt) : He.DefD := ⟨(x, none), x, x, defArgs st, defBody st, defScope st, [], []⟩
def dC (C m q : Str) (st : Stmt) : He.DefD := ⟨(C, some m), m, q, defArgs st, defBody st, defScope st, [], []⟩
def d_is_integer : He.DefD := dP "is_integer" s_is_integer
def d_is_within : He.DefD := dP "is_within" s_is_within
def d_is_name : He.DefD := dP "is_name" s_is_name
def d_is_term : He.DefD := dP "is_term" s_is_term
def d_unlike_names : He.DefD := dP "unlike_names" s_unlike_names
def d_pen : He.DefD := dP "_law_pen" s_pen
def d_draw : He.DefD := dP "_law_draw" s_draw
def d_pick : He.DefD := dP "_law_pick" s_pick
def d_some : He.DefD := dP "_law_some" s_some
def d_names : He.DefD := dP "_law_names" s_names
def d_factor : He.DefD := dP "_law_factor" s_factor
def d_terms : He.DefD := dP "_law_terms" s_terms
def d_sum : He.DefD := dP "_law_sum" s_sum
def d_unlike : He.DefD := dP "_law_unlike" s_unlike
def d_modulus : He.DefD := dP "_law_modulus" s_modulus
def d_value : He.DefD := dP "_law_value" s_value
def d_due : He.DefD := dP "_law_due" s_due
def d_is_due : He.DefD := dP "_law_is_due" s_is_due
def d_moved : He.DefD := dP "_law_moved" s_moved
def d_law : He.DefD := dP "law" s_law
def d_init : He.DefD := dC "Sum" "__init__" "Sum.__init__" s_Sum_init
def d_total : He.DefD := dC "Sum" "total" "Sum.total" s_Sum_total
def fn : List He.DefD := [d_is_integer, d_is_within, d_is_name, d_is_term, d_unlike_names, d_pen, d_draw, d_pick, d_some, d_names, d_factor, d_terms, d_sum, d_unlike, d_modulus, d_value, d_due, d_is_due, d_moved, d_law, d_init, d_total]
def fa1 : List He.Fa := [.glo "is_integer", .glo "is_within", .glo "is_name", .glo "is_term", .glo "unlike_names", .glo "_law_pen", .glo "_law_draw", .glo "_law_pick", .glo "_law_some", .glo "_law_names", .glo "_law_factor", .glo "_law_terms", .glo "_law_sum", .glo "_law_unlike", .glo "_law_modulus", .glo "_law_value", .glo "_law_due", .glo "_law_is_due", .glo "_law_moved", .glo "law", .glo "Sum", .free "len", .free "int", .free "list", .free "abs", .free "min", .free "range", .free "tuple", .free "str", .free "bool"]
def fa2 : List He.Fa := [.free "isinstance", .free "all", .free "enumerate", .free "dict", .free "repr", .int "MOST_LETTERS" 6, .int "MOST_FACTOR" 999999, .int "MOST_TERMS" 4, .int "MOST_TERM_NAMES" 3, .int "MOST_UNLIKE" 3, .str "LETTERS" "abcdefghijklmnopqrstuvwxyz", .cls "Sum", .noat "Sum" "_terms", .noat "Sum" "_names", .meth "Sum" "total", .mkr "Sum"]
def fa : List He.Fa := fa1 ++ fa2
theorem facts {P : Program} {w : World} {K : PySem.W.Frag} {h : Heap} {mg : Str → Option Value} {f : Addr} (X : K.In h) (G : h.Ns mainGlobals mg) (hfa : mg ("law" : Str) = some (.ref f)) (c : He.SaysD fa fn K) :
    ∃ fd : FuncData, (∀ (s : Shared) (v : Value), BindsTo s fd ⟨[v], []⟩ [("script", v)]) ∧ ∀ base : Heap, K.In base → base.Ns mainGlobals mg → GOk P w K mg base CX0 8 f fd ["script"] (spLaw K) := by
  obtain ⟨fd_is_integer, F_is_integer⟩ := c.def_ 0 (d := d_is_integer) rfl
  obtain ⟨fd_is_within, F_is_within⟩ := c.def_ 1 (d := d_is_within) rfl
  obtain ⟨fd_is_name, F_is_name⟩ := c.def_ 2 (d := d_is_name) rfl
  obtain ⟨fd_is_term, F_is_term⟩ := c.def_ 3 (d := d_is_term) rfl
  obtain ⟨fd_unlike_names, F_unlike_names⟩ := c.def_ 4 (d := d_unlike_names) rfl
  obtain ⟨fd_pen, F_pen⟩ := c.def_ 5 (d := d_pen) rfl
  obtain ⟨fd_draw, F_draw⟩ := c.def_ 6 (d := d_draw) rfl
  obtain ⟨fd_pick, F_pick⟩ := c.def_ 7 (d := d_pick) rfl
  obtain ⟨fd_some, F_some⟩ := c.def_ 8 (d := d_some) rfl
  obtain ⟨fd_names, F_names⟩ := c.def_ 9 (d := d_names) rfl
  obtain ⟨fd_factor, F_factor⟩ := c.def_ 10 (d := d_factor) rfl
  obtain ⟨fd_terms, F_terms⟩ := c.def_ 11 (d := d_terms) rfl
  obtain ⟨fd_sum, F_sum⟩ := c.def_ 12 (d := d_sum) rfl
  obtain ⟨fd_unlike, F_unlike⟩ := c.def_ 13 (d := d_unlike) rfl
  obtain ⟨fd_modulus, F_modulus⟩ := c.def_ 14 (d := d_modulus) rfl
  obtain ⟨fd_value, F_value⟩ := c.def_ 15 (d := d_value) rfl
  obtain ⟨fd_due, F_due⟩ := c.def_ 16 (d := d_due) rfl
  obtain ⟨fd_is_due, F_is_due⟩ := c.def_ 17 (d := d_is_due) rfl
  obtain ⟨fd_moved, F_moved⟩ := c.def_ 18 (d := d_moved) rfl
  obtain ⟨fd_law, F_law⟩ := c.def_ 19 (d := d_law) rfl
  obtain ⟨fd_init, F_init⟩ := c.def_ 20 (d := d_init) rfl
  obtain ⟨fd_total, F_total⟩ := c.def_ 21 (d := d_total) rfl
  have e := hfa.symm.trans (He.glo_ok X G (c.fact 19 (f := .glo "law") rfl))
  cases e
  have T : Txt mg := ⟨He.free_ok X G (c.fact 21 (f := .free "len") rfl), He.free_ok X G (c.fact 22 (f := .free "int") rfl), He.free_ok X G (c.fact 23 (f := .free "list") rfl), He.free_ok X G (c.fact 24 (f := .free "abs") rfl), He.free_ok X G (c.fact 25 (f := .free "min") rfl), He.free_ok X G (c.fact 26 (f := .free "range") rfl), He.free_ok X G (c.fact 27 (f := .free "tuple") rfl), He.free_ok X G (c.fact 28 (f := .free "str") rfl), He.free_ok X G (c.fact 29 (f := .free "bool") rfl), He.free_ok X G (c.fact 30 (f := .free "isinstance") rfl), He.free_ok X G (c.fact 31 (f := .free "all") rfl), He.free_ok X G (c.fact 32 (f := .free "enumerate") rfl), He.free_ok X G (c.fact 33 (f := .free "dict") rfl), He.free_ok X G (c.fact 34 (f := .free "repr") rfl), He.int_ok X G (c.fact 35 (f := .int "MOST_LETTERS" 6) rfl), He.int_ok X G (c.fact 36 (f := .int "MOST_FACTOR" 999999) rfl), He.int_ok X G (c.fact 37 (f := .int "MOST_TERMS" 4) rfl), He.int_ok X G (c.fact 38 (f := .int "MOST_TERM_NAMES" 3) rfl), He.int_ok X G (c.fact 39 (f := .int "MOST_UNLIKE" 3) rfl), He.str_ok X G (c.fact 40 (f := .str "LETTERS" "abcdefghijklmnopqrstuvwxyz") rfl)⟩
  have S : SumTxt K mg (He.ga K "Sum") := ⟨He.cls_ok (c.fact 41 (f := .cls "Sum") rfl), He.noat_ok (c.fact 42 (f := .noat "Sum" "_terms") rfl), He.noat_ok (c.fact 43 (f := .noat "Sum" "_names") rfl), He.glo_ok X G (c.fact 20 (f := .glo "Sum") rfl)⟩
  have M := He.mkr_ok (c.fact 45 (f := .mkr "Sum") rfl)
  have mT := He.meth_ok (c.fact 44 (f := .meth "Sum" "total") rfl)
  have bT := F_total.bindsN (ps := ["self", "values", "modulus"]) fun _ _ _ _ _ _ us hl => match us, hl with | [_, _, _], _ => rfl
  have bL := F_law.bindsA (ps := ["script"]) fun _ _ _ _ _ _ us hl => match us, hl with | [_], _ => rfl
  refine ⟨fd_law, fun s v => bL s [v] rfl, fun base _ _ => ?_⟩
  have b_is_integer := F_is_integer.bindsN (ps := ["value"]) fun _ _ _ _ _ _ us hl => match us, hl with | [_], _ => rfl
  have b_is_within := F_is_within.bindsN (ps := ["value", "least", "most"]) fun _ _ _ _ _ _ us hl => match us, hl with | [_, _, _], _ => rfl
  have b_is_name := F_is_name.bindsN (ps := ["value"]) fun _ _ _ _ _ _ us hl => match us, hl with | [_], _ => rfl
  have b_is_term := F_is_term.bindsN (ps := ["value"]) fun _ _ _ _ _ _ us hl => match us, hl with | [_], _ => rfl
  have b_unlike_names := F_unlike_names.bindsN (ps := ["terms"]) fun _ _ _ _ _ _ us hl => match us, hl with | [_], _ => rfl
  have b_pen := F_pen.bindsN (ps := ["script"]) fun _ _ _ _ _ _ us hl => match us, hl with | [_], _ => rfl
  have b_draw := F_draw.bindsN (ps := ["pen", "many"]) fun _ _ _ _ _ _ us hl => match us, hl with | [_, _], _ => rfl
  have b_pick := F_pick.bindsN (ps := ["pen", "some"]) fun _ _ _ _ _ _ us hl => match us, hl with | [_, _], _ => rfl
  have b_some := F_some.bindsN (ps := ["pen", "pool", "least", "most"]) fun _ _ _ _ _ _ us hl => match us, hl with | [_, _, _, _], _ => rfl
  have b_names := F_names.bindsN (ps := ["pen", "many"]) fun _ _ _ _ _ _ us hl => match us, hl with | [_, _], _ => rfl
  have b_factor := F_factor.bindsN (ps := ["pen"]) fun _ _ _ _ _ _ us hl => match us, hl with | [_], _ => rfl
  have b_terms := F_terms.bindsN (ps := ["pen", "names"]) fun _ _ _ _ _ _ us hl => match us, hl with | [_, _], _ => rfl
  have b_sum := F_sum.bindsN (ps := ["terms"]) fun _ _ _ _ _ _ us hl => match us, hl with | [_], _ => rfl
  have b_unlike := F_unlike.bindsN (ps := ["terms"]) fun _ _ _ _ _ _ us hl => match us, hl with | [_], _ => rfl
  have b_modulus := F_modulus.bindsN (ps := ["pen"]) fun _ _ _ _ _ _ us hl => match us, hl with | [_], _ => rfl
  have b_value := F_value.bindsN (ps := ["pen", "modulus"]) fun _ _ _ _ _ _ us hl => match us, hl with | [_, _], _ => rfl
  have b_due := F_due.bindsN (ps := ["terms", "values", "modulus"]) fun _ _ _ _ _ _ us hl => match us, hl with | [_, _, _], _ => rfl
  have b_is_due := F_is_due.bindsN (ps := ["value", "terms", "values", "modulus"]) fun _ _ _ _ _ _ us hl => match us, hl with | [_, _, _, _], _ => rfl
  have b_moved := F_moved.bindsN (ps := ["pen", "terms", "values", "modulus"]) fun _ _ _ _ _ _ us hl => match us, hl with | [_, _, _, _], _ => rfl
  have k_draw : Cal P w K mg base CX0 1 "_law_draw" _ _ := ⟨_, _, (He.glo_ok X G (c.fact 6 (f := .glo "_law_draw") rfl)), ok_draw T F_draw, F_draw.kp, b_draw⟩
  have k_pick : Cal P w K mg base CX0 2 "_law_pick" _ _ := ⟨_, _, (He.glo_ok X G (c.fact 7 (f := .glo "_law_pick") rfl)), ok_pick T F_pick k_draw, F_pick.kp, b_pick⟩
  have k_some : Cal P w K mg base CX0 2 "_law_some" _ _ := ⟨_, _, (He.glo_ok X G (c.fact 8 (f := .glo "_law_some") rfl)), ok_some T F_some k_draw, F_some.kp, b_some⟩
  have k_names : Cal P w K mg base CX0 3 "_law_names" _ _ := ⟨_, _, (He.glo_ok X G (c.fact 9 (f := .glo "_law_names") rfl)), ok_names T F_names k_pick k_some, F_names.kp, b_names⟩
  have k_factor : Cal P w K mg base CX0 3 "_law_factor" _ _ := ⟨_, _, (He.glo_ok X G (c.fact 10 (f := .glo "_law_factor") rfl)), ok_factor T F_factor (k_draw.mono (by decide)) k_pick, F_factor.kp, b_factor⟩
  have k_terms : Cal P w K mg base CX0 4 "_law_terms" _ _ := ⟨_, _, (He.glo_ok X G (c.fact 11 (f := .glo "_law_terms") rfl)), ok_terms T F_terms (k_draw.mono (by decide)) (k_pick.mono (by decide)) k_factor, F_terms.kp, b_terms⟩
  have k_unlike : Cal P w K mg base CX0 1 "_law_unlike" _ _ := ⟨_, _, (He.glo_ok X G (c.fact 13 (f := .glo "_law_unlike") rfl)), ok_unlike T F_unlike, F_unlike.kp, b_unlike⟩
  have k_is_integer : Cal P w K mg base CX0 1 "is_integer" _ _ := ⟨_, _, (He.glo_ok X G (c.fact 0 (f := .glo "is_integer") rfl)), ok_is_integer T F_is_integer, F_is_integer.kp, b_is_integer⟩
  have k_is_within : Cal P w K mg base CX0 2 "is_within" _ _ := ⟨_, _, (He.glo_ok X G (c.fact 1 (f := .glo "is_within") rfl)), ok_is_within T F_is_within k_is_integer, F_is_within.kp, b_is_within⟩
  have k_is_name : Cal P w K mg base CX0 1 "is_name" _ _ := ⟨_, _, (He.glo_ok X G (c.fact 2 (f := .glo "is_name") rfl)), ok_is_name T F_is_name, F_is_name.kp, b_is_name⟩
  have k_is_term : Cal P w K mg base CX0 3 "is_term" _ _ := ⟨_, _, (He.glo_ok X G (c.fact 3 (f := .glo "is_term") rfl)), ok_is_term T F_is_term k_is_within (k_is_name.mono (by decide)), F_is_term.kp, b_is_term⟩
  have k_unlike_names : Cal P w K mg base CX0 1 "unlike_names" _ _ := ⟨_, _, (He.glo_ok X G (c.fact 4 (f := .glo "unlike_names") rfl)), ok_unlike_names T F_unlike_names, F_unlike_names.kp, b_unlike_names⟩
  have FI := fr_init T S F_init k_is_term (k_unlike_names.mono (by decide))
  have k_sum : Cal P w K mg base CX0 6 "_law_sum" _ _ := ⟨_, _, (He.glo_ok X G (c.fact 12 (f := .glo "_law_sum") rfl)), ok_sum T S M F_sum FI, F_sum.kp, b_sum⟩
  have k_modulus : Cal P w K mg base CX0 3 "_law_modulus" _ _ := ⟨_, _, (He.glo_ok X G (c.fact 14 (f := .glo "_law_modulus") rfl)), ok_modulus T F_modulus (k_draw.mono (by decide)) k_pick, F_modulus.kp, b_modulus⟩
  have k_value : Cal P w K mg base CX0 3 "_law_value" _ _ := ⟨_, _, (He.glo_ok X G (c.fact 15 (f := .glo "_law_value") rfl)), ok_value T F_value (k_draw.mono (by decide)) k_pick, F_value.kp, b_value⟩
  have k_due : Cal P w K mg base CX0 1 "_law_due" _ _ := ⟨_, _, (He.glo_ok X G (c.fact 16 (f := .glo "_law_due") rfl)), ok_due T F_due, F_due.kp, b_due⟩
  have k_pen : Cal P w K mg base CX0 1 "_law_pen" _ _ := ⟨_, _, (He.glo_ok X G (c.fact 5 (f := .glo "_law_pen") rfl)), ok_pen T F_pen, F_pen.kp, b_pen⟩
  have TM : TotM P w K mg base _ _ fd_total 1 := ⟨mT, ok_total T S F_total, bT, kb_total F_total⟩
  have k_is_due : CalG P w K mg base CX0 2 "_law_is_due" _ _ := ⟨_, _, (He.glo_ok X G (c.fact 17 (f := .glo "_law_is_due") rfl)), ok_is_due T S TM F_is_due k_due, F_is_due.kp, b_is_due⟩
  have k_moved : CalG P w K mg base CX0 7 "_law_moved" _ _ := ⟨_, _, (He.glo_ok X G (c.fact 18 (f := .glo "_law_moved") rfl)), ok_moved T S (TM.mono (by decide)) F_moved (k_due.mono (by decide)) (k_is_due.mono (by decide)) k_sum (k_unlike.mono (by decide)) (k_draw.mono (by decide)), F_moved.kp, b_moved⟩
  exact ok_law T S (TM.mono (by decide)) F_law (k_pen.mono (by decide)) (k_modulus.mono (by decide)) (k_names.mono (by decide)) (k_value.mono (by decide)) (k_terms.mono (by decide)) (k_sum.mono (by decide)) (k_is_due.mono (by decide)) (k_unlike.mono (by decide)) k_moved
def loose1 : List Str := ["_wall", "LeastError", "TooMany", "BadSum", "BadText", "LETTERS", "DIGITS", "MOST_LETTERS", "is_integer", "is_within", "is_name", "is_decimal", "MOST_TERMS", "MOST_TERM_NAMES", "MOST_UNLIKE", "MOST_FACTOR", "FACTOR_DIGITS", "term_text", "sum_words", "terms_of", "term_at", "names_at", "name_fits", "factor_of"]
def loose2 : List Str := ["is_term", "unlike_names", "Sum", "_law_pen", "_law_draw", "_law_pick", "_law_some", "_law_names", "_law_factor", "_law_terms", "_law_sum", "_law_unlike", "_law_modulus", "_law_value", "_law_due", "_law_is_due", "_law_moved"]
abbrev loose : List Str := loose1 ++ loose2
end LC
namespace LC
open PySem PySem.Spec PyProof.Rows L2
abbrev R : PySem.W.OpenRow := PySem.W.OpenLaw.row PySem.Challenge.rw_leastcode_k04_values_of_sums
abbrev hk : PySem.W.Hook := He.hookD 4 fa fn
def ob (s : PySem.W.SharedT) : He.AlD := He.obsDG 4 fa fn (HandSHeadRun.getT s)
theorem ob_eq (s : PySem.W.SharedT) : ob s = hk.obs s.abs := He.obsDG_eq (HandSHeadRun.getT_eq s)
theorem run (w : World) : HandSHeadRun.RunEq R (PySem.W.view R.prog [46]) hk ob 20000 loose w := by
  intro os
  kernel_rfl
end LC
open PySem PySem.W PySem.Calls PyProof.Rows
theorem PySem.Challenge.cw_leastcode_k04_values_of_sums_holds : PySem.Challenge.rw_leastcode_k04_values_of_sums.Holds := by
  w_on; o_law
  refine HandSHeadRun.head_any (r := LC.R) (q := view LC.R.prog [46]) (H := LC.hk) (ob := LC.ob) (M := 20000) (loose := LC.loose) (d := HandSHeadRun.topDef LC.R.prog 46) (kwd := []) LC.ob_eq
    (by kernel_rfl) (fun s => by kernel_rfl) LC.run (by kernel_rfl) (by kernel_rfl) (by kernel_rfl) (by rfl) (by first | assumption | decide +kernel) (by decide +kernel) ⟨rfl, rfl, rfl, rfl, rfl, by decide +kernel⟩ ?hw ?hc
  case hw => w_witness2
  case hc =>
    refine LC.walk_G (l := PySem.Challenge.rw_leastcode_k04_values_of_sums) (n := 63) (k := 8) (x := "script") (CX := L2.CX0) rfl (by decide) (by kernel_rfl) ⟨rfl, by decide, by decide⟩ ?F (fun _ _ _ _ z => z)
    intro w mg fa h Y G hmg0
    obtain ⟨K, KX, c⟩ := Y
    have hmg : mg ("law" : PySem.Str) = some (.ref fa) := by
      have e : (HandSHeadRun.topDef LC.R.prog 46).name = ("law" : PySem.Str) := by kernel_rfl
      rw [← e]
      exact hmg0
    obtain ⟨fd, hb, hF⟩ := LC.facts (P := (PySem.Challenge.rw_leastcode_k04_values_of_sums).prog) (w := w) KX G hmg c
    exact ⟨K, fd, LC.spLaw K, KX, hb, fun H a ns hl _ hS => ⟨a, ns, rfl, hS, hl, fun _ => rfl⟩, hF⟩
