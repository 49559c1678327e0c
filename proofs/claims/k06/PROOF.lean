import PyProof.Rows.All
import Wide.All
import OpenK.AllK
import Wide.FinOn
import KE.KStateDown
import KE.KEqSeq
import HandS.ForMost
import HandS.More
import HandS.Words
import HandS.Defaults
import HandS.Wide
import HandS.WideBits
import HandS.IsInst
import HandS.Star
import HandS.Property
import HandS.ClsMeth
import HandS.Evl
import HandS.Walk
import HandS.Exc
import HandS.ExcValue
import KE.KExcIs
import HandS.ExcField
import HandS.ExcInit
import HandS.WordsExc
import HandS.TryOnly
import HandS.ExcOwn
import HandS.HeadEnd
import PyProof.ReprRoads
import PyProof.ReprLen
import HandS.MakeKw
import HandS.Dict
import HandS.StrMore
import HandS.Style
import HandS.OwnEq
import PyProof.InstEq
import KE.KCallOwn
import OpenK.KMeth
import HandS.MakeKwOnly
import HandS.Text
import HandS.Conv
import HandS.RaiseMore
import HandS.Lambda
import HandS.EndTab
import PyProof.StrBlock2
import HandS.Head0
import HandS.Head1
import HandS.Head2
import HandS.HeadHook1
import HandS.HeadHook2
import HandS.HeadHook3
import HandS.HeadHook4
import HandS.NestedK
import PySem.Challenge.RW_leastcode_k06_rows
set_option Elab.async false
set_option linter.all false
set_option maxRecDepth 100000
set_option maxHeartbeats 0
/-! LcBase: heaps, calls in short, the pen. -/
namespace LC
open PySem PySem.Spec PyProof.Rows L2
/-! ### heaps: all but p is kept -/
def But (p : Addr) (H H' : Hp) : Prop := ∀ b o, b ≠ p → H b = some o → H' b = some o
theorem But.refl (p : Addr) (H : Hp) : But p H H := fun _ _ _ h => h
theorem But.trans {p : Addr} {H H1 H2 : Hp} (a : But p H H1) (b : But p H1 H2) : But p H H2 := fun c o n h => b c o n (a c o n h)
theorem But.new {p : Addr} {H : Hp} {q : Addr} {o : HO} (h : H q = none) : But p H (upd H q o) := fun b x _ e => by
  rw [upd_ne (ne_of_none e h)]
  exact e
theorem But.set {p : Addr} {H : Hp} {o : HO} : But p H (upd H p o) := fun b x n e => by
  rw [upd_ne n]
  exact e
theorem But.same {p : Addr} {H H' : Hp} (s : Same H H') : But p H H' := fun b o _ h => s b o h
theorem same_new {H : Hp} {p : Addr} {o : HO} (h : H p = none) : Same H (upd H p o) := fun b x e => by
  rw [upd_ne (ne_of_none e h)]
  exact e
theorem But.free {p : Addr} {H H' : Hp} (e : But p H H') {l : Addr} (hl : l ≠ p) (h : H' l = none) : H l = none := by
  cases q : H l with
  | none => rfl
  | some o =>
    rw [e l o hl q] at h
    cases h
/-- a new address is not p where p stands -/
theorem new_ne {H : Hp} {p q : Addr} {o : HO} (h : H p = some o) (n : H q = none) : q ≠ p := fun e => by
  rw [e, h] at n
  cases n
theorem But.sql {K : PySem.W.Frag} {p a : Addr} {H H' : Hp} {xs : List V} (e : But p H H') (h : H a = some (.lst xs)) (n : a ≠ p) : SqL K H' a xs := .inl (.inl (e _ _ n h))
/-- a new object, a changed one: the heap behind it by what is known -/
theorem alloc_of {H : Hp} {o : HO} {G : Addr → Hp → Prop} (h : ∀ (a : Addr) (H' : Hp), H a = none → Same H H' → H' a = some o → G a H') : ∀ a, H a = none → G a (upd H a o) := fun a n => h a _ n (same_new n) upd_same
theorem set_of {H : Hp} {p : Addr} {o : HO} {G : Hp → Prop} (h : ∀ H' : Hp, But p H H' → H' p = some o → G H') : G (upd H p o) := h _ .set upd_same
/-! ### a def of the module by its promise -/
def Cal (P : Program) (w : World) (K : PySem.W.Frag) (mg : Str → Option Value) (base : Heap) (CX : CXT) (k : Nat) (x : Str) (ps : List Str) (sp : Sp) : Prop :=
  ∃ f fd, mg x = some (.ref f) ∧ FnOk P w K mg base CX k f fd ps sp ∧ PySem.W.keepIn K (.ref f) = true ∧ Binds K fd ps []
theorem Cal.mono {P : Program} {w : World} {K : PySem.W.Frag} {mg : Str → Option Value} {base : Heap} {CX : CXT} {j k : Nat} {x : Str} {ps : List Str} {sp : Sp} (c : Cal P w K mg base CX j x ps sp) (h : j ≤ k) : Cal P w K mg base CX k x ps sp := by
  obtain ⟨f, fd, m, F, kp, b⟩ := c
  exact ⟨f, fd, m, F.mono h, kp, b⟩
/-- a call's reading -/
def tCal (sp : Sp) (E : XK) (t : TA) : TE := fun σ H Q => t σ H fun vs H1 => sp vs H1 Q E
section
variable {X : Cx} {CX : CXT} {k : Nat} {x : Str} {ps : List Str} {sp : Sp} {E : XK} {e : Expr} {es : List Expr} {t : TA} {p pos : Pos}
theorem pe_cal (c : Cal X.prog X.w X.K X.mg X.base CX k x ps sp) (hr : Room k X.A) (hg : Gl X x) (hx : Passes CX X E) (ha : PA X (e :: es) t) (hdb : (x == ("__debug__" : Str)) = false := by decide)
    (he : starEach (e :: es) X.env = (false, eval e X.env) :: starEach es X.env := by rfl) (hpl : (backTo pos (starEach es X.env)).any (·.1) = false := by rfl) : PE X (.Call (.Name x p) (e :: es) [] pos) (tCal sp E t) := by
  obtain ⟨f, fd, m, F, kp, b⟩ := c
  have z := pe_call F hr hg m kp b .nil hx ha hdb he hpl (p := p)
  refine ⟨fun pins s σ H Q I h => z.run pins s σ H Q I ?_⟩
  show t σ H fun vs H1 => sp (vs ++ []) H1 Q E
  simp only [List.append_nil]
  exact h
theorem pe_cal0 (c : Cal X.prog X.w X.K X.mg X.base CX k x ps sp) (hr : Room k X.A) (hg : Gl X x) (hx : Passes CX X E) (hdb : (x == ("__debug__" : Str)) = false := by decide) :
    PE X (.Call (.Name x p) [] [] pos) (tCal sp E tNil) := by
  obtain ⟨f, fd, m, F, kp, b⟩ := c
  exact pe_call0 F hr hg m kp b .nil hx hdb
end
section
variable {X : Cx} {x : Str} {pos : Pos}
/-- a module's constant -/
theorem pe_gint {i : Int} (h : ∃ t, X.mg x = some (.int i t)) (hg : Gl X x := by rfl) (hd : (x == ("__debug__" : Str)) = false := by decide) : PE X (.Name x pos) (tC (.int i)) := by
  obtain ⟨t, e⟩ := h
  exact pe_glob hg e ⟨t, rfl⟩ hd
theorem pe_gstr {z : Str} (h : ∃ t, X.mg x = some (.str z t)) (hg : Gl X x := by rfl) (hd : (x == ("__debug__" : Str)) = false := by decide) : PE X (.Name x pos) (tC (.str z)) := by
  obtain ⟨t, e⟩ := h
  exact pe_glob hg e ⟨t, rfl⟩ hd
/-- a built-in class as a value -/
theorem pe_bty (C : String) (hm : X.mg x = none) (hv : bootBuiltins x = some (.type C)) (hg : Gl X x := by rfl) (hn : x ≠ "__name__" := by decide) (hd : (x == ("__debug__" : Str)) = false := by decide) : PE X (.Name x pos) (tC (.ty C)) := pe_bltn hg hm hv (show RelV (.ty C) (.type C) from rfl) hn hd
end
/-- a def of the top's text -/
abbrev FnP (K : PySem.W.Frag) (x : Str) (st : Stmt) (f : Addr) (fd : FuncData) : Prop := FunD K x x (defArgs st) (defBody st) (defScope st) [] [] f fd
/-! ### ints -/
theorem natAbs_lt_pow {i : Int} {n : Nat} (h0 : 0 ≤ i) (h : i < 2 ^ n) : i.natAbs < 2 ^ n := by
  have e : ((i.natAbs : Nat) : Int) < ((2 ^ n : Nat) : Int) := by
    rw [Int.natAbs_of_nonneg h0, Int.natCast_pow]
    exact h
  exact Int.ofNat_lt.mp e
theorem small_pow {i : Int} (h0 : 0 ≤ i) (h : i < 2 ^ 250) : i.natAbs < 2 ^ 8000 := Nat.lt_of_lt_of_le (natAbs_lt_pow h0 h) (Nat.pow_le_pow_right (by decide) (by decide))
theorem sz_le {n : Nat} (h : n ≤ 100000) : n ≤ sizeLine := Nat.le_trans h (by decide)
theorem sz_lt {n : Nat} (h : n < 100000) : n < sizeLine := Nat.lt_of_lt_of_le h (by decide)
theorem iteD {c A B : Prop} [Decidable c] (h1 : c → A) (h2 : ¬ c → B) : if decide c = true then A else B := by
  by_cases h : c
  · rw [decide_eq_true h, if_pos rfl]
    exact h1 h
  · rw [decide_eq_false h, if_neg Bool.false_ne_true]
    exact h2 h
theorem iteND {c A B : Prop} [Decidable c] (h1 : ¬ c → A) (h2 : c → B) : if (!decide c) = true then A else B := by
  by_cases h : c
  · rw [decide_eq_true h]
    exact iteF (h2 h)
  · rw [decide_eq_false h]
    exact iteT (h1 h)
theorem iteB {b : Bool} {A B : Prop} (h1 : b = true → A) (h2 : b = false → B) : if b = true then A else B := by
  cases b with
  | true => exact iteT (h1 rfl)
  | false => exact iteF (h2 rfl)
/-- a comprehension without a test -/
theorem tyes_of {A B : Hp → Prop} {σ : L2.St} {H : Hp} (h : A H) : tYes σ H (fun b H3 => if b = true then A H3 else B H3) := iteT (B := B H) h
/-- the tests' answers as bounds -/
theorem fmod_bounds {i m : Int} (h : 0 < m) : 0 ≤ i.fmod m ∧ i.fmod m < m := ⟨Int.fmod_nonneg_of_pos i h, Int.fmod_lt_of_pos i h⟩
/-! ### data -/
theorem dpAll_ints {K : PySem.W.Frag} {H : Hp} : ∀ ns : List Int, DpAll K H (ns.map V.int) (ns.map PyData.int)
  | [] => .nil
  | n :: r => .cons (.int n) (dpAll_ints r)
theorem dpAll_strs {K : PySem.W.Frag} {H : Hp} : ∀ ns : List Str, DpAll K H (ns.map V.str) (ns.map PyData.str)
  | [] => .nil
  | n :: r => .cons (.str n) (dpAll_strs r)
theorem shaped_ints (ns : List Int) : SeqAt.shaped (.list (ns.map PyData.int)) = true := PySem.W.ke_shaped_ints ns
theorem atI_in {α : Type} {xs : List α} {i : Int} (h0 : 0 ≤ i) (h1 : i < (xs.length : Int)) : ∃ v, atI xs i = some v ∧ v ∈ xs := by
  have hj : i.toNat < xs.length := by omega
  have e := atI_nat (List.getElem?_eq_getElem hj)
  rw [Int.toNat_of_nonneg h0] at e
  exact ⟨_, e, List.getElem_mem hj⟩
theorem atI_int {ns : List Int} {i : Int} (h0 : 0 ≤ i) (h1 : i < ((ns.map V.int).length : Int)) : ∃ z, atI (ns.map V.int) i = some (.int z) ∧ z ∈ ns := by
  obtain ⟨v, e, m⟩ := atI_in h0 h1
  obtain ⟨z, hz, rfl⟩ := List.mem_map.mp m
  exact ⟨z, e, hz⟩
theorem erase_perm {α : Type} : ∀ {l : List α} {k : Nat} (h : k < l.length), ([l[k]] ++ l.eraseIdx k).Perm l
  | [], _, h => absurd h (Nat.not_lt_zero _)
  | a :: r, 0, _ => List.Perm.refl _
  | a :: r, k + 1, h => by
    have hk : k < r.length := Nat.lt_of_succ_lt_succ h
    have ih := erase_perm (l := r) (k := k) hk
    exact (List.Perm.swap a (r[k]'hk) (r.eraseIdx k)).trans (ih.cons a)
/-! ### the pen -/
structure Pen (H : Hp) (p c : Addr) (n : Nat) : Prop where
  ex : ∃ (ns : List Int) (i g : Int), H p = some (.lst [.ref c, .int i, .int g]) ∧ H c = some (.lst (ns.map V.int)) ∧ ns.length ≤ 63 ∧ 0 ≤ i ∧ i ≤ (n : Int)
theorem Pen.mono {H : Hp} {p c : Addr} {n m : Nat} (h : Pen H p c n) (l : n ≤ m) : Pen H p c m := by
  obtain ⟨ns, i, g, h1, h2, h3, h4, h5⟩ := h.ex
  exact ⟨ns, i, g, h1, h2, h3, h4, Int.le_trans h5 (Int.ofNat_le.mpr l)⟩
theorem Pen.same {H H' : Hp} {p c : Addr} {n : Nat} (h : Pen H p c n) (s : Same H H') : Pen H' p c n := by
  obtain ⟨ns, i, g, h1, h2, h3, h4, h5⟩ := h.ex
  exact ⟨ns, i, g, s _ _ h1, s _ _ h2, h3, h4, h5⟩
theorem Pen.new {H : Hp} {p c q : Addr} {n : Nat} {o : HO} (h : Pen H p c n) (nq : H q = none) : Pen (upd H q o) p c n := h.same (same_new nq)
theorem Pen.mut {H : Hp} {p c q : Addr} {n : Nat} {o : HO} (h : Pen H p c n) (n1 : q ≠ p) (n2 : q ≠ c) : Pen (upd H q o) p c n := by
  obtain ⟨ns, i, g, h1, h2, h3, h4, h5⟩ := h.ex
  refine ⟨ns, i, g, ?_, ?_, h3, h4, h5⟩
  · rw [upd_ne n1.symm]
    exact h1
  · rw [upd_ne n2.symm]
    exact h2
theorem Pen.newP {H : Hp} {p c q : Addr} {n : Nat} (h : Pen H p c n) (nq : H q = none) : q ≠ p := by
  obtain ⟨ns, i, g, h1, h2, h3, h4, h5⟩ := h.ex
  exact new_ne h1 nq
theorem Pen.newC {H : Hp} {p c q : Addr} {n : Nat} (h : Pen H p c n) (nq : H q = none) : q ≠ c := by
  obtain ⟨ns, i, g, h1, h2, h3, h4, h5⟩ := h.ex
  exact new_ne h2 nq
theorem Pen.at_ {H : Hp} {p c : Addr} {n : Nat} (h : Pen H p c n) : ∃ xs, H p = some (.lst xs) := by
  obtain ⟨ns, i, g, h1, h2, h3, h4, h5⟩ := h.ex
  exact ⟨_, h1⟩
theorem But.mut {p q : Addr} {H H' : Hp} {o : HO} (k : But p H H') (h : H q = none) : But p H (upd H' q o) := fun b x n e => by
  rw [upd_ne (ne_of_none e h)]
  exact k b x n e
theorem Pen.but {H H' : Hp} {p c q : Addr} {n : Nat} (h : Pen H p c n) (k : But q H H') (n1 : q ≠ p) (n2 : q ≠ c) : Pen H' p c n := by
  obtain ⟨ns, i, g, h1, h2, h3, h4, h5⟩ := h.ex
  exact ⟨ns, i, g, k _ _ n1.symm h1, k _ _ n2.symm h2, h3, h4, h5⟩
/-- what H does not know may change -/
theorem But.more {p q : Addr} {H H' H2 : Hp} (k : But p H H') (h : H q = none) (k2 : But q H' H2) : But p H H2 := fun b x n e => k2 b x (ne_of_none e h) (k b x n e)
theorem But.sqt {K : PySem.W.Frag} {p a : Addr} {H H' : Hp} {xs ys : List V} (e : But p H H') (hp : H p = some (.lst ys)) (h : SqT K H a xs) : SqT K H' a xs := by
  rcases h with (h | ⟨o, h⟩) | h
  · exact .inl (.inl (e _ _ (ne_of h hp (fun z => nomatch z)) h))
  · exact .inl (.inr ⟨o, e _ _ (ne_of h hp (fun z => nomatch z)) h⟩)
  · exact .inr h
/-- many is drawn from: a number from 0, below many -/
def spDraw : Sp := fun vs H Q _ => ∃ (p c : Addr) (n : Nat) (m : Int), vs = [.ref p, .int m] ∧ Pen H p c n ∧ n ≤ 100000 ∧ 0 < m ∧ m.natAbs < 2 ^ 8000 ∧
  ∀ (d : Int) (H' : Hp), 0 ≤ d → d < m → But p H H' → Pen H' p c (n + 1) → Q (.int d) H'
theorem szn {xs : List V} (n : Nat) (h : xs.length = n := by rfl) (h2 : n ≤ 100000 := by decide) : xs.length ≤ sizeLine := by
  rw [h]
  exact sz_le h2
/-! ### names -/
theorem strs_of {Pz : Str → Prop} : ∀ {ys : List V}, (∀ y ∈ ys, ∃ z, y = V.str z ∧ Pz z) → ∃ zs : List Str, ys = zs.map V.str ∧ ∀ z ∈ zs, Pz z
  | [], _ => ⟨[], rfl, fun _ h => nomatch h⟩
  | y :: r, h => by
    obtain ⟨z, e, hz⟩ := h y (List.mem_cons_self ..)
    obtain ⟨zs, e2, h2⟩ := strs_of (ys := r) fun q hq => h q (List.mem_cons_of_mem _ hq)
    refine ⟨z :: zs, by rw [e, e2]; rfl, fun q hq => ?_⟩
    rcases List.mem_cons.mp hq with e3 | hq
    · rw [e3]
      exact hz
    · exact h2 q hq
theorem nodup_strs : ∀ {zs : List Str}, (zs.map V.str).Nodup ↔ zs.Nodup
  | [] => by simp
  | z :: r => by
    rw [List.map_cons, List.nodup_cons, List.nodup_cons, nodup_strs (zs := r)]
    constructor
    · rintro ⟨a, b⟩
      exact ⟨fun m => a (List.mem_map.mpr ⟨z, m, rfl⟩), b⟩
    · rintro ⟨a, b⟩
      refine ⟨fun m => a ?_, b⟩
      obtain ⟨q, hq, e⟩ := List.mem_map.mp m
      rw [← V.str.inj e]
      exact hq
/-- some of a pool of unlike texts -/
theorem some_strs {pool : List Str} {ys zs : List V} (pm : (ys ++ zs).Perm (pool.map V.str)) (nd : pool.Nodup) : ∃ ts : List Str, ys = ts.map V.str ∧ ts.Nodup ∧ ∀ t ∈ ts, t ∈ pool := by
  have hm : ∀ y ∈ ys, ∃ z, y = V.str z ∧ z ∈ pool := fun y hy => by
    have q := pm.mem_iff.mp (List.mem_append_left zs hy)
    obtain ⟨z, hz, e⟩ := List.mem_map.mp q
    exact ⟨z, e.symm, hz⟩
  obtain ⟨ts, e, h⟩ := strs_of hm
  refine ⟨ts, e, ?_, h⟩
  have n1 := pm.nodup_iff.mpr (nodup_strs.mpr nd)
  have n2 := (List.nodup_append.mp n1).1
  rw [e] at n2
  exact nodup_strs.mp n2
/-- what a name is -/
def nameB (z : Str) : Bool := decide (1 ≤ z.length) && decide (z.length ≤ 6) && z.cps.toList.all fun c => decide (97 ≤ c) && decide (c ≤ 122)
theorem name_chars {z : Str} (h : nameB z = true) : ∀ c ∈ z.cps.toList, 97 ≤ c ∧ c ≤ 122 := fun c hc => by
  unfold nameB at h
  rw [Bool.and_eq_true] at h
  have q := List.all_eq_true.mp h.2 c hc
  rw [Bool.and_eq_true] at q
  exact ⟨of_decide_eq_true q.1, of_decide_eq_true q.2⟩
theorem name_len {z : Str} (h : nameB z = true) : 1 ≤ z.length ∧ z.length ≤ 6 := by
  unfold nameB at h
  rw [Bool.and_eq_true, Bool.and_eq_true] at h
  exact ⟨of_decide_eq_true h.1.1, of_decide_eq_true h.1.2⟩
theorem name_ok {z : Str} (h : nameB z = true) : PyData.strOk z = true := by
  unfold PyData.strOk
  rw [Array.all_eq_true_iff_forall_mem]
  intro c hc
  have q := name_chars h c (Array.mem_def.mp hc)
  exact decide_eq_true (by omega)
theorem shaped_names : ∀ ns : List Str, (∀ z ∈ ns, nameB z = true) → SeqAt.shaped (.list (ns.map PyData.str)) = true := fun ns h => by
  have h1 : ∀ ns : List Str, (∀ z ∈ ns, nameB z = true) → PyData.canLayAll0 (ns.map PyData.str) = true := fun ns => by
    induction ns with
    | nil => intro _; rfl
    | cons a r ih =>
      intro q
      simp [PyData.canLayAll0, PyData.canLay0, ih fun z hz => q z (List.mem_cons_of_mem _ hz), name_ok (q a (List.mem_cons_self ..))]
  have h2 : ∀ ns : List Str, PyData.depthAll (ns.map PyData.str) = 0 := fun ns => by
    induction ns with
    | nil => rfl
    | cons a r ih => simp [PyData.depthAll, PyData.depth, ih]
  simp [SeqAt.shaped, PyData.canLay0, PyData.depth, h1 ns h, h2]
theorem alloc_eq {H H' : Hp} {o : HO} {p : Addr} (n : H p = none) (e : upd H p o = H') : Same H H' ∧ H' p = some o := by
  rw [← e]
  exact ⟨same_new n, upd_same⟩
/-- one of the items is picked -/
def spPick : Sp := fun vs H Q _ => ∃ (p c : Addr) (n : Nat) (l : Addr) (xs : List V), vs = [.ref p, .ref l] ∧ Pen H p c n ∧ n ≤ 100000 ∧ H l = some (.lst xs) ∧ l ≠ p ∧ 0 < xs.length ∧ xs.length ≤ 1000 ∧
  ∀ (v : V) (H' : Hp), v ∈ xs → But p H H' → Pen H' p c (n + 1) → Q v H'
/-- many of the pool's items, each place at most once, as a new list -/
def spSome : Sp := fun vs H Q _ => ∃ (p c : Addr) (n : Nat) (l : Addr) (xs : List V) (a b : Int), vs = [.ref p, .ref l, .int a, .int b] ∧ Pen H p c n ∧ H l = some (.lst xs) ∧ l ≠ p ∧ xs.length ≤ 1000 ∧ 0 ≤ a ∧ a ≤ b ∧ a ≤ (xs.length : Int) ∧ n + xs.length + 1 ≤ 100000 ∧
  ∀ (r : Addr) (ys zs : List V) (H' : Hp), (ys ++ zs).Perm xs → a ≤ (ys.length : Int) → (ys.length : Int) ≤ b → H r = none → H' r = some (.lst ys) → r ≠ p → But p H H' → Pen H' p c (n + 1 + ys.length) → Q (.ref r) H'
/-! ### kinds of values -/
def kinds : List String := ["NoneType", "bool", "int", "str", "list", "tuple", "dict"]
theorem kit_k {K : PySem.W.Frag} (b : String) (f : String → Bool) (h : ∀ n ∈ kinds, kitB n b = some (f n)) {n : String} (hn : n ∈ kinds) : PySem.W.kitOne K (.type n) (.type b) = some (f n) := kit_ty (h n hn)
theorem ty_ne {a b : String} (h : Value.type a = Value.type b) (n : a ≠ b) : False := n (by injection h)
theorem tyx_int {K : PySem.W.Frag} {H : Hp} {v : V} (h : TyX K H v (.type "int")) : ∃ i, v = .int i := by
  generalize e : Value.type "int" = t at h
  cases h with
  | base b => cases b <;> first | exact ⟨_, rfl⟩ | exact (ty_ne e (by decide)).elim | cases e
  | _ => exact (ty_ne e (by decide)).elim
theorem tyx_str {K : PySem.W.Frag} {H : Hp} {v : V} (h : TyX K H v (.type "str")) : ∃ i, v = .str i := by
  generalize e : Value.type "str" = t at h
  cases h with
  | base b => cases b <;> first | exact ⟨_, rfl⟩ | exact (ty_ne e (by decide)).elim | cases e
  | _ => exact (ty_ne e (by decide)).elim
def intB : V → Bool
  | .int _ => true
  | _ => false
def withinB (lo hi : Int) : V → Bool
  | .int i => decide (lo ≤ i) && decide (i ≤ hi)
  | _ => false
def isNameB : V → Bool
  | .str z => nameB z
  | _ => false
theorem intB_ty {K : PySem.W.Frag} {H : Hp} {v : V} {n : String} (h : TyX K H v (.type n)) : intB v = (n == "int") := by
  generalize e : Value.type n = t at h
  have no : ∀ m : String, Value.type n = Value.type m → m ≠ "int" → false = (n == "int") := fun m z h => by
    injection z with z
    rw [z]
    exact (beq_eq_false_iff_ne.mpr h).symm
  cases h with
  | base b =>
    cases b with
    | int i =>
      injection e with e
      rw [e]
      rfl
    | ins => cases e
    | _ => exact no _ e (by decide)
  | _ => exact no _ e (by decide)
theorem notName_ty {K : PySem.W.Frag} {H : Hp} {v : V} {n : String} (h : TyX K H v (.type n)) (hn : n ≠ "str") : isNameB v = false := by
  cases v with
  | str z =>
    generalize e : Value.type n = t at h
    cases h with
    | base b => cases b with | str => injection e with e; exact absurd e hn
  | _ => rfl
def spIsInteger (K : PySem.W.Frag) : Sp := fun vs H Q _ => ∃ (v : V) (n : String), vs = [v] ∧ n ∈ kinds ∧ TyX K H v (.type n) ∧ Q (.bl (intB v)) H
def spIsWithin (K : PySem.W.Frag) : Sp := fun vs H Q _ => ∃ (v : V) (n : String) (lo hi : Int), vs = [v, .int lo, .int hi] ∧ n ∈ kinds ∧ TyX K H v (.type n) ∧ Q (.bl (withinB lo hi v)) H
def spIsName (K : PySem.W.Frag) : Sp := fun vs H Q _ => ∃ (v : V) (n : String), vs = [v] ∧ n ∈ kinds ∧ TyX K H v (.type n) ∧ (∀ z, v = .str z → z.length ≤ 100000) ∧ ∀ H', Same H H' → Q (.bl (isNameB v)) H'
/-! ### terms -/
abbrev Term := Int × List Str
/-- a pair of a factor and a tuple of names -/
def TermV (K : PySem.W.Frag) (H : Hp) (v : V) (t : Term) : Prop := ∃ a b : Addr, v = .ref a ∧ SqT K H a [.int t.1, .ref b] ∧ SqT K H b (t.2.map V.str)
abbrev TermsV (K : PySem.W.Frag) (H : Hp) : List V → List Term → Prop := Paired (TermV K H)
theorem TermV.but {K : PySem.W.Frag} {H H' : Hp} {q : Addr} {xs : List V} {v : V} {t : Term} (h : TermV K H v t) (k : But q H H') (hq : H q = some (.lst xs)) : TermV K H' v t := by
  obtain ⟨a, b, e, h1, h2⟩ := h
  exact ⟨a, b, e, k.sqt hq h1, k.sqt hq h2⟩
theorem sqt_same {K : PySem.W.Frag} {a : Addr} {H H' : Hp} {xs : List V} (e : Same H H') (h : SqT K H a xs) : SqT K H' a xs := by
  rcases h with (h | ⟨o, h⟩) | h
  · exact .inl (.inl (e _ _ h))
  · exact .inl (.inr ⟨o, e _ _ h⟩)
  · exact .inr h
/-- no tuple, no locked thing -/
def NT : HO → Prop
  | .tup _ => False
  | .frz _ _ => False
  | _ => True
theorem But.sqtN {K : PySem.W.Frag} {p a : Addr} {H H' : Hp} {xs : List V} {u : HO} (e : But p H H') (hp : H p = some u) (nt : NT u) (h : SqT K H a xs) : SqT K H' a xs := by
  rcases h with (h | ⟨o, h⟩) | h
  · exact .inl (.inl (e _ _ (ne_of h hp (fun z => by rw [← z] at nt; exact nt)) h))
  · exact .inl (.inr ⟨o, e _ _ (ne_of h hp (fun z => by rw [← z] at nt; exact nt)) h⟩)
  · exact .inr h
theorem TermV.butN {K : PySem.W.Frag} {H H' : Hp} {q : Addr} {u : HO} {v : V} {t : Term} (h : TermV K H v t) (k : But q H H') (hq : H q = some u) (nt : NT u) : TermV K H' v t := by
  obtain ⟨a, b, e, h1, h2⟩ := h
  exact ⟨a, b, e, k.sqtN hq nt h1, k.sqtN hq nt h2⟩
theorem TermsV.butN {K : PySem.W.Frag} {H H' : Hp} {q : Addr} {u : HO} : ∀ {vs : List V} {ts : List Term}, TermsV K H vs ts → But q H H' → H q = some u → NT u → TermsV K H' vs ts
  | _, _, .nil, _, _, _ => .nil
  | _, _, .cons a r, k, h, nt => .cons (a.butN k h nt) (TermsV.butN r k h nt)
theorem TermV.same {K : PySem.W.Frag} {H H' : Hp} {v : V} {t : Term} (h : TermV K H v t) (k : Same H H') : TermV K H' v t := by
  obtain ⟨a, b, e, h1, h2⟩ := h
  exact ⟨a, b, e, sqt_same k h1, sqt_same k h2⟩
theorem TermsV.but {K : PySem.W.Frag} {H H' : Hp} {q : Addr} {xs : List V} : ∀ {vs : List V} {ts : List Term}, TermsV K H vs ts → But q H H' → H q = some (.lst xs) → TermsV K H' vs ts
  | _, _, .nil, _, _ => .nil
  | _, _, .cons a r, k, h => .cons (a.but k h) (TermsV.but r k h)
theorem TermsV.same {K : PySem.W.Frag} {H H' : Hp} : ∀ {vs : List V} {ts : List Term}, TermsV K H vs ts → Same H H' → TermsV K H' vs ts
  | _, _, .nil, _ => .nil
  | _, _, .cons a r, k => .cons (a.same k) (TermsV.same r k)
/-- a term over some names -/
def TermOk (ys : List Str) (t : Term) : Prop := -999999 ≤ t.1 ∧ t.1 ≤ 999999 ∧ t.2.length ≤ 3 ∧ ∀ x ∈ t.2, x ∈ ys
def spTerms (K : PySem.W.Frag) : Sp := fun vs H Q _ => ∃ (p c : Addr) (n : Nat) (l : Addr) (ys : List Str), vs = [.ref p, .ref l] ∧ Pen H p c n ∧ n ≤ 80000 ∧ H l = some (.lst (ys.map V.str)) ∧ l ≠ p ∧ ys.length ≤ 100 ∧ (∀ y ∈ ys, nameB y = true) ∧
  ∀ (r : Addr) (us : List V) (ts : List Term) (H' : Hp), TermsV K H' us ts → 1 ≤ ts.length → ts.length ≤ 4 → (∀ t ∈ ts, TermOk ys t) → H r = none → H' r = some (.lst us) → r ≠ p → But p H H' → Pen H' p c (n + 100) → Q (.ref r) H'
theorem sqt_ty {K : PySem.W.Frag} {H : Hp} {a : Addr} {xs : List V} (h : SqT K H a xs) : TyX K H (.ref a) (.type "tuple") := by
  rcases h with (h | ⟨o, h⟩) | ⟨o, its, n, h, c, _⟩
  · exact .base (.tup h)
  · exact .fTuple h
  · exact .kTuple h c
theorem kit_tl {K : PySem.W.Frag} : PySem.W.kitAny K (.type "tuple") [.type "tuple", .type "list"] = some true := kitAny_cons (b := true) (kit_ty (by decide +kernel)) (fun z => by cases z) (fun _ => rfl)
/-- a good term, as the package's own looks -/
def TermFine (t : Term) : Prop := -999999 ≤ t.1 ∧ t.1 ≤ 999999 ∧ t.2.length ≤ 3 ∧ ∀ x ∈ t.2, nameB x = true
def spIsTerm (K : PySem.W.Frag) : Sp := fun vs H Q _ => ∃ (v : V) (t : Term), vs = [v] ∧ TermV K H v t ∧ TermFine t ∧ ∀ H', Same H H' → Q (.bl true) H'
/-! ### unlike names -/
def addN (acc : List Str) (x : Str) : List Str := if x ∈ acc then acc else acc ++ [x]
def unlikeF (acc : List Str) (ts : List Term) : List Str := ts.foldl (fun acc t => t.2.foldl addN acc) acc
def unlike (ts : List Term) : List Str := unlikeF [] ts
theorem take_next {α : Type} {l : List α} {i : Nat} {x : α} (h : l[i]? = some x) : l.take (i + 1) = l.take i ++ [x] := by
  rw [List.take_add_one, h]
  rfl
theorem unlike_next {ts : List Term} {i : Nat} {t : Term} (h : ts[i]? = some t) : unlike (ts.take (i + 1)) = t.2.foldl addN (unlike (ts.take i)) := by
  unfold unlike unlikeF
  rw [take_next h, List.foldl_append]
  rfl
theorem addN_next {ws : List Str} {j : Nat} {x : Str} {acc : List Str} (h : ws[j]? = some x) : (ws.take (j + 1)).foldl addN acc = addN ((ws.take j).foldl addN acc) x := by
  rw [take_next h, List.foldl_append]
  rfl
theorem addN_len (acc : List Str) (x : Str) : (addN acc x).length ≤ acc.length + 1 := by
  unfold addN
  split
  · omega
  · rw [List.length_append]
    exact Nat.le_refl _
theorem addN_new {acc : List Str} {x : Str} (h : ¬ x ∈ acc) : addN acc x = acc ++ [x] := if_neg h
theorem addN_old {acc : List Str} {x : Str} (h : x ∈ acc) : addN acc x = acc := if_pos h
theorem foldN_len : ∀ (ws acc : List Str), (ws.foldl addN acc).length ≤ acc.length + ws.length
  | [], acc => Nat.le_refl _
  | x :: r, acc => by
    have a := foldN_len r (addN acc x)
    have b := addN_len acc x
    show (r.foldl addN (addN acc x)).length ≤ acc.length + (r.length + 1)
    omega
theorem inV_str (x : Str) : ∀ acc : List Str, inV (.str x) (acc.map V.str) = decide (x ∈ acc)
  | [] => by simp [inV]
  | y :: r => by
    have ih := inV_str x r
    unfold inV at ih ⊢
    rw [List.map_cons, List.any_cons, ih]
    show ((y == x) || decide (x ∈ r)) = decide (x ∈ y :: r)
    by_cases e : y = x
    · subst e
      simp
    · have e2 : (y == x) = false := beq_eq_false_iff_ne.mpr e
      rw [e2, Bool.false_or]
      by_cases m : x ∈ r
      · rw [decide_eq_true m, decide_eq_true (List.mem_cons_of_mem _ m)]
      · rw [decide_eq_false m, decide_eq_false (fun q => (List.mem_cons.mp q).elim (fun z => e z.symm) m)]
theorem flat_strs : ∀ acc : List Str, (acc.map V.str).all flatV = true
  | [] => rfl
  | y :: r => by
    rw [List.map_cons, List.all_cons, flat_strs r]
    rfl
theorem paired_get {α β : Type} {F : α → β → Prop} : ∀ {xs : List α} {ys : List β} {i : Nat} {x : α}, Paired F xs ys → xs[i]? = some x → ∃ y, ys[i]? = some y ∧ F x y
  | _, _, _, _, .nil, e => by simp at e
  | _, _, 0, _, .cons r _, e => ⟨_, rfl, by cases (Option.some.inj (show some _ = some _ from e)); exact r⟩
  | _, _, i + 1, x, .cons _ t, e => paired_get (i := i) t (by simpa using e)
def spUnlikeNames (K : PySem.W.Frag) : Sp := fun vs H Q _ => ∃ (l : Addr) (us : List V) (ts : List Term), vs = [.ref l] ∧ SqT K H l us ∧ TermsV K H us ts ∧ ts.length ≤ 10 ∧ (∀ t ∈ ts, t.2.length ≤ 10) ∧
  ∀ (r : Addr) (H' : Hp), H r = none → Same H H' → SqT K H' r ((unlike ts).map V.str) → Q (.ref r) H'
/-! ### sums -/
structure SumTxt (K : PySem.W.Frag) (mg : Str → Option Value) (C : Addr) : Prop where
  cl : Cls K C
  nT : NoAttr K C "_terms"
  nN : NoAttr K C "_names"
  g_Sum : mg "Sum" = some (.ref C)
def sflds (T N : Addr) : List (Str × V) := putF "_names" (.ref N) (putF "_terms" (.ref T) [])
theorem tn_ne : ¬ (("_terms" : Str) = "_names") := by decide +kernel
theorem sflds_terms (T N : Addr) : (sflds T N).lookup ("_terms" : Str) = some (.ref T) := by
  unfold sflds
  rw [lookup_putF, if_neg tn_ne, lookup_putF, if_pos rfl]
theorem sflds_names (T N : Addr) : (sflds T N).lookup ("_names" : Str) = some (.ref N) := by
  unfold sflds
  rw [lookup_putF, if_pos rfl]
theorem sflds_len (T N : Addr) : (sflds T N).length ≤ 10 := by
  unfold sflds
  show (if ("_terms" : Str) = "_names" then _ else _ : List (Str × V)).length ≤ 10
  rw [if_neg tn_ne]
  show 2 ≤ 10
  decide
/-- a Sum of these terms stands at x -/
def SumAt (K : PySem.W.Frag) (C : Addr) (H : Hp) (x : Addr) (ts : List Term) : Prop := ∃ (dx T N : Addr) (us : List V), H x = some (.ins C dx (sflds T N)) ∧ SqT K H T us ∧ TermsV K H us ts ∧ SqT K H N ((unlike ts).map V.str)
theorem SumAt.same {K : PySem.W.Frag} {C x : Addr} {H H' : Hp} {ts : List Term} (h : SumAt K C H x ts) (s : Same H H') : SumAt K C H' x ts := by
  obtain ⟨dx, T, N, us, h1, h2, h3, h4⟩ := h
  exact ⟨dx, T, N, us, s _ _ h1, sqt_same s h2, h3.same s, sqt_same s h4⟩
theorem SumAt.but {K : PySem.W.Frag} {C x q : Addr} {H H' : Hp} {ts : List Term} {xs : List V} (h : SumAt K C H x ts) (k : But q H H') (hq : H q = some (.lst xs)) : SumAt K C H' x ts := by
  obtain ⟨dx, T, N, us, h1, h2, h3, h4⟩ := h
  exact ⟨dx, T, N, us, k _ _ (ne_of h1 hq (fun z => nomatch z)) h1, k.sqt hq h2, h3.but k hq, k.sqt hq h4⟩
/-- a good row of terms -/
def Fine (ts : List Term) : Prop := 1 ≤ ts.length ∧ ts.length ≤ 4 ∧ (∀ t ∈ ts, TermFine t) ∧ (unlike ts).length ≤ 3
def spSumInit (K : PySem.W.Frag) (C : Addr) : Sp := fun vs H Q _ => ∃ (x tp dx : Addr) (us : List V) (ts : List Term), vs = [.ref x, .ref tp] ∧ H x = some (.ins C dx []) ∧ SqT K H tp us ∧ TermsV K H us ts ∧ Fine ts ∧
  ∀ H', But x H H' → SumAt K C H' x ts → Q .non H'
def spSum (K : PySem.W.Frag) (C : Addr) : Sp := fun vs H Q _ => ∃ (l : Addr) (us : List V) (ts : List Term), vs = [.ref l] ∧ SqL K H l us ∧ TermsV K H us ts ∧ Fine ts ∧ ∀ (x : Addr) (H' : Hp), H x = none → Same H H' → SumAt K C H' x ts → Q (.ref x) H'
/-- what Sum(..) of good terms leaves -/
theorem mk_sum {K : PySem.W.Frag} {C : Addr} {H : Hp} {us : List V} {ts : List Term} {Q : VK} (hts : TermsV K H us ts) (hf : Fine ts) (q : ∀ (x : Addr) (H' : Hp), H x = none → Same H H' → SumAt K C H' x ts → Q (.ref x) H') :
    ∀ x dx, H x = none → H dx = none → dx ≠ x → ∃ ws rest, V.ref x :: us = ws ++ rest ∧ ws.length = 1 ∧ rest.length ≤ sizeLine ∧ ∀ p, (upd (upd H dx (.own x)) x (.ins C dx [])) p = none →
      spSumInit K C (ws ++ [V.ref p]) (upd (upd (upd H dx (.own x)) x (.ins C dx [])) p (.tup rest)) (fun v H2 => v = .non ∧ Q (.ref x) H2) E0 := by
  intro x dx nx ndx ne
  have hl : us.length = ts.length := hts.length
  refine ⟨[.ref x], us, rfl, rfl, sz_le (by have := hf.2.1; omega), fun p np => ?_⟩
  have s1 : Same H (upd (upd H dx (.own x)) x (.ins C dx [])) := fun b o e => by
    rw [upd_ne (ne_of_none e nx), upd_ne (ne_of_none e ndx)]
    exact e
  have s2 := s1.trans (same_new (o := .tup us) np)
  refine ⟨x, p, dx, us, ts, rfl, ?_, .of upd_same, hts.same s2, hf, fun H' k sm => ⟨rfl, q x H' nx (fun b o e => k b o (ne_of_none e nx) (s2 b o e)) sm⟩⟩
  exact same_new np x _ upd_same
def spModulus : Sp := fun vs H Q _ => ∃ (p c : Addr) (n : Nat), vs = [.ref p] ∧ Pen H p c n ∧ n ≤ 90000 ∧ ∀ (i : Int) (H' : Hp), 2 ≤ i → i ≤ 1000000000000000000 → But p H H' → Pen H' p c (n + 3) → Q (.int i) H'
def spValue : Sp := fun vs H Q _ => ∃ (p c : Addr) (n : Nat) (m : Int), vs = [.ref p, .int m] ∧ Pen H p c n ∧ n ≤ 90000 ∧ 2 ≤ m ∧ m ≤ 1000000000000000000 ∧ ∀ (i : Int) (H' : Hp), i.natAbs < 2 ^ 240 → But p H H' → Pen H' p c (n + 4) → Q (.int i) H'
def partOf (val : Str → Int) (m : Int) (t : Term) : Int := t.2.foldl (fun p x => (p * ((val x).fmod m)).fmod m) (t.1.fmod m)
def dueOf (val : Str → Int) (m : Int) (ts : List Term) : Int := ts.foldl (fun w t => (w + partOf val m t).fmod m) 0
def spDue (K : PySem.W.Frag) : Sp := fun vs H Q _ => ∃ (l d : Addr) (m : Int) (us : List V) (ts : List Term) (kvs : List (Key × V)) (val : Str → Int), vs = [.ref l, .ref d, .int m] ∧ SqL K H l us ∧ TermsV K H us ts ∧ H d = some (.dK kvs) ∧ 0 < m ∧ m < 2 ^ 64 ∧
  (∀ t ∈ ts, ∀ z ∈ t.2, valV kvs (Sum.inr z) = some (.int (val z)) ∧ (val z).natAbs < 2 ^ 250) ∧ Q (.int (dueOf val m ts)) H
def prodOf (val : Str → Int) (m : Int) (t : Term) : Int := t.2.foldl (fun p x => (p * val x).fmod m) t.1
def totalOf (val : Str → Int) (m : Int) (ts : List Term) : Int := (ts.foldl (fun w t => w + prodOf val m t) 0).fmod m
def spTotal (K : PySem.W.Frag) (C : Addr) : Sp := fun vs H Q _ => ∃ (x d : Addr) (m : Int) (ts : List Term) (kvs : List (Key × V)) (val : Str → Int), vs = [.ref x, .ref d, .int m] ∧ SumAt K C H x ts ∧ H d = some (.dK kvs) ∧ 0 < m ∧ m < 2 ^ 64 ∧ (∀ t ∈ ts, TermFine t) ∧
  (∀ t ∈ ts, ∀ z ∈ t.2, valV kvs (Sum.inr z) = some (.int (val z)) ∧ (val z).natAbs < 2 ^ 250) ∧ Q (.int (totalOf val m ts)) H
def spUnlike (K : PySem.W.Frag) : Sp := fun vs H Q _ => ∃ (l : Addr) (us : List V) (ts : List Term), vs = [.ref l] ∧ SqL K H l us ∧ TermsV K H us ts ∧ ts.length ≤ 10 ∧ (∀ t ∈ ts, t.2.length ≤ 10) ∧
  ∀ (r : Addr) (H' : Hp), H r = none → Same H H' → H' r = some (.lst ((unlike ts).map V.str)) → Q (.ref r) H'
theorem unlike_len : ∀ (ts : List Term) (acc : List Str), (∀ t ∈ ts, t.2.length ≤ 10) → (unlikeF acc ts).length ≤ acc.length + 10 * ts.length
  | [], acc, _ => by show acc.length ≤ _; omega
  | t :: r, acc, h => by
    have a := unlike_len r (t.2.foldl addN acc) fun q hq => h q (List.mem_cons_of_mem _ hq)
    have b := foldN_len t.2 acc
    have c := h t (List.mem_cons_self ..)
    show (unlikeF (t.2.foldl addN acc) r).length ≤ acc.length + 10 * (r.length + 1)
    omega
/-- so many unlike names, as a new list -/
def spNames : Sp := fun vs H Q _ => ∃ (p c : Addr) (n : Nat) (m : Int), vs = [.ref p, .int m] ∧ Pen H p c n ∧ n ≤ 90000 ∧ 0 ≤ m ∧ m ≤ 7 ∧
  ∀ (r : Addr) (ts : List Str) (H' : Hp), ts.Nodup → (∀ t ∈ ts, nameB t = true) → (ts.length : Int) = m → H r = none → H' r = some (.lst (ts.map V.str)) → r ≠ p → But p H H' → Pen H' p c (n + 10) → Q (.ref r) H'
def spFactor : Sp := fun vs H Q _ => ∃ (p c : Addr) (n : Nat), vs = [.ref p] ∧ Pen H p c n ∧ n ≤ 90000 ∧ ∀ (i : Int) (H' : Hp), -999999 ≤ i → i ≤ 999999 → But p H H' → Pen H' p c (n + 3) → Q (.int i) H'
end LC
namespace LC
open PySem PySem.Spec PyProof.Rows L2
def topS (i : Nat) : Stmt := PySem.Challenge.pw_leastcode_k06_rows.main.body.getD i (.Pass ⟨0, 0, 0, 0⟩)
structure Txt (mg : Str → Option Value) : Prop where
  n_len : mg "len" = none
  n_int : mg "int" = none
  n_list : mg "list" = none
  n_abs : mg "abs" = none
  n_range : mg "range" = none
  n_tuple : mg "tuple" = none
  n_str : mg "str" = none
  n_bool : mg "bool" = none
  n_isinstance : mg "isinstance" = none
  n_repr : mg "repr" = none
  n_divmod : mg "divmod" = none
  g_BLOCK_DIGITS : ∃ t, mg "BLOCK_DIGITS" = some (.int 64 t)
  g_BLOCK : ∃ t, mg "BLOCK" = some (.int (10 ^ 64) t)
  g_MOST_NUMBERS : ∃ t, mg "MOST_NUMBERS" = some (.int 2000 t)
section
variable {P : Program} {w : World} {K : PySem.W.Frag} {mg : Str → Option Value} {base : Heap}
abbrev s_draw : Stmt := topS 25
theorem sc_draw : FnScope ["pen", "many", "digit", "at", "cell", "great", "mixed"] ["pen", "many"] (defScope s_draw) := ⟨rfl, rfl, rfl, by decide +kernel, rfl, by decide +kernel, by decide +kernel⟩
theorem ok_draw {f : Addr} {fd : FuncData} (T : Txt mg) (F : FnP K "_law_draw" s_draw f fd) : FnOk P w K mg base CX0 1 f fd ["pen", "many"] spDraw := by
  have sc := sc_draw
  refine F.ok sc (fun vs H Q E h => ?_) (fun cdv A outer s H vs Q E hr h => ?_)
  · obtain ⟨p, c, n, m, rfl, _⟩ := h
    rfl
  · obtain ⟨p, c, n, m, rfl, hP, hn, hm, hm2, q⟩ := h
    refine ⟨_, PSs.nox
     (pss_cons (ps_if (pt_cmpR op_gt (pe_ix ix_list (pv 0) pe_int (fun _ _ => rfl)) pe_int (nomark _))
  (pss_cons (ps_set (i := 2) sc.nd rfl (.inl rfl) (pe_op op_modN (pe_callTy call_int1 (by rfl) T.n_int (by decide +kernel) (pa_cons (pe_ix ix_list (pv 0) pe_int (fun _ _ => rfl)) pa_nil)) (pv 1)))
  (pss_cons (ps_asg (pe_op op_fdivW (pe_callTy call_int1 (by rfl) T.n_int (by decide +kernel) (pa_cons (pe_ix ix_list (pv 0) pe_int (fun _ _ => rfl)) pa_nil)) (pv 1)) (pg_sub (pv 0) pe_int set_list))
  (pss_one (ps_ret (pv 2)))))
  pss_nil)
(pss_cons (ps_set (i := 3) sc.nd rfl (.inl rfl) (pe_ix ix_list (pv 0) pe_int (fun _ _ => rfl)))
(pss_cons (ps_asg (pe_op op_add (pv 3) pe_int) (pg_sub (pv 0) pe_int set_list))
(pss_cons (ps_set (i := 4) sc.nd rfl (.inl rfl) (pe_op op_add (pe_op op_mul pe_int (pv 3)) pe_int))
(Evl.pss_cut (ps_if (pt_cmpR (op_neD hr.units) (pe_ix ix_list (pv 0) pe_int (fun _ _ => rfl)) (pe_lst pa_nil) (nomark _))
  (pss_one (ps_set (i := 4) sc.nd rfl (.inl rfl) (pe_ix ix_list (pe_ix ix_list (pv 0) pe_int (fun _ _ => rfl)) (pe_op op_modN (pe_callTy call_int1 (by rfl) T.n_int (by decide +kernel) (pa_cons (pv 3) pa_nil)) (pe_callB call_len (by rfl) T.n_len (by decide +kernel) (pa_cons (pe_ix ix_list (pv 0) pe_int (fun _ _ => rfl)) pa_nil))) (fun _ _ => rfl))))
  pss_nil)
(Evl.pss_cut (ps_if (PW.pt (pw_and (pt_cmpR op_lt (pv 3) (pe_callB call_len (by rfl) T.n_len (by decide +kernel) (pa_cons (pe_ix ix_list (pv 0) pe_int (fun _ _ => rfl)) pa_nil)) (nomark _)) (pw_and1 (pt_cmpR op_ge (pe_callB call_abs (by rfl) T.n_abs (by decide +kernel) (pa_cons (pv 4) pa_nil)) (pe_op op_pow pe_int pe_int) (nomark _)))))
  (pss_cons (ps_set (i := 5) sc.nd rfl (.inl rfl) (pe_op op_add (pe_op op_mul pe_int (pe_op op_sub (pe_callB call_abs (by rfl) T.n_abs (by decide +kernel) (pa_cons (pv 4) pa_nil)) (pe_op op_pow pe_int pe_int))) (pe_callTy call_int1 (by rfl) T.n_int (by decide +kernel) (pa_cons (pe_cmpR op_lt (pv 4) pe_int (nomark _)) pa_nil))))
  (pss_cons (ps_asg (pe_op op_fdivW (pe_callTy call_int1 (by rfl) T.n_int (by decide +kernel) (pa_cons (pv 5) pa_nil)) (pv 1)) (pg_sub (pv 0) pe_int set_list))
  (pss_one (ps_ret (pe_op op_modN (pe_callTy call_int1 (by rfl) T.n_int (by decide +kernel) (pa_cons (pv 5) pa_nil)) (pv 1))))))
  pss_nil)
(pss_cons (ps_set (i := 6) sc.nd rfl (.inl rfl) (pe_op op_modN (pe_callTy call_int1 (by rfl) T.n_int (by decide +kernel) (pa_cons (pe_op op_pow (pe_op op_add (pe_op op_add (pe_op op_modN (pe_callTy call_int1 (by rfl) T.n_int (by decide +kernel) (pa_cons (pv 4) pa_nil)) pe_int) (pe_op op_mul pe_int (pv 3))) pe_int) pe_int) pa_nil)) pe_int))
(pss_cons (ps_set (i := 6) sc.nd rfl (.inl rfl) (pe_op op_modN (pe_callTy call_int1 (by rfl) T.n_int (by decide +kernel) (pa_cons (pe_op op_pow (pe_op op_add (pe_op op_add (pe_op op_mul (pv 6) (pe_op op_add (pe_op op_mul pe_int (pv 3)) pe_int)) (pe_op op_mul (pe_op op_mul pe_int (pv 3)) (pv 3))) pe_int) pe_int) pa_nil)) pe_int))
(pss_one (ps_ret (pe_op op_modN (pe_callTy call_int1 (by rfl) T.n_int (by decide +kernel) (pa_cons (pe_op op_fdivW (pv 6) pe_int) pa_nil)) (pv 1)))))))))))), ?_⟩
    obtain ⟨ns, i, g, hp, hc, hl, hi, hi2⟩ := hP.ex
    have hpc : c ≠ p := ne_of hc hp (by
      intro z
      have z2 : ns.map V.int = [.ref c, .int i, .int g] := HO.lst.inj z
      cases ns with
      | nil => cases z2
      | cons a r => cases z2)
    -- if pen[2] > 0
    refine ⟨.ref p, rfl, p, _, 2, .int g, rfl, rfl, .of hp, rfl, g, 0, rfl, rfl, _, rfl, iteD (fun e1 => ?_) (fun e1 => ?_)⟩
    · have b1 := fmod_bounds (i := g) hm
      -- digit = int(pen[2]) % many
      refine ⟨.ref p, rfl, p, _, 2, .int g, rfl, rfl, .of hp, rfl, .inl ⟨g, rfl, .int m, rfl, g, m, rfl, rfl, by omega, ?_⟩⟩
      -- pen[2] = int(pen[2]) // many
      refine ⟨.ref p, rfl, p, _, 2, .int g, rfl, rfl, .of hp, rfl, .inl ⟨g, rfl, .int m, rfl, g, m, rfl, rfl, wide_div hm hm2 (by decide) (by decide), ?_⟩⟩
      refine ⟨.ref p, rfl, p, _, 2, 2, rfl, rfl, hp, rfl, ?_⟩
      refine ⟨.int (g.fmod m), rfl, q _ _ b1.1 b1.2 .set ⟨ns, i, g / m, upd_same, ?_, hl, hi, by omega⟩⟩
      rw [upd_ne hpc]
      exact hc
    · -- at = pen[1]; pen[1] = at + 1
      refine ⟨.ref p, rfl, p, _, 1, .int i, rfl, rfl, .of hp, rfl, ?_⟩
      refine ⟨.int i, rfl, i, 1, rfl, rfl, .ref p, rfl, p, _, 1, 1, rfl, rfl, hp, rfl, ?_⟩
      generalize hH : upd H p _ = H1
      have hp1 : H1 p = some (.lst [.ref c, .int (i + 1), .int g]) := by
        rw [← hH]
        exact upd_same
      have hc1 : H1 c = some (.lst (ns.map V.int)) := by
        rw [← hH, upd_ne hpc]
        exact hc
      have k1 : But p H H1 := by
        rw [← hH]
        exact .set
      -- cell = 9319 * at + 853
      refine ⟨.int i, rfl, 9319, i, rfl, rfl, .inl ⟨by decide, by decide⟩, 9319 * i, 853, rfl, rfl, ?_⟩
      -- if pen[0] != []: behind it the cell is some number
      refine ⟨fun σ' H' => Same H1 H' ∧ ∃ x : Int, σ' = [some (.ref p), some (.int m), none, some (.int i), some (.int x), none, none], ?_, ?_⟩
      · refine ⟨.ref p, rfl, p, _, 0, .ref c, rfl, rfl, .of hp1, rfl, Nat.zero_le _, fun o no => ?_⟩
        generalize hH2 : upd H1 o _ = H2
        have ho2 : H2 o = some (.lst []) := by
          rw [← hH2]
          exact upd_same
        have s2 : Same H1 H2 := by
          rw [← hH2]
          exact same_new no
        have hp2 := s2 _ _ hp1
        have hc2 := s2 _ _ hc1
        refine ⟨.list (ns.map PyData.int), .list [], .lst (.of hc2) (dpAll_ints ns), .lst (.of ho2) .nil, shaped_ints ns, rfl, _, rfl, ?_⟩
        cases ns with
        | nil => 
          refine iteF ?_
          exact ⟨s2, _, rfl⟩
        | cons z zs =>
          refine iteT ?_
          have hz : (0 : Int) < ((((z :: zs).map V.int).length : Nat) : Int) := by
            rw [List.length_map]
            show (0 : Int) < ((zs.length + 1 : Nat) : Int)
            omega
          have b1 := fmod_bounds (i := i) hz
          obtain ⟨x, ha, _⟩ := atI_int b1.1 b1.2
          exact ⟨.ref p, rfl, p, _, 0, .ref c, rfl, rfl, .of hp2, rfl, .int i, rfl, .inl ⟨i, rfl, .ref p, rfl, p, _, 0, .ref c, rfl, rfl, .of hp2, rfl, .ref c, _, rfl, .inl ⟨_, .of hc2, rfl⟩, i, _, rfl, rfl, Int.ne_of_gt hz, c, _, _, _, rfl, rfl, .of hc2, ha, s2, _, rfl⟩⟩
      · rintro σ' H2 ⟨s2, x, rfl⟩
        have hp2 := s2 _ _ hp1
        have hc2 := s2 _ _ hc1
        have k2 : But p H H2 := k1.trans (.same s2)
        have pen2 : Pen H2 p c (n + 1) := ⟨ns, i + 1, g, hp2, hc2, hl, by omega, by omega⟩
        -- the last rows, the cell mixed
        have b3 : ∀ y : Int, 0 ≤ y → y < 2 ^ 60 → y.natAbs < 2 ^ 64 := fun y h0 h1 => natAbs_lt_pow h0 (Int.lt_trans h1 (by decide))
        have i5 : i ≤ 100000 := by omega
        have cm := fmod_bounds (i := x) (m := 2147483587) (by decide)
        have h53 : 51199 * i ≤ 51199 * 100000 := by omega
        have M1 := fmod_bounds (i := (x.fmod 2147483587 + 51199 * i + 53) ^ (3 : Int).toNat) (m := 2147483563) (by decide)
        generalize hM1 : ((x.fmod 2147483587 + 51199 * i + 53) ^ (3 : Int).toNat).fmod 2147483563 = y at M1
        have P1 : 0 ≤ y * (2 * i + 67) := Int.mul_nonneg M1.1 (by omega)
        have P2 : y * (2 * i + 67) ≤ 2147483563 * 200067 := Int.mul_le_mul (by omega) (by omega) (by omega) (by decide)
        have P3 : 0 ≤ 60607 * i * i := Int.mul_nonneg (by omega) (by omega)
        have P4 : 60607 * i * i ≤ 6060700000 * 100000 := Int.mul_le_mul (by omega) (by omega) (by omega) (by decide)
        have M2 := fmod_bounds (i := (y * (2 * i + 67) + 60607 * i * i + 71) ^ (5 : Int).toNat) (m := 2147483629) (by decide)
        -- if at < len(pen[0]) and abs(cell) >= 10 ** 18
        refine ⟨fun σ' H' => H' = H2 ∧ σ' = [some (.ref p), some (.int m), none, some (.int i), some (.int x), none, none], ?_, ?_⟩
        · refine ⟨.int i, rfl, .ref p, rfl, p, _, 0, .ref c, rfl, rfl, .of hp2, rfl, .ref c, _, rfl, .inl ⟨_, .of hc2, rfl⟩, _, _, rfl, rfl, _, rfl, iteD (fun e2 => ?_) (fun e2 => ?_)⟩
          · refine ⟨.int x, rfl, x, rfl, 10, 18, rfl, rfl, ⟨by decide, by decide, by decide⟩, _, _, rfl, rfl, _, rfl, iteD (fun e3 => ?_) (fun e3 => ?_)⟩
            · -- great
              refine ⟨.int x, rfl, x, rfl, 10, 18, rfl, rfl, ⟨by decide, by decide, by decide⟩, _, _, rfl, rfl, _, _, rfl, rfl, .inl ⟨by decide, by decide⟩, .int x, rfl, x, 0, rfl, rfl, .inr ⟨_, rfl, _, _, rfl, rfl, ?_⟩⟩
              dsimp only
              generalize 2 * ((if x < 0 then -x else x) - 10 ^ (18 : Int).toNat) + (if decide (x < 0) = true then 1 else 0) = gr
              have b5 := fmod_bounds (i := gr) hm
              refine ⟨.int gr, rfl, .inl ⟨gr, rfl, .int m, rfl, gr, m, rfl, rfl, wide_div hm hm2 (by decide) (by decide), ?_⟩⟩
              refine ⟨.ref p, rfl, p, _, 2, 2, rfl, rfl, hp2, rfl, ?_⟩
              refine ⟨.int gr, rfl, .inl ⟨gr, rfl, .int m, rfl, gr, m, rfl, rfl, Int.ne_of_gt hm, ?_⟩⟩
              refine q _ _ b5.1 b5.2 (k2.trans .set) ⟨ns, i + 1, gr / m, upd_same, ?_, hl, by omega, by omega⟩
              rw [upd_ne hpc]
              exact hc2
            · exact ⟨rfl, rfl⟩
          · exact iteF ⟨rfl, rfl⟩
        · rintro σ' H' ⟨rfl, rfl⟩
          refine ⟨.int x, rfl, .inl ⟨x, rfl, x, _, rfl, rfl, (by show ¬ (2147483587 : Int) = 0; decide), .int i, rfl, _, _, rfl, rfl, .inl ⟨by decide, by decide⟩, _, _, rfl, rfl, _, _, rfl, rfl, _, _, rfl, rfl, ⟨by decide, by decide, ?_⟩, .inl ⟨_, rfl, _, _, rfl, rfl, (by show ¬ (2147483563 : Int) = 0; decide), ?_⟩⟩⟩
          · exact b3 _ (by omega) (by omega)
          dsimp only
          rw [hM1]
          refine ⟨.int y, rfl, .int i, rfl, _, _, rfl, rfl, .inl ⟨by decide, by decide⟩, _, _, rfl, rfl, _, _, rfl, rfl, .inl ⟨by omega, by omega⟩, .int i, rfl, _, _, rfl, rfl, .inl ⟨by decide, by decide⟩, .int i, rfl, _, _, rfl, rfl, .inl ⟨by omega, by omega⟩, _, _, rfl, rfl, _, _, rfl, rfl, _, _, rfl, rfl, ⟨by decide, by decide, ?_⟩, .inl ⟨_, rfl, _, _, rfl, rfl, (by show ¬ (2147483629 : Int) = 0; decide), ?_⟩⟩
          · exact b3 _ (by omega) (by omega)
          have b6 := fmod_bounds (i := ((y * (2 * i + 67) + 60607 * i * i + 71) ^ (5 : Int).toNat).fmod 2147483629 / 16) hm
          refine ⟨_, rfl, _, _, rfl, rfl, wide_div (b := 5) (by decide) (by decide) (by decide) (by decide), .inl ⟨_, rfl, .int m, rfl, _, _, rfl, rfl, Int.ne_of_gt hm, ?_⟩⟩
          exact q _ _ b6.1 b6.2 k2 pen2
end
end LC
/-! LcHeld: an exception that was caught, and held by a name behind its clause. -/
namespace LC
open PySem PySem.Spec PyProof.Rows L2
/-- at a: an exception object of the class cls, its dict d -/
def Held (cls : Value) (d : Option Addr) (a : Addr) : HO := .ext fun g => ∃ (ob : Obj) (fv : Array Value), g.get? a = some ob ∧ Zc cls d ob ∧ ob.data = .fields fv
theorem held_ok {P : Program} {w : World} {H : Hp} {g : Heap} {a : Addr} {cls : Value} {d : Option Addr} {ob : Obj} {fv : Array Value} (e : g.get? a = some ob) (z : Zc cls d ob) (dd : ob.data = .fields fv) : ObjOk P w H g a (Held cls d a) :=
  ⟨⟨ob, fv, e, z, dd⟩, ⟨ob, e⟩, fun _ _ ⟨o, v, q, r⟩ k => ⟨o, v, k o q, r⟩⟩
theorem held_at {P : Program} {w : World} {H : Hp} {g : Heap} {a : Addr} {cls : Value} {d : Option Addr} (ok : HOk P w H g) (e : H a = some (Held cls d a)) : ∃ (ob : Obj) (fv : Array Value), g.get? a = some ob ∧ Zc cls d ob ∧ ob.data = .fields fv := (ok a _ e).1
section
variable {X : Cx} {pins : List (Addr × Obj)} {σ : L2.St} {H : Hp} {s : Shared}
/-- an object that is there, was not there when the def was entered, and is not known, is known from now on -/
theorem track {a : Addr} {cls : Value} {d : Option Addr} {ob : Obj} {fv : Array Value} (I : Inv X pins σ H s) (n0 : X.s_0.heap.get? a = none) (na : H a = none) (e : s.heap.get? a = some ob) (z : Zc cls d ob) (dd : ob.data = .fields fv)
    (nL : a ≠ X.env.locals) (np : ∀ p ∈ X.pn ++ pins, p.1 ≠ a) : Inv X pins σ (upd H a (Held cls d a)) s := by
  have nb : ∀ {b : Addr} {u : HO}, H b = some u → b ≠ a := fun h => ne_of_none h na
  refine ⟨I.ok, I.os, I.bare, ⟨I.base.keep, I.base.slot, fun b u q n x => ?_, I.base.there, fun b xs q => ?_, fun b u v q => ?_, fun b ps q => ?_⟩, I.loc, I.cell, ?_, fun y c q => ?_, fun p hp => ?_, fun b u q => ?_, I.len⟩
  · rw [upd_ne (fun z => by rw [z, n0] at q; cases q)]
    exact I.base.free b u q n x
  · have h := I.base.tups b xs q
    rw [upd_ne (nb h)]
    exact h
  · have h := I.base.frzs b u v q
    rw [upd_ne (nb h)]
    exact h
  · obtain ⟨more, h⟩ := I.base.tbls b ps q
    exact ⟨more, by rw [upd_ne (nb h)]; exact h⟩
  · rw [upd_ne (Ne.symm nL)]
    exact I.free
  · have hca : c ≠ a := fun w => by
      obtain ⟨v, o, ho, hc⟩ := I.cell y c q
      rw [w, e] at ho
      cases ho
      rw [dd] at hc
      cases hc
    rw [upd_ne hca]
    exact I.freeC y c q
  · obtain ⟨h1, h2, h3⟩ := I.pin p hp
    exact ⟨h1, by rw [upd_ne (np p hp)]; exact h2, h3⟩
  · by_cases hb : b = a
    · subst hb
      rw [upd_same] at q
      cases q
      exact held_ok e z dd
    · rw [upd_ne hb] at q
      exact (I.hok b u q).stay (fun _ _ _ q => q) (fun c q => by rw [upd_ne (nb q)]; exact q) fun c xs q => by rw [upd_ne (nb q)]; exact q
end
/-- what is wanted of an exception of the body, where the clause lets a name hold it -/
def wHeld (K : PySem.W.Frag) (c : Value) (i : Nat) (ts : Addr → Value → Option Addr → TS) (Wout : WX) (D : Ends) : WX := fun cls d σ H =>
  ∃ b, PySem.W.exmOne K cls c = some b ∧ (b = true → ∀ a, H a = none → ts a cls d { nx := fun σ' H' => H' a = none → D.nx (σ'.set i none) (upd H' a (Held cls d a)), rt := fun _ _ => False, bk := fun _ _ => False, ct := fun _ _ => False } (σ.set i (some (.ref a))) H) ∧
    (b = false → Wout cls d σ H)
section
variable {X : Cx} {x n : Str} {c : Value} {i : Nat} {body suite : List Stmt} {b₀ : Stmt} {np pos pos' : Pos} {tb : WX → TS} {ts : Addr → Value → Option Addr → TS} {Wout : WX}
theorem ps_try_held (hex : X.ex = []) (stk : X.stack = X.env :: X.outer) (frm : X.env.frame = some X.env.locals) (hN : X.N.Nodup) (hi : X.N[i]? = some n) (hln : X.env.kindOf n = some .local) (hc : Names X x c) (tk : Takes X Wout)
    (hb : ∀ (W : WX) (pn : List (Addr × Obj)) (xe : Value → Shared → Prop), Takes (X.tr pn xe) W → PassesOwn (model X.prog X.w) X.A X.env xe → PSs (X.tr pn xe) body (tb W))
    (hsu : ∀ (a : Addr) (ob : Obj) (cls : Value) (d : Option Addr) (pn : List (Addr × Obj)), Zc cls d ob → (∃ fv, ob.data = .fields fv) → PSs (X.suite a ((a, ob) :: pn)) (b₀ :: suite) (ts a cls d)) :
    PS X (.Try body [.ExceptHandler (some (.Name x np)) (some n) (b₀ :: suite) pos'] [] [] pos) (fun D σ H => tb (wHeld X.K c i ts Wout D) D σ H) := by
  constructor
  intro pins s σ H D In want
  have okX := In.ok
  have frA : X.A.frames = some (X.env :: X.outer) := by rw [okX.frames, stk]
  refine wpAny_Try_except ?_
  refine wpAny_mono ((hb (wHeld X.K c i ts Wout D) (X.pn ++ pins) _ (fun u sx air => ?caught) PassesOwn.looking).run [] s σ H D (In.toTry _) want) (fun fl s1 out => ?through) (fun _ _ bad => bad)
  case through =>
    cases fl with
    | next =>
      obtain ⟨σ1, H1, In1, want1⟩ := out
      exact wpAny_execs_nil ⟨σ1, H1, In1.ofTry okX, want1⟩
    | ret v =>
      obtain ⟨y, σ1, H1, In1, rel, want1⟩ := out
      exact ⟨y, σ1, H1, In1.ofTry okX, rel, want1⟩
    | brk =>
      obtain ⟨σ1, H1, In1, want1⟩ := out
      exact ⟨σ1, H1, In1.ofTry okX, want1⟩
    | cont =>
      obtain ⟨σ1, H1, In1, want1⟩ := out
      exact ⟨σ1, H1, In1.ofTry okX, want1⟩
  case caught =>
    obtain ⟨a, B, sI, pins1, σ1, H1, cls, d, rfl, InT, grd, ups, sky, na, os, ag, b, hb1, yes, no⟩ := air
    have InI : Inv X pins σ1 H1 sI := InT.ofTry okX
    have skyX : Sky B (X.env :: X.outer) a (Zc cls d) X.env.locals sx.heap := stk ▸ sky
    show wpAny (model X.prog X.w) X.A (noteFrame (.ref a) X.env) _ _ _
    refine Sky.land Zc.steady frA frm skyX fun g fly up1 => ?_
    have InG : Inv X pins σ1 H1 { sx with heap := g } := InI.landed grd fly.1 (ups.trans up1) os ag
    obtain ⟨ob, fv, hob, zob, dob⟩ := fly.there
    have noFrame : a ∉ frs (X.env :: X.outer) := fun hm => by
      obtain ⟨_, o2, q2, hnf⟩ := fly.2.2.1.mem hm
      rw [hob] at q2
      cases q2
      exact hnf _ dob
    have nL : a ≠ X.env.locals := fun z => noFrame (List.mem_filterMap.mpr ⟨X.env, List.mem_cons_self, by rw [frm, z]⟩)
    have nF : a ∉ X.fs := fun hm => by
      obtain ⟨en, hen, q⟩ := List.mem_filterMap.mp hm
      exact noFrame (List.mem_filterMap.mpr ⟨en, List.mem_cons_of_mem _ hen, q⟩)
    -- it was not there at the def's entry, and nothing pinned is it
    have nI : sI.heap.get? a = none := by
      cases q : sI.heap.get? a with
      | none => rfl
      | some o =>
        have z := grd a o q (by rw [stk]; exact noFrame)
        rw [fly.2.1] at z
        cases z
    have n0 : X.s_0.heap.get? a = none := by
      cases q : X.s_0.heap.get? a with
      | none => rfl
      | some o =>
        by_cases hx : a ∈ X.ex
        · rw [hex] at hx
          cases hx
        · obtain ⟨o2, z⟩ := InI.base.there a o q hx
          rw [nI] at z
          cases z
    have npin : ∀ p ∈ X.pn ++ pins, p.1 ≠ a := fun p hp z => by
      have q := (InI.pin p hp).1
      rw [z, nI] at q
      cases q
    have InS := InG.suite hob dob na nL nF
    refine wpAny_handleBy_cons (codeAny_handlers_test ?_) (by intro q; cases q)
    have kind : PySem.W.Looks (model X.prog X.w) g (typeOf (.ref a)) cls := fun A Q E s k q => wpAny_typeOf_ref (k _ _ hob) (by rw [zob.1]; exact q)
    have meets := PySem.W.exm_one (M := model X.prog X.w) (InG.kIn) kind hb1
    have named : ∀ {Q : Value → Shared → Prop} {E : Value → Shared → Prop}, Q c { sx with heap := g } → wpAny (model X.prog X.w) (X.A.mark (some (.ref a))) (eval (.Name x np) X.env) Q E { sx with heap := g } := fun {Q E} q => by
      obtain ⟨hg, hdbg, hm | ⟨hm, hv, hnn⟩⟩ := hc
      · exact ld_glob (X := X.suite a ((a, ob) :: (X.pn ++ pins))) InS hg hm q hdbg
      · exact ld_blt (X := X.suite a ((a, ob) :: (X.pn ++ pins))) InS hg hm hv q hnn hdbg
    refine named (meets.here ?_)
    cases b with
    | true =>
      refine codeAny_handlers_suite_as ?_
      refine HandSPX.lands_againZ fly fun g2 fly2 up2 => ?_
      have In2 : Inv X pins σ1 H1 { sx with heap := g2 } := InI.landed grd fly2.1 ((ups.trans up1).trans up2) os ag
      obtain ⟨ob2, fv2, hob2, zob2, dob2⟩ := fly2.there
      refine store_ok (X := X.suite a ((a, ob2) :: (X.pn ++ pins))) (v := .ref a) (In2.suite hob2 dob2 na nL nF) hN hi (.inl hln) rfl (fun s5 In5 => ?_) (.inr hln)
      refine wpAny_mono ((hsu a ob2 cls d (X.pn ++ pins) zob2 ⟨_, dob2⟩).run [] s5 _ H1 _ In5 (yes rfl a na)) (fun fl s6 out => ?_) (fun _ _ z => False.elim z)
      cases fl with
      | next =>
        obtain ⟨σ6, H6, In6, want6⟩ := out
        refine gone_ok (X := X.suite a ((a, ob2) :: (X.pn ++ pins))) In6 hN hi hln fun s7 In7 => ?_
        obtain ⟨at7, n7, _⟩ := In7.pin (a, ob2) (by simp)
        exact ⟨_, _, track (In7.unsuite okX) n0 n7 at7 zob2 dob2 nL npin, want6 n7⟩
      | ret v =>
        obtain ⟨_, _, _, _, _, bad⟩ := out
        exact (show False from bad).elim
      | brk =>
        obtain ⟨_, _, _, bad⟩ := out
        exact (show False from bad).elim
      | cont =>
        obtain ⟨_, _, _, bad⟩ := out
        exact (show False from bad).elim
    | false =>
      show wpAny _ X.A (handleBy (.ref a) X.env []) _ _ _
      refine wpAny_handleBy_nil ?_
      obtain ⟨_, _, _, o3, fv3, T3, oT3, ts3, q3, z3, d3, t3, r3⟩ := id fly
      unfold PySem.passOn
      refine wpAny_bind (wpAny_field q3 d3 t3 ?_)
      rw [if_neg (show ¬ ((Value.ref T3 == Value.none) = true) from by simp)]
      have on : wpAny (model X.prog X.w) X.A (setFlight (.ref a) X.env.frame) (fun _ s4 => wpAny (model X.prog X.w) X.A (throw (.ref a) : Sem Flow) (SP X pins D) X.xe s4) X.xe { sx with heap := g } := by
        rw [frm]
        refine HandSPX.setFlight_upZ fly fun g4 note up4 => wpAny_throw (tk _ _ ?_)
        exact ⟨a, B, sI, pins, σ1, H1, cls, d, rfl, InI, grd, (ups.trans up1).trans up4, .inr (.inr (by rw [stk]; exact note)), na, os, ag, no rfl⟩
      first
        | exact wpAny_bind on
        | exact wpAny_bind (wpAny_pure (wpAny_bind on))
end
end LC
/-! LcHeld2: what a held exception is asked: its class, its fields. -/
namespace LC
open PySem PySem.Spec PyProof.Rows L2
/-- what the head must say of an exception class of the program -/
structure HeldC (K : PySem.W.Frag) (C : Addr) : Prop where
  x : XfC K C
  cl : (PySem.W.clsIn K C).isSome = true
  kc : PySem.W.findIn K (.ref C) "__class__" = some (some (.builtin "object.__class__"))
  kg : PySem.W.specialIn K (.builtin "object.__class__") "__get__" = some (some (.builtin "getset_descriptor.__get__"))
  kt : PySem.W.takesIn K (.builtin "object.__class__") = some true
  mo : PySem.W.mroIn K C (.type "object") = some true
def heldB (K : PySem.W.Frag) (C : Addr) : Bool := xfB K C && (PySem.W.clsIn K C).isSome && decide (PySem.W.findIn K (.ref C) "__class__" = some (some (.builtin "object.__class__"))) &&
  decide (PySem.W.specialIn K (.builtin "object.__class__") "__get__" = some (some (.builtin "getset_descriptor.__get__"))) && decide (PySem.W.takesIn K (.builtin "object.__class__") = some true) && decide (PySem.W.mroIn K C (.type "object") = some true)
theorem heldC_of {K : PySem.W.Frag} {C : Addr} (h : heldB K C = true) : HeldC K C := by
  unfold heldB at h
  simp only [Bool.and_eq_true, decide_eq_true_eq] at h
  obtain ⟨⟨⟨⟨⟨h1, h2⟩, h3⟩, h4⟩, h5⟩, h6⟩ := h
  exact ⟨xfB_ok h1, h2, h3, h4, h5, h6⟩
/-- v is such an exception, with these fields -/
def HeldV (K : PySem.W.Frag) (H : Hp) (v : V) (C : Addr) (fs : List (Str × V)) : Prop := ∃ a dd : Addr, v = .ref a ∧ H a = some (Held (.ref C) (some dd) a) ∧ H dd = some (.xd fs) ∧ HeldC K C
theorem HeldV.same {K : PySem.W.Frag} {H H' : Hp} {v : V} {C : Addr} {fs : List (Str × V)} (h : HeldV K H v C fs) (s : Same H H') : HeldV K H' v C fs := by
  obtain ⟨a, dd, e, h1, h2, h3⟩ := h
  exact ⟨a, dd, e, s _ _ h1, s _ _ h2, h3⟩
section
variable {X : Cx} {pins : List (Addr × Obj)} {σ : L2.St} {H : Hp} {s : Shared}
theorem held_inst {a dd C : Addr} {fs : List (Str × V)} (I : Inv X pins σ H s) (h1 : H a = some (Held (.ref C) (some dd) a)) (h2 : H dd = some (.xd fs)) :
    ∃ (ob od : Obj) (mA : Str → Option Value), PySem.W.InstAt s.heap a ob C (some od) ∧ (∀ y, PySem.W.lookIn y od = some (mA y)) ∧ ∀ f, RelO (fs.lookup f) (mA f) := by
  obtain ⟨ob, fv, g, z, d⟩ := held_at I.hok h1
  obtain ⟨mA, hns, hr⟩ := (show ObjOk X.prog X.w H s.heap dd (.xd fs) from I.hok dd _ h2)
  obtain ⟨od, ho, hl⟩ := lookIn_ns hns
  refine ⟨ob, od, mA, ⟨g, z.1, ?_, by rw [z.2]; exact ho⟩, hl, hr⟩
  unfold PySem.W.notCls
  rw [d]
def rIsiH (K : PySem.W.Frag) : List V → Hp → VK → Prop := fun xs H Q => ∃ (x c : V) (C : Addr) (fs : List (Str × V)) (u : Value) (b : Bool), xs = [x, c] ∧ ClsV c u ∧ HeldV K H x C fs ∧ PySem.W.kitOne K (.ref C) u = some b ∧ Q (.bl b) H
theorem call_isiH : CallR X (.builtin "isinstance") (rIsiH X.K) := by
  intro pins s σ H xs us Q I r h
  obtain ⟨x, c, C, fs, u, b, rfl, k, ⟨a, dd, rfl, h1, h2, hc⟩, e, q⟩ := h
  obtain ⟨u1, u2, rfl, r1, r2⟩ := vals2 r
  have e2 := k.eq r2
  subst e2
  obtain rfl : u1 = Value.ref a := r1
  obtain ⟨ob, od, mA, J, _, _⟩ := held_inst I h1 h2
  exact PySem.W.kia_one (PySem.W.kitx_exc (ox := ob) (od := some od) hc.cl hc.x.ga hc.x.gg hc.x.exC hc.kc hc.kg hc.kt hc.mo) I.kIn J e (fun z => nomatch z) fun tk => ⟨.bl b, H, I.tok tk, rfl, q⟩
def rIsiTH (K : PySem.W.Frag) : List V → Hp → VK → Prop := fun xs H Q => ∃ (x : V) (tp : Addr) (cs : List V) (C : Addr) (fs : List (Str × V)) (us : List Value) (b : Bool), xs = [x, .ref tp] ∧ H tp = some (.tup cs) ∧ Paired ClsV cs us ∧ HeldV K H x C fs ∧ PySem.W.kitAny K (.ref C) us = some b ∧ Q (.bl b) H
theorem call_isiTH : CallR X (.builtin "isinstance") (rIsiTH X.K) := by
  intro pins s σ H xs us Q I r h
  obtain ⟨x, tp, cs, C, fs, ws, b, rfl, ht, k, ⟨a, dd, rfl, h1, h2, hc⟩, e, q⟩ := h
  obtain ⟨u1, u2, rfl, r1, r2⟩ := vals2 r
  obtain rfl : u2 = Value.ref tp := r2
  obtain rfl : u1 = Value.ref a := r1
  obtain ⟨ob, od, mA, J, _, _⟩ := held_inst I h1 h2
  obtain ⟨_, its, rv, ⟨oc, odd, dt, sl⟩, g, kc, n, kd⟩ := (show ObjOk X.prog X.w H s.heap tp (.tup cs) from I.hok tp _ ht)
  have e3 := ClsV.all k rv
  subst e3
  have kc : oc = .type "tuple" := kc
  have kd : dt = .seq its.toArray n := kd
  subst kc kd
  exact PySem.W.kia_tup (PySem.W.kitx_exc (ox := ob) (od := some od) hc.cl hc.x.ga hc.x.gg hc.x.exC hc.kc hc.kg hc.kt hc.mo) I.kIn J g e (fun z => nomatch z) fun tk => ⟨.bl b, H, I.tok tk, rfl, q⟩
/-- e.f of a held exception -/
def tHeldF (K : PySem.W.Frag) (f : Str) (te : TE) : TE := fun σ H Q => te σ H fun x H1 => ∃ (C : Addr) (fs : List (Str × V)) (v : V), HeldV K H1 x C fs ∧ PySem.W.findIn K (.ref C) f = some none ∧ fs.lookup f = some v ∧ Q v H1
theorem pe_heldF {e : Expr} {te : TE} {pos : Pos} {f : Str} (he : PE X e te) (hb : attributeBase e f X.env (eval e X.env) = eval e X.env := by rfl) : PE X (.Attribute e f pos) (tHeldF X.K f te) := by
  constructor
  intro pins s σ H Q I h
  refine attr_of hb (thn (he.run pins s σ H _ I h) fun u s1 told => ?_)
  obtain ⟨x, H1, I1, rx, C, fs, v, ⟨a, dd, rfl, h1, h2, hc⟩, hno, lk, q⟩ := told
  obtain rfl : u = Value.ref a := rx
  obtain ⟨ob, od, mA, J, hl, hr⟩ := held_inst I1 h1 h2
  obtain ⟨w, hw, rw'⟩ := RelO.some_of (v := v) (o := mA f) (by rw [← lk]; exact hr f)
  exact HandSPX.exc_get I1.kIn J hc.x.ga hc.x.gg hc.x.exC (PySem.W.findObj_own hc.x.hdC hno rfl (by rw [hl, hw])) (handed_of rw') ⟨v, H1, I1.tok _, rw', q⟩
end
end LC
/-! LcErr: raise X(e), X an own class over ValueError whose __init__ keeps one field. -/
namespace LC
open PySem PySem.Spec PyProof.Rows L2
/-- __init__(self, f): self.f = f -/
def spErr (C : Addr) (f : Str) : Sp := fun vs H Q _ => ∃ (a : Addr) (v : V), vs = [.ref a, v] ∧ H a = some (exo a C none) ∧ ∀ dx, H dx = none → dx ≠ a → Q .non (upd (upd H dx (exd dx [(f, v)])) a (exo a C (some dx)))
/-- such a class, as the head leaves it -/
structure ErrC (P : Program) (w : World) (K : PySem.W.Frag) (mg : Str → Option Value) (base : Heap) (x f : Str) (C fI : Addr) (fd : FuncData) : Prop where
  g : mg x = some (.ref C)
  o : OexC K C
  i : PySem.W.findIn K (.ref C) "__init__" = some (some (.ref fI))
  t : PySem.W.typeIn K (.ref fI) = some (.type "function")
  F : FnOk P w K mg base CX0 1 fI fd ["self", f] (spErr C f)
  b : Binds K fd ["self", f] []
/-- what is wanted where X(v) is raised: its dict d is new and holds the field -/
theorem err_of {C : Addr} {f : Str} {v : V} {H1 : Hp} {Q : XK} (q : ∀ (d : Addr) (H2 : Hp), H1 d = none → Same H1 H2 → H2 d = some (.xd [(f, v)]) → Q (.ref C) (some d) H2) :
    ([v] : List V).length ≤ 1000 ∧ ∀ a, H1 a = none → spErr C f (.ref a :: ([v] ++ [])) (upd H1 a (exo a C none)) (fun u H2 => u = .non ∧ ∃ (d : Addr) (fs : List (Str × V)), H2 a = some (exo a C (some d)) ∧ H2 d = some (exd d fs) ∧ H1 d = none ∧ Q (.ref C) (some d) (upd (del H2 a) d (.xd fs))) (fun _ _ _ => False) := by
  refine ⟨by show 1 ≤ 1000; decide, fun a na => ⟨a, v, rfl, upd_same, fun dx ndx ne => ⟨rfl, dx, [(f, v)], upd_same, ?_, ?_, ?_⟩⟩⟩
  · rw [upd_ne ne]
    exact upd_same
  · rw [upd_ne ne] at ndx
    exact ndx
  · rw [upd_ne ne] at ndx
    refine q dx _ ndx (fun b o e => ?_) upd_same
    have b1 : b ≠ dx := ne_of_none e ndx
    have b2 : b ≠ a := ne_of_none e na
    rw [upd_ne b1, del_ne b2, upd_ne b2, upd_ne b1, upd_ne b2]
    exact e
theorem ps_err {X : Cx} {x f : Str} {C fI : Addr} {fd : FuncData} {k : Nat} {e : Expr} {ta : TA} {W : WX} {p pos pos2 : Pos} (T : ErrC X.prog X.w X.K X.mg X.base x f C fI fd) (hc : X.calm = true) (hr : Room k X.A) (hk : 2 ≤ k) (tk : Takes X W) (ha : PA X [e] ta) (hg : Gl X x := by rfl) (hdb : (x == ("__debug__" : Str)) = false := by decide)
    (he : starEach (e :: []) X.env = (false, eval e X.env) :: starEach [] X.env := by rfl) (hpl : (backTo pos (starEach [] X.env)).any (·.1) = false := by rfl) :
    PS X (.Raise (some (.Call (.Name x p) [e] [] pos)) none pos2) (fun _ σ H => tMkO C (spErr C f) [] ta σ H fun cls d H' => W cls d σ H') :=
  ps_raise hc tk (pmk_oex T.o T.i T.t T.F (hr.mono hk) T.b .nil pass0 hg T.g ha hdb he hpl)
/-- __init__(self, f, g): self.f = f; self.g = g -/
def spErr2 (C : Addr) (f g : Str) : Sp := fun vs H Q _ => ∃ (a : Addr) (v u : V), vs = [.ref a, v, u] ∧ H a = some (exo a C none) ∧ ∀ dx H', H dx = none → dx ≠ a → Same (del H a) (del H' a) → H' a = some (exo a C (some dx)) → H' dx = some (exd dx [(g, u), (f, v)]) → Q .non H'
structure ErrC2 (P : Program) (w : World) (K : PySem.W.Frag) (mg : Str → Option Value) (base : Heap) (x f f2 : Str) (C fI : Addr) (fd : FuncData) : Prop where
  g : mg x = some (.ref C)
  o : OexC K C
  i : PySem.W.findIn K (.ref C) "__init__" = some (some (.ref fI))
  t : PySem.W.typeIn K (.ref fI) = some (.type "function")
  F : FnOk P w K mg base CX0 1 fI fd ["self", f, f2] (spErr2 C f f2)
  b : Binds K fd ["self", f, f2] []
theorem err_of2 {C : Addr} {f g : Str} {v u : V} {H1 : Hp} {Q : XK} (q : ∀ (d : Addr) (H2 : Hp), H1 d = none → Same H1 H2 → H2 d = some (.xd [(g, u), (f, v)]) → Q (.ref C) (some d) H2) :
    ([v, u] : List V).length ≤ 1000 ∧ ∀ a, H1 a = none → spErr2 C f g (.ref a :: ([v, u] ++ [])) (upd H1 a (exo a C none)) (fun z H2 => z = .non ∧ ∃ (d : Addr) (fs : List (Str × V)), H2 a = some (exo a C (some d)) ∧ H2 d = some (exd d fs) ∧ H1 d = none ∧ Q (.ref C) (some d) (upd (del H2 a) d (.xd fs))) (fun _ _ _ => False) := by
  refine ⟨by show 2 ≤ 1000; decide, fun a na => ⟨a, v, u, rfl, upd_same, fun dx H' ndx ne sm ha hd => ⟨rfl, dx, _, ha, hd, ?_, ?_⟩⟩⟩
  · rw [upd_ne ne] at ndx
    exact ndx
  · rw [upd_ne ne] at ndx
    refine q dx _ ndx (fun b o e => ?_) upd_same
    have b1 : b ≠ dx := ne_of_none e ndx
    have b2 : b ≠ a := ne_of_none e na
    rw [upd_ne b1]
    exact sm b o (by rw [del_ne b2, upd_ne b2]; exact e)
theorem ps_err2 {X : Cx} {x f g : Str} {C fI : Addr} {fd : FuncData} {k : Nat} {e e2 : Expr} {ta : TA} {W : WX} {p pos pos2 : Pos} (T : ErrC2 X.prog X.w X.K X.mg X.base x f g C fI fd) (hc : X.calm = true) (hr : Room k X.A) (hk : 2 ≤ k) (tk : Takes X W) (ha : PA X [e, e2] ta) (hg : Gl X x := by rfl) (hdb : (x == ("__debug__" : Str)) = false := by decide)
    (he : starEach (e :: [e2]) X.env = (false, eval e X.env) :: starEach [e2] X.env := by rfl) (hpl : (backTo pos (starEach [e2] X.env)).any (·.1) = false := by rfl) :
    PS X (.Raise (some (.Call (.Name x p) [e, e2] [] pos)) none pos2) (fun _ σ H => tMkO C (spErr2 C f g) [] ta σ H fun cls d H' => W cls d σ H') :=
  ps_raise hc tk (pmk_oex T.o T.i T.t T.F (hr.mono hk) T.b .nil pass0 hg T.g ha hdb he hpl)
/-- a def that raises nothing, where its caller's callees may -/
theorem lift0 {P : Program} {w : World} {K : PySem.W.Frag} {mg : Str → Option Value} {base : Heap} {CX : CXT} {k : Nat} {f : Addr} {fd : FuncData} {ps : List Str} {sp : Sp} (F : FnOk P w K mg base CX0 k f fd ps sp) : FnOk P w K mg base CX k f fd ps sp := by
  refine ⟨F.len, fun A out s H ar us vs Q E hr e0 hb r h => codeAny_mono (F.run A out s H ar us vs Q E hr e0 hb r h) fun r s' q => ?_⟩
  cases r with
  | error e => exact (show False from q).elim
  | ok fl =>
    cases fl with
    | ret u => exact q
    | next => exact q
    | brk => exact q
    | cont => exact q
theorem Cal.lift {P : Program} {w : World} {K : PySem.W.Frag} {mg : Str → Option Value} {base : Heap} {CX : CXT} {k : Nat} {x : Str} {ps : List Str} {sp : Sp} (c : Cal P w K mg base CX0 k x ps sp) : Cal P w K mg base CX k x ps sp := by
  obtain ⟨f, fd, m, F, kp, b⟩ := c
  exact ⟨f, fd, m, lift0 F, kp, b⟩
end LC
namespace LC
open PySem PySem.Spec PyProof.Rows L2
def fromB (lo : Int) : V → Bool
  | .int i => decide (lo ≤ i)
  | _ => false
def spIsFrom (K : PySem.W.Frag) : Sp := fun vs H Q _ => ∃ (v : V) (n : String) (lo : Int), vs = [v, .int lo] ∧ n ∈ kinds ∧ TyX K H v (.type n) ∧ Q (.bl (fromB lo v)) H
section
variable {P : Program} {w : World} {K : PySem.W.Frag} {mg : Str → Option Value} {base : Heap}
abbrev s_pick : Stmt := topS 26
theorem sc_pick : FnScope ["pen", "some"] ["pen", "some"] (defScope s_pick) := ⟨rfl, rfl, rfl, by decide +kernel, rfl, by decide +kernel, by decide +kernel⟩
theorem ok_pick {f : Addr} {fd : FuncData} (T : Txt mg) (F : FnP K "_law_pick" s_pick f fd) (c__law_draw : Cal P w K mg base CX0 1 "_law_draw" ["pen", "many"] spDraw) : FnOk P w K mg base CX0 2 f fd ["pen", "some"] spPick := by
  have sc := sc_pick
  refine F.ok sc (fun vs H Q E h => ?_) (fun cdv A outer s H vs Q E hr h => ?_)
  · obtain ⟨p, c, n, l, xs, rfl, _⟩ := h
    rfl
  · obtain ⟨p, c, n, l, xs, rfl, hP, hn, hl, hlp, h0, h1, q⟩ := h
    refine ⟨_, PSs.nox (pss_one (ps_ret (pe_ix ix_list (pv 1) (pe_cal c__law_draw hr (by rfl) pass0 (pa_cons (pv 0) (pa_cons (pe_callB call_len (by rfl) T.n_len (by decide +kernel) (pa_cons (pv 1) pa_nil)) pa_nil))) (fun _ _ => rfl)))), ?_⟩
    refine ⟨.ref l, rfl, .ref p, rfl, .ref l, rfl, .ref l, _, rfl, .inl ⟨_, .of hl, rfl⟩, p, c, n, _, rfl, hP, hn, by omega, small_pow (by omega) (by omega), fun d H' d0 d1 k pen => ?_⟩
    obtain ⟨v, e, m⟩ := atI_in d0 d1
    exact ⟨l, xs, d, v, rfl, rfl, k.sql hl hlp, e, q v H' m k pen⟩
abbrev s_is_integer : Stmt := topS 12
theorem sc_is_integer : FnScope ["value"] ["value"] (defScope s_is_integer) := ⟨rfl, rfl, rfl, by decide +kernel, rfl, by decide +kernel, by decide +kernel⟩
theorem ok_is_integer {f : Addr} {fd : FuncData} (T : Txt mg) (F : FnP K "is_integer" s_is_integer f fd) : FnOk P w K mg base CX0 1 f fd ["value"] (spIsInteger K) := by
  have sc := sc_is_integer
  refine F.ok sc (fun vs H Q E h => ?_) (fun cdv A outer s H vs Q E hr h => ?_)
  · obtain ⟨v, n, rfl, _⟩ := h
    rfl
  · obtain ⟨v, n, rfl, hn, ty, q⟩ := h
    refine ⟨_, PSs.nox (pss_one (ps_ret (pe_and (pe_callB call_isi (by rfl) T.n_isinstance (by decide +kernel) (pa_cons (pv 0) (pa_cons (pe_bty "int" T.n_int (by decide +kernel)) pa_nil))) (pe_one (pe_not (pe_callB call_isi (by rfl) T.n_isinstance (by decide +kernel) (pa_cons (pv 0) (pa_cons (pe_bty "bool" T.n_bool (by decide +kernel)) pa_nil)))))))), ?_⟩
    rw [intB_ty ty] at q
    refine ⟨v, rfl, v, .ty "int", .type n, .type "int", _, rfl, .ty _, ty, kit_k "int" (fun n => n == "int" || n == "bool") (by decide +kernel) hn, _, rfl, iteB (fun e1 => ?_) (fun e1 => ?_)⟩
    · refine ⟨v, rfl, v, .ty "bool", .type n, .type "bool", _, rfl, .ty _, ty, kit_k "bool" (fun n => n == "bool") (by decide +kernel) hn, _, rfl, ?_⟩
      have z : ∀ n ∈ kinds, (n == "int" || n == "bool") = true → (!(n == "bool")) = (n == "int") := by decide +kernel
      rw [z n hn e1]
      exact q
    · have z : ∀ n ∈ kinds, (n == "int" || n == "bool") = false → (n == "int") = false := by decide +kernel
      rw [z n hn e1] at q
      exact q
abbrev s_is_within : Stmt := topS 14
theorem sc_is_within : FnScope ["value", "least", "most"] ["value", "least", "most"] (defScope s_is_within) := ⟨rfl, rfl, rfl, by decide +kernel, rfl, by decide +kernel, by decide +kernel⟩
theorem ok_is_within {f : Addr} {fd : FuncData} (T : Txt mg) (F : FnP K "is_within" s_is_within f fd) (c_is_integer : Cal P w K mg base CX0 1 "is_integer" ["value"] (spIsInteger K)) : FnOk P w K mg base CX0 2 f fd ["value", "least", "most"] (spIsWithin K) := by
  have sc := sc_is_within
  refine F.ok sc (fun vs H Q E h => ?_) (fun cdv A outer s H vs Q E hr h => ?_)
  · obtain ⟨v, n, lo, hi, rfl, _⟩ := h
    rfl
  · obtain ⟨v, n, lo, hi, rfl, hn, ty, q⟩ := h
    refine ⟨_, PSs.nox (pss_one (ps_ret (pe_and (pe_cal c_is_integer hr (by rfl) pass0 (pa_cons (pv 0) pa_nil)) (pe_one (pe_chain op_le op_le (pv 1) (pv 0) (pv 2)))))), ?_⟩
    refine ⟨v, rfl, v, n, rfl, hn, ty, _, rfl, iteB (fun e1 => ?_) (fun e1 => ?_)⟩
    · obtain ⟨i, rfl⟩ : ∃ i, v = .int i := by
        cases v <;> first | exact ⟨_, rfl⟩ | cases e1
      refine ⟨_, rfl, _, rfl, lo, i, rfl, rfl, _, rfl, iteD (fun e2 => ?_) (fun e2 => ?_)⟩
      · refine ⟨_, rfl, i, hi, rfl, rfl, ?_⟩
        have q' : Q (.bl (decide (lo ≤ i) && decide (i ≤ hi))) H := q
        rw [decide_eq_true e2, Bool.true_and] at q'
        exact q'
      · have q' : Q (.bl (decide (lo ≤ i) && decide (i ≤ hi))) H := q
        rw [decide_eq_false e2, Bool.false_and] at q'
        exact q'
    · have z : withinB lo hi v = false := by
        cases v <;> first | rfl | cases e1
      rw [z] at q
      exact q
abbrev s_is_from : Stmt := topS 13
theorem sc_is_from : FnScope ["value", "least"] ["value", "least"] (defScope s_is_from) := ⟨rfl, rfl, rfl, by decide +kernel, rfl, by decide +kernel, by decide +kernel⟩
theorem ok_is_from {f : Addr} {fd : FuncData} (T : Txt mg) (F : FnP K "is_from" s_is_from f fd) (c_is_integer : Cal P w K mg base CX0 1 "is_integer" ["value"] (spIsInteger K)) : FnOk P w K mg base CX0 2 f fd ["value", "least"] (spIsFrom K) := by
  have sc := sc_is_from
  refine F.ok sc (fun vs H Q E h => ?_) (fun cdv A outer s H vs Q E hr h => ?_)
  · obtain ⟨v, n, lo, rfl, _⟩ := h
    rfl
  · obtain ⟨v, n, lo, rfl, hn, ty, q⟩ := h
    refine ⟨_, PSs.nox (pss_one (ps_ret (pe_and (pe_cal c_is_integer hr (by rfl) pass0 (pa_cons (pv 0) pa_nil)) (pe_one (pe_cmpR op_ge (pv 0) (pv 1) (nomark _)))))), ?_⟩
    refine ⟨v, rfl, v, n, rfl, hn, ty, _, rfl, iteB (fun e1 => ?_) (fun e1 => ?_)⟩
    · obtain ⟨i, rfl⟩ : ∃ i, v = .int i := by
        cases v <;> first | exact ⟨_, rfl⟩ | cases e1
      exact ⟨_, rfl, _, rfl, i, lo, rfl, rfl, q⟩
    · have z : fromB lo v = false := by
        cases v <;> first | rfl | cases e1
      rw [z] at q
      exact q
abbrev s_BadNumber_init : Stmt := inClass (topS 2) 0
theorem sc_BadNumber_init : FnScope ["self", "value"] ["self", "value"] (defScope s_BadNumber_init) := ⟨rfl, rfl, rfl, by decide +kernel, rfl, by decide +kernel, by decide +kernel⟩
theorem ok_BadNumber {f C : Addr} {fd : FuncData} (o : OexC K C) (no : PySem.W.findIn K (.ref C) "value" = some none) (F : FunD K "__init__" "BadNumber.__init__" (defArgs s_BadNumber_init) (defBody s_BadNumber_init) (defScope s_BadNumber_init) [] [] f fd) : FnOk P w K mg base CX0 1 f fd ["self", "value"] (spErr C "value") := by
  have sc := sc_BadNumber_init
  refine F.ok sc (fun vs H Q E h => ?_) (fun cdv A outer s H vs Q E hr h => ?_)
  · obtain ⟨a, v, rfl, _⟩ := h
    rfl
  · obtain ⟨a, v, rfl, ha, q⟩ := h
    refine ⟨_, PSs.nox (pss_one (ps_ost (pv 0) (pv 1))), ?_⟩
    exact ⟨v, rfl, .ref a, rfl, a, C, rfl, o, no, .inl ⟨ha, fun dx n ne => q dx n ne⟩⟩
abbrev s_TooMany_init : Stmt := inClass (topS 5) 0
theorem sc_TooMany_init : FnScope ["self", "most"] ["self", "most"] (defScope s_TooMany_init) := ⟨rfl, rfl, rfl, by decide +kernel, rfl, by decide +kernel, by decide +kernel⟩
theorem ok_TooMany {f C : Addr} {fd : FuncData} (o : OexC K C) (no : PySem.W.findIn K (.ref C) "most" = some none) (F : FunD K "__init__" "TooMany.__init__" (defArgs s_TooMany_init) (defBody s_TooMany_init) (defScope s_TooMany_init) [] [] f fd) : FnOk P w K mg base CX0 1 f fd ["self", "most"] (spErr C "most") := by
  have sc := sc_TooMany_init
  refine F.ok sc (fun vs H Q E h => ?_) (fun cdv A outer s H vs Q E hr h => ?_)
  · obtain ⟨a, v, rfl, _⟩ := h
    rfl
  · obtain ⟨a, v, rfl, ha, q⟩ := h
    refine ⟨_, PSs.nox (pss_one (ps_ost (pv 0) (pv 1))), ?_⟩
    exact ⟨v, rfl, .ref a, rfl, a, C, rfl, o, no, .inl ⟨ha, fun dx n ne => q dx n ne⟩⟩
end
end LC
/-! LcSeq: values that are a list or a tuple; values of any plain kind. -/
namespace LC
open PySem PySem.Spec PyProof.Rows L2
def iOr (a b : TI) : TI := fun σ H R => a σ H R ∨ b σ H R
theorem pi_or {X : Cx} {tg l : Expr} {a b : TI} (x : PI X tg l a) (y : PI X tg l b) : PI X tg l (iOr a b) := ⟨fun pins s σ H R I h => h.elim (x.run pins s σ H R I) (y.run pins s σ H R I)⟩
def gOr (a b : TG) : TG := fun v σ H Q => a v σ H Q ∨ b v σ H Q
theorem pg_or {X : Cx} {tg : Expr} {a b : TG} (x : PG X tg a) (y : PG X tg b) : PG X tg (gOr a b) := ⟨fun pins s σ H v u Q I r h => h.elim (x.run pins s σ H v u Q I r) (y.run pins s σ H v u Q I r)⟩
/-- v is a list or a tuple of these -/
def SeqOf (K : PySem.W.Frag) (H : Hp) (v : V) (xs : List V) : Prop := ∃ a : Addr, v = .ref a ∧ (SqL K H a xs ∨ SqT K H a xs)
theorem sql_same {K : PySem.W.Frag} {a : Addr} {H H' : Hp} {xs : List V} (e : Same H H') (h : SqL K H a xs) : SqL K H' a xs := by
  rcases h with (z | ⟨o, z⟩) | z
  · exact .inl (.inl (e _ _ z))
  · exact .inl (.inr ⟨o, e _ _ z⟩)
  · exact .inr z
theorem SeqOf.same {K : PySem.W.Frag} {H H' : Hp} {v : V} {xs : List V} (h : SeqOf K H v xs) (e : Same H H') : SeqOf K H' v xs := by
  obtain ⟨a, ev, q⟩ := h
  exact ⟨a, ev, q.imp (sql_same e) (sqt_same e)⟩
theorem sql_ty {K : PySem.W.Frag} {H : Hp} {a : Addr} {xs : List V} (h : SqL K H a xs) : TyX K H (.ref a) (.type "list") := by
  rcases h with (z | ⟨o, z⟩) | ⟨o, its, n, z, c, _⟩
  · exact .base (.lst z)
  · exact .base (.frz z)
  · exact .kList z c
/-- of one of the plain kinds, texts not too long -/
structure ValOk (K : PySem.W.Frag) (H : Hp) (v : V) (n : String) : Prop where
  k : n ∈ kinds
  t : TyX K H v (.type n)
  s : ∀ z, v = .str z → z.length ≤ 100000
theorem tyx_same {K : PySem.W.Frag} {H H' : Hp} {v : V} {t : Value} (h : TyX K H v t) (e : Same H H') : TyX K H' v t := by
  cases h with
  | base b =>
    cases b with
    | non => exact .base .non
    | bl x => exact .base (.bl x)
    | int i => exact .base (.int i)
    | str x => exact .base (.str x)
    | flt x => exact .base (.flt x)
    | lst q => exact .base (.lst (e _ _ q))
    | frz q => exact .base (.frz (e _ _ q))
    | tup q => exact .base (.tup (e _ _ q))
    | dK q => exact .base (.dK (e _ _ q))
    | dT q => exact .base (.dT (e _ _ q))
    | ins q cl ha hn htk hm => exact .base (.ins (e _ _ q) cl ha hn htk hm)
  | byt b => exact .byt b
  | set q => exact .set (e _ _ q)
  | kList q c => exact .kList q c
  | kTuple q c => exact .kTuple q c
  | kDict q c => exact .kDict q c
  | fTuple q => exact .fTuple (e _ _ q)
  | fDict q => exact .fDict (e _ _ q)
theorem ValOk.same {K : PySem.W.Frag} {H H' : Hp} {v : V} {n : String} (h : ValOk K H v n) (e : Same H H') : ValOk K H' v n := ⟨h.k, tyx_same h.t e, h.s⟩
theorem SeqOf.ok {K : PySem.W.Frag} {H : Hp} {v : V} {xs : List V} (h : SeqOf K H v xs) : ∃ n, ValOk K H v n ∧ (n == "tuple" || n == "list") = true := by
  obtain ⟨a, rfl, q | q⟩ := h
  · exact ⟨"list", ⟨by decide, sql_ty q, fun z e => nomatch e⟩, by decide⟩
  · exact ⟨"tuple", ⟨by decide, sqt_ty q, fun z e => nomatch e⟩, by decide⟩
theorem kit_seq {K : PySem.W.Frag} {n : String} (hn : n ∈ kinds) : PySem.W.kitAny K (.type n) [.type "tuple", .type "list"] = some (n == "tuple" || n == "list") := by
  have a := kit_k (K := K) "tuple" (fun n => n == "tuple") (by decide +kernel) hn
  have b := kit_k (K := K) "list" (fun n => n == "list") (by decide +kernel) hn
  unfold PySem.W.kitAny
  rw [a]
  cases q : (n == "tuple") with
  | true => rfl
  | false =>
    show PySem.W.kitAny K (.type n) [.type "list"] = some (n == "list")
    unfold PySem.W.kitAny
    rw [b]
    cases q2 : (n == "list") with
    | true => rfl
    | false => rfl
theorem SeqOf.len {K : PySem.W.Frag} {H : Hp} {v : V} {xs : List V} (h : SeqOf K H v xs) : LenV K v H xs.length := by
  obtain ⟨a, rfl, q | q⟩ := h
  · exact .inl ⟨_, q, rfl⟩
  · exact .inr ⟨_, q, rfl⟩
/-- what a value is, as a term: its answer -/
inductive ArgT (K : PySem.W.Frag) (H : Hp) (v : V) : Bool → Prop
  | other {n : String} : ValOk K H v n → (n == "tuple" || n == "list") = false → ArgT K H v false
  | size {xs : List V} : SeqOf K H v xs → xs.length ≠ 2 → ArgT K H v false
  | factor {x y : V} {n : String} : SeqOf K H v [x, y] → ValOk K H x n → withinB (-999999) 999999 x = false → ArgT K H v false
  | parts {x y : V} {n m : String} : SeqOf K H v [x, y] → ValOk K H x n → withinB (-999999) 999999 x = true → ValOk K H y m → (m == "tuple" || m == "list") = false → ArgT K H v false
  | long {x y : V} {n : String} {zs : List V} : SeqOf K H v [x, y] → ValOk K H x n → withinB (-999999) 999999 x = true → SeqOf K H y zs → 3 < zs.length → ArgT K H v false
  | names {x y : V} {n : String} {zs : List V} : SeqOf K H v [x, y] → ValOk K H x n → withinB (-999999) 999999 x = true → SeqOf K H y zs → zs.length ≤ 3 → (∀ z ∈ zs, ∃ m, ValOk K H z m) → ArgT K H v (zs.all isNameB)
def spIsTermG (K : PySem.W.Frag) : Sp := fun vs H Q _ => ∃ (v : V) (b : Bool), vs = [v] ∧ ArgT K H v b ∧ ∀ H', Same H H' → Q (.bl b) H'
end LC
/-! LcRowM: rows that come round: the mathematics. -/
namespace LC
/-- from N on, p more cost q more -/
def EvP (a : Nat → Int) (N p : Nat) (q : Int) : Prop := ∀ n, N ≤ n → a (n + p) = a n + q
def rise (a : Nat → Int) (n : Nat) : Int := a (n + 1) - a n
/-- the rises come round -/
def EvR (r : Nat → Int) (N p : Nat) : Prop := ∀ n, N ≤ n → r (n + p) = r n
theorem EvP.rise {a : Nat → Int} {N p : Nat} {q : Int} (h : EvP a N p q) : EvR (rise a) N p := fun n hn => by
  have h1 := h n hn
  have h2 := h (n + 1) (by omega)
  unfold LC.rise
  rw [show n + p + 1 = n + 1 + p by omega, h2, h1]
  omega
theorem EvR.seq {a : Nat → Int} {N p : Nat} (h : EvR (rise a) N p) : EvP a N p (a (N + p) - a N) := by
  intro n hn
  obtain ⟨k, rfl⟩ := Nat.exists_eq_add_of_le hn
  induction k with
  | zero => show a (N + p) = a N + (a (N + p) - a N); omega
  | succ k ih =>
    have e := h (N + k) (by omega)
    have e2 := ih (by omega)
    unfold LC.rise at e
    rw [show N + k + p + 1 = N + (k + 1) + p by omega, show N + k + 1 = N + (k + 1) by omega] at e
    omega
theorem EvR.mul {r : Nat → Int} {N p : Nat} (h : EvR r N p) : ∀ k n, N ≤ n → r (n + k * p) = r n
  | 0, n, _ => by rw [Nat.zero_mul, Nat.add_zero]
  | k + 1, n, hn => by
    have e := EvR.mul h k n hn
    rw [Nat.succ_mul, ← Nat.add_assoc, h _ (by omega), e]
theorem EvR.up {r : Nat → Int} {N M p : Nat} (h : EvR r N p) (l : N ≤ M) : EvR r M p := fun n hn => h n (by omega)
/-- two ways to come round: the later one holds where the earlier one does -/
theorem EvR.down {r : Nat → Int} {N M p d : Nat} (h : EvR r N p) (hp : 1 ≤ p) (g : EvR r M d) : EvR r N d := fun n hn => by
  have e1 := h.mul M (n + d) (by omega)
  have e2 := h.mul M n hn
  have l : M ≤ M * p := Nat.le_mul_of_pos_right M hp
  have e3 := g (n + M * p) (by omega)
  rw [← e1, ← e2, ← e3]
  congr 1
  omega
theorem EvR.sub {r : Nat → Int} {N p d : Nat} (h : EvR r N p) (g : EvR r N d) (l : d ≤ p) : EvR r N (p - d) := fun n hn => by
  have e1 := g (n + (p - d)) (by omega)
  rw [show n + (p - d) + d = n + p by omega, h n hn] at e1
  exact e1.symm
theorem EvR.mod {r : Nat → Int} {N d : Nat} (g : EvR r N d) (hd : 1 ≤ d) : ∀ p, EvR r N p → EvR r N (p % d) := by
  intro p
  induction p using Nat.strongRecOn with
  | _ p ih =>
    intro h
    by_cases l : d ≤ p
    · rw [Nat.mod_eq_sub_mod l]
      exact ih (p - d) (by omega) (h.sub g l)
    · rw [Nat.mod_eq_of_lt (by omega)]
      exact h
/-- a least period goes into each other one -/
theorem EvR.dvd {r : Nat → Int} {N d p : Nat} (g : EvR r N d) (hd : 1 ≤ d) (least : ∀ f, 1 ≤ f → EvR r N f → d ≤ f) (h : EvR r N p) : d ∣ p := by
  by_cases e : p % d = 0
  · exact Nat.dvd_of_mod_eq_zero e
  · have := least (p % d) (by omega) (g.mod hd p h)
    have := Nat.mod_lt p hd
    omega
/-- what comes round within one turn comes round for ever -/
theorem EvR.win {r : Nat → Int} {L p d : Nat} (h : EvR r L p) (hp : 1 ≤ p) (w : ∀ n, L ≤ n → n < L + p → r (n + d) = r n) : EvR r L d := fun n hn => by
  have key : ∀ k m, L ≤ m → m < L + p → r (m + k * p + d) = r (m + k * p) := fun k m h1 h2 => by
    rw [show m + k * p + d = m + d + k * p by omega, h.mul k (m + d) (by omega), h.mul k m h1, w m h1 h2]
  have q := key ((n - L) / p) (L + (n - L) % p) (by omega) (by have := Nat.mod_lt (n - L) hp; omega)
  have e : L + (n - L) % p + (n - L) / p * p = n := by
    have := Nat.mod_add_div (n - L) p
    rw [Nat.mul_comm] at this
    omega
  rw [e] at q
  exact q
/-- .. where the way goes into the turn, also without what goes over its end -/
theorem EvR.win_dvd {r : Nat → Int} {L p d : Nat} (h : EvR r L p) (hp : 1 ≤ p) (hd : 1 ≤ d) (dv : d ∣ p) (w : ∀ n, L ≤ n → n + d < L + p → r (n + d) = r n) : EvR r L d := by
  obtain ⟨c, rfl⟩ := dv
  -- within one turn each is as its remainder
  have key : ∀ k m, m < d → m + k * d < d * c → r (L + m + k * d) = r (L + m) := by
    intro k
    induction k with
    | zero => intro m _ _; rw [Nat.zero_mul, Nat.add_zero]
    | succ k ih =>
      intro m hm hk
      rw [Nat.succ_mul] at hk
      have e := w (L + m + k * d) (by omega) (by omega)
      rw [Nat.succ_mul, ← Nat.add_assoc, e, ih m hm (by omega)]
  refine h.win hp fun n h1 h2 => ?_
  by_cases l : n + d < L + d * c
  · exact w n h1 l
  · have e0 := h (n + d - d * c) (by
      have : d ≤ d * c := Nat.le_of_dvd (by omega) ⟨c, rfl⟩
      omega)
    have hle : d ≤ d * c := Nat.le_of_dvd (by omega) ⟨c, rfl⟩
    rw [show n + d - d * c + d * c = n + d by omega] at e0
    rw [e0]
    -- n = L + m + (c - 1) d
    obtain ⟨m, rfl⟩ := Nat.exists_eq_add_of_le h1
    have hc : 1 ≤ c := by
      cases c with
      | zero => rw [Nat.mul_zero] at h2; omega
      | succ c => omega
    have e1 : d * c = (c - 1) * d + d := by
      obtain ⟨b, rfl⟩ := Nat.exists_eq_add_of_le hc
      rw [Nat.add_comm 1 b, Nat.mul_comm, Nat.succ_mul, Nat.add_sub_cancel]
    have e2 := key (c - 1) (m - (c - 1) * d) (by omega) (by omega)
    rw [show L + (m - (c - 1) * d) + (c - 1) * d = L + m by omega] at e2
    rw [e2]
    congr 1
    omega
/-- N and p are the least ones -/
structure Can (a : Nat → Int) (N p : Nat) : Prop where
  pos : 1 ≤ p
  ev : EvR (rise a) N p
  low : ∀ M f, 1 ≤ f → EvR (rise a) M f → N ≤ M
  few : ∀ M f, 1 ≤ f → EvR (rise a) M f → p ≤ f
theorem Can.uniq {a : Nat → Int} {N p M f : Nat} (h : Can a N p) (g : Can a M f) : N = M ∧ p = f :=
  ⟨Nat.le_antisymm (h.low M f g.pos g.ev) (g.low N p h.pos h.ev), Nat.le_antisymm (h.few M f g.pos g.ev) (g.few N p h.pos h.ev)⟩
theorem Can.seq {a : Nat → Int} {N p : Nat} (h : Can a N p) : EvP a N p (a (N + p) - a N) := h.ev.seq
/-- what a turn's least divisor and the way back give -/
theorem can_of {a : Nat → Int} {L span N d : Nat} (h : EvR (rise a) L span) (hs : 1 ≤ span) (hd : 1 ≤ d) (dv : d ∣ span) (ev : EvR (rise a) N d) (hN : N ≤ L)
    (least : ∀ f, 1 ≤ f → f ∣ span → EvR (rise a) L f → d ≤ f) (back : N = 0 ∨ ¬ rise a (N - 1 + d) = rise a (N - 1)) : Can a N d := by
  -- the least of all periods at L
  have all : ∀ f, 1 ≤ f → EvR (rise a) L f → d ≤ f := by
    intro f hf hv
    have ex : ∃ e, 1 ≤ e ∧ EvR (rise a) L e ∧ ∀ g, 1 ≤ g → EvR (rise a) L g → e ≤ g := by
      have := Nat.strongRecOn (motive := fun n => 1 ≤ n → EvR (rise a) L n → ∃ e, 1 ≤ e ∧ EvR (rise a) L e ∧ ∀ g, 1 ≤ g → EvR (rise a) L g → e ≤ g) f fun n ih h1 h2 => by
        by_cases q : ∃ m, m < n ∧ 1 ≤ m ∧ EvR (rise a) L m
        · obtain ⟨m, m1, m2, m3⟩ := q
          exact ih m m1 m2 m3
        · refine ⟨n, h1, h2, fun g g1 g2 => ?_⟩
          refine Nat.le_of_not_lt fun z => q ⟨g, z, g1, g2⟩
      exact this hf hv
    obtain ⟨e, e1, e2, e3⟩ := ex
    exact Nat.le_trans (least e e1 (e2.dvd e1 e3 h) e2) (e3 f hf hv)
  refine ⟨hd, ev, fun M f hf hv => ?_, fun M f hf hv => ?_⟩
  · refine Nat.le_of_not_lt fun z => ?_
    rcases back with b | b
    · omega
    · have q : EvR (rise a) M d := hv.down hf ev
      exact b (q (N - 1) (by omega))
  · exact all f hf (hv.up (M := max M L) (by omega) |>.mul |> fun g => by
      have : EvR (rise a) L f := by
        refine EvR.down h hs (M := max M L) ?_
        exact hv.up (by omega)
      exact this)
/-- two rows with one start, period, step and first numbers are one -/
theorem seq_ext {a b : Nat → Int} {N p : Nat} {q : Int} (hp : 1 ≤ p) (ha : EvP a N p q) (hb : EvP b N p q) (e : ∀ n, n < N + p → a n = b n) : ∀ n, a n = b n := by
  intro n
  induction n using Nat.strongRecOn with
  | _ n ih =>
    by_cases l : n < N + p
    · exact e n l
    · have h1 := ha (n - p) (by omega)
      have h2 := hb (n - p) (by omega)
      rw [show n - p + p = n by omega] at h1 h2
      rw [h1, h2, ih (n - p) (by omega)]
theorem EvP.mul {a : Nat → Int} {N p : Nat} {q : Int} (h : EvP a N p q) : ∀ k n, N ≤ n → a (n + k * p) = a n + k * q
  | 0, n, _ => by simp
  | k + 1, n, hn => by
    rw [Nat.succ_mul, ← Nat.add_assoc, h _ (by omega), EvP.mul h k n hn, Int.natCast_succ, Int.add_mul]
    omega
/-- the number for n by the first ones -/
theorem EvP.get {a : Nat → Int} {N p : Nat} {q : Int} (h : EvP a N p q) (hp : 1 ≤ p) {n : Nat} (hn : N ≤ n) : a n = a (N + (n - N) % p) + ((n - N) / p : Nat) * q := by
  have e := h.mul ((n - N) / p) (N + (n - N) % p) (by omega)
  rw [show N + (n - N) % p + (n - N) / p * p = n by
    have := Nat.mod_add_div (n - N) p
    rw [Nat.mul_comm] at this
    omega] at e
  exact e
/-! ### rows as they are told -/
/-- the number for n -/
def tellAt (some : List Int) (span : Nat) (step : Int) (n : Nat) : Int := if n < some.length then some.getD n 0 else some.getD (some.length - span + (n - some.length) % span) 0 + ((n - some.length) / span + 1 : Nat) * step
theorem tell_lt {some : List Int} {span : Nat} {step : Int} {n : Nat} (h : n < some.length) : tellAt some span step n = some.getD n 0 := if_pos h
theorem tell_ge {some : List Int} {span : Nat} {step : Int} {n : Nat} (h : some.length ≤ n) : tellAt some span step n = some.getD (some.length - span + (n - some.length) % span) 0 + ((n - some.length) / span + 1 : Nat) * step := if_neg (by omega)
theorem tell_ev {some : List Int} {span : Nat} {step : Int} (h1 : 1 ≤ span) (h2 : span ≤ some.length) : EvP (tellAt some span step) (some.length - span) span step := by
  intro n hn
  rw [tell_ge (by omega : some.length ≤ n + span)]
  by_cases l : n < some.length
  · rw [tell_lt l, show n + span - some.length = n - (some.length - span) by omega, Nat.mod_eq_of_lt (by omega), Nat.div_eq_of_lt (by omega), show some.length - span + (n - (some.length - span)) = n by omega]
    simp
  · rw [tell_ge (by omega), show n + span - some.length = n - some.length + span by omega, Nat.add_mod_right, Nat.add_div_right _ (by omega), Int.natCast_succ, Int.add_mul]
    omega
end LC
/-! LcRowN: what the program's steps make of the told numbers. -/
namespace LC
/-- the told numbers and one more -/
def moreT (ns : List Int) (span : Nat) (step : Int) : List Int := ns ++ [ns.getD (ns.length - span) 0 + step]
theorem moreT_len (ns : List Int) (span : Nat) (step : Int) : (moreT ns span step).length = ns.length + 1 := by
  unfold moreT
  rw [List.length_append]
  rfl
theorem moreT_at {ns : List Int} {span : Nat} {step : Int} (h1 : 1 ≤ span) (h2 : span ≤ ns.length) {n : Nat} (hn : n ≤ ns.length) : (moreT ns span step)[n]? = some (tellAt ns span step n) := by
  unfold moreT
  by_cases l : n < ns.length
  · rw [tell_lt l, List.getElem?_append_left l, List.getElem?_eq_getElem l, List.getD_eq_getElem?_getD, List.getElem?_eq_getElem l]
    rfl
  · have e : n = ns.length := by omega
    subst e
    rw [tell_ge (Nat.le_refl _), List.getElem?_append_right (Nat.le_refl _), Nat.sub_self, Nat.zero_mod, Nat.zero_div]
    simp
/-- its rises -/
def risesT (ns : List Int) (span : Nat) (step : Int) : List Int := (List.range ns.length).map (rise (tellAt ns span step))
theorem risesT_len (ns : List Int) (span : Nat) (step : Int) : (risesT ns span step).length = ns.length := by
  unfold risesT
  rw [List.length_map, List.length_range]
theorem risesT_at {ns : List Int} {span : Nat} {step : Int} {n : Nat} (h : n < ns.length) : (risesT ns span step)[n]? = some (rise (tellAt ns span step) n) := by
  unfold risesT
  rw [List.getElem?_map, List.getElem?_range h]
  rfl
/-- a list comes round with d in itself -/
def Win (rs : List Int) (d : Nat) : Prop := rs.drop d = rs.take (rs.length - d)
instance (rs : List Int) (d : Nat) : Decidable (Win rs d) := inferInstanceAs (Decidable (_ = _))
theorem win_iff {rs : List Int} {d : Nat} : Win rs d ↔ ∀ n, n + d < rs.length → rs[n + d]? = rs[n]? := by
  unfold Win
  constructor
  · intro h n hn
    have e := congrArg (fun l : List Int => l[n]?) h
    simp only [List.getElem?_drop, List.getElem?_take] at e
    rw [if_pos (by omega), Nat.add_comm] at e
    exact e
  · intro h
    refine List.ext_getElem? fun n => ?_
    rw [List.getElem?_drop, List.getElem?_take]
    split
    · rw [Nat.add_comm]
      exact h n (by omega)
    · exact List.getElem?_eq_none (by omega)
/-- what least_period tells -/
structure LeastP (rs : List Int) (d : Nat) : Prop where
  pos : 1 ≤ d
  dv : d ∣ rs.length
  win : Win rs d
  least : ∀ f, 1 ≤ f → f < d → f ∣ rs.length → ¬ Win rs f
/-- what least_start tells -/
structure LeastS (rs : List Int) (p L s : Nat) : Prop where
  le : s ≤ L
  go : ∀ n, s ≤ n → n < L → rs[n]? = rs[n + p]?
  stop : s = 0 ∨ ¬ rs[s - 1]? = rs[s - 1 + p]?
section
variable {ns : List Int} {span : Nat} {step : Int} {d N : Nat}
theorem win_tail (h1 : 1 ≤ span) (h2 : span ≤ ns.length) : Win ((risesT ns span step).drop (ns.length - span)) d ↔ ∀ n, ns.length - span ≤ n → n + d < ns.length → rise (tellAt ns span step) (n + d) = rise (tellAt ns span step) n := by
  rw [win_iff, List.length_drop, risesT_len]
  simp only [List.getElem?_drop]
  constructor
  · intro h n h3 h4
    have e := h (n - (ns.length - span)) (by omega)
    rw [show ns.length - span + (n - (ns.length - span) + d) = n + d by omega, show ns.length - span + (n - (ns.length - span)) = n by omega, risesT_at h4, risesT_at (by omega)] at e
    exact Option.some.inj e
  · intro h n h3
    have e := h (ns.length - span + n) (by omega) (by omega)
    rw [← Nat.add_assoc, risesT_at (by omega), risesT_at (by omega), e]
theorem tail_len (h2 : span ≤ ns.length) : ((risesT ns span step).drop (ns.length - span)).length = span := by
  rw [List.length_drop, risesT_len]
  omega
/-- what the making of a row works out -/
theorem row_can (h1 : 1 ≤ span) (h2 : span ≤ ns.length) (P : LeastP ((risesT ns span step).drop (ns.length - span)) d) (S : LeastS (risesT ns span step) d (ns.length - span) N) : Can (tellAt ns span step) N d ∧ N + d ≤ ns.length := by
  have tl := tail_len (step := step) h2
  have ev := (tell_ev (step := step) h1 h2).rise
  have dv := P.dv
  rw [tl] at dv
  have le : d ≤ span := Nat.le_of_dvd (by omega) dv
  have sl := S.le
  have evL : EvR (rise (tellAt ns span step)) (ns.length - span) d := ev.win_dvd h1 P.pos dv fun n h3 h4 => (win_tail h1 h2).mp P.win n h3 (by omega)
  have evN : EvR (rise (tellAt ns span step)) N d := fun n hn => by
    by_cases l : n < ns.length - span
    · have e := S.go n hn l
      rw [risesT_at (by omega), risesT_at (by omega)] at e
      exact (Option.some.inj e).symm
    · exact evL n (by omega)
  refine ⟨can_of ev h1 P.pos dv evN sl (fun f hf fd fe => ?_) ?_, by omega⟩
  · refine Nat.le_of_not_lt fun z => P.least f hf z (by rw [tl]; exact fd) ((win_tail h1 h2).mpr fun n h3 h4 => fe n h3)
  · rcases S.stop with s | s
    · exact .inl s
    · by_cases z : N = 0
      · exact .inl z
      · refine .inr fun e => s ?_
        rw [risesT_at (by omega), risesT_at (by omega), e]
/-- the law's own look at one way to come round -/
theorem least_look (h1 : 1 ≤ span) (h2 : span ≤ ns.length) {low few : Nat} (hl : low ≤ ns.length - span) : (∀ n, low ≤ n → n < ns.length + span → tellAt ns span step (n + few) - tellAt ns span step n = tellAt ns span step (low + few) - tellAt ns span step low) ↔ EvR (rise (tellAt ns span step)) low few := by
  constructor
  · intro h
    have w : ∀ n, low ≤ n → n + 1 < ns.length + span → rise (tellAt ns span step) (n + few) = rise (tellAt ns span step) n := fun n h3 h4 => by
      have e1 := h n h3 (by omega)
      have e2 := h (n + 1) (by omega) h4
      unfold rise
      rw [show n + few + 1 = n + 1 + few by omega]
      omega
    have ev := (tell_ev (step := step) h1 h2).rise
    have evL := ev.win (d := few) h1 fun n h3 h4 => w n (by omega) (by omega)
    exact fun n hn => by
      by_cases l : n < ns.length - span
      · exact w n hn (by omega)
      · exact evL n (by omega)
  · intro h n h3 _
    have := h.seq n h3
    omega
end
end LC
/-! LcRowV: what Row(..) is handed, what it leaves. -/
namespace LC
open PySem PySem.Spec PyProof.Rows L2
theorem seqOf_ints_same {K : PySem.W.Frag} {H H' : Hp} {v : V} {ns : List Int} (h : SeqOf K H v (ns.map V.int)) (e : Same H H') : SeqOf K H' v (ns.map V.int) := h.same e
/-- the three arguments: the numbers that are right, or the value that is refused -/
inductive RowArg (K : PySem.W.Frag) (H : Hp) (x y z : V) : Except V (List Int × Nat × Int) → Prop
  | other {n : String} : ValOk K H x n → (n == "tuple" || n == "list") = false → RowArg K H x y z (.error x)
  | empty : SeqOf K H x [] → RowArg K H x y z (.error x)
  | period {vs : List V} {n : String} : SeqOf K H x vs → vs ≠ [] → vs.length ≤ 5000 → ValOk K H y n → withinB 1 (vs.length : Int) y = false → RowArg K H x y z (.error y)
  | step {vs : List V} {p : Nat} {n : String} : SeqOf K H x vs → vs ≠ [] → vs.length ≤ 5000 → y = .int p → 1 ≤ p → p ≤ vs.length → ValOk K H z n → intB z = false → RowArg K H x y z (.error z)
  | item {as : List Int} {v : V} {bs : List V} {p : Nat} {q : Int} {n : String} : SeqOf K H x (as.map V.int ++ v :: bs) → (as.map V.int ++ v :: bs).length ≤ 5000 → y = .int p → 1 ≤ p → p ≤ (as.map V.int ++ v :: bs).length → z = .int q → ValOk K H v n → intB v = false → RowArg K H x y z (.error v)
  | ok {ns : List Int} {p : Nat} {q : Int} : SeqOf K H x (ns.map V.int) → ns.length ≤ 5000 → y = .int p → 1 ≤ p → p ≤ ns.length → z = .int q → RowArg K H x y z (.ok (ns, p, q))
theorem RowArg.same {K : PySem.W.Frag} {H H' : Hp} {x y z : V} {o : Except V (List Int × Nat × Int)} (h : RowArg K H x y z o) (e : Same H H') : RowArg K H' x y z o := by
  cases h with
  | other a b => exact .other (a.same e) b
  | empty a => exact .empty (a.same e)
  | period a b c d f => exact .period (a.same e) b c (d.same e) f
  | step a b c d f g i j => exact .step (a.same e) b c d f g (i.same e) j
  | item a b c d f g i j => exact .item (a.same e) b c d f g (i.same e) j
  | ok a b c d f g => exact .ok (a.same e) b c d f g
/-- an exception of the class, with its field -/
def BadF (C : Addr) (f : Str) (v : V) (cls : Value) (d : Option Addr) (H : Hp) : Prop := ∃ dd : Addr, d = some dd ∧ cls = .ref C ∧ H dd = some (.xd [(f, v)])
/-! ### what a row holds -/
def rflds (N p : Nat) (q : Int) (T : Addr) : List (Str × V) := putF "_numbers" (.ref T) (putF "_step" (.int q) (putF "_period" (.int p) (putF "_start" (.int N) [])))
theorem rflds_start (N p : Nat) (q : Int) (T : Addr) : (rflds N p q T).lookup ("_start" : Str) = some (.int N) := by
  unfold rflds
  rw [lookup_putF, if_neg (by decide +kernel), lookup_putF, if_neg (by decide +kernel), lookup_putF, if_neg (by decide +kernel), lookup_putF, if_pos rfl]
theorem rflds_period (N p : Nat) (q : Int) (T : Addr) : (rflds N p q T).lookup ("_period" : Str) = some (.int p) := by
  unfold rflds
  rw [lookup_putF, if_neg (by decide +kernel), lookup_putF, if_neg (by decide +kernel), lookup_putF, if_pos rfl]
theorem rflds_step (N p : Nat) (q : Int) (T : Addr) : (rflds N p q T).lookup ("_step" : Str) = some (.int q) := by
  unfold rflds
  rw [lookup_putF, if_neg (by decide +kernel), lookup_putF, if_pos rfl]
theorem rflds_numbers (N p : Nat) (q : Int) (T : Addr) : (rflds N p q T).lookup ("_numbers" : Str) = some (.ref T) := by
  unfold rflds
  rw [lookup_putF, if_pos rfl]
/-- the first numbers of a row -/
def firsts (a : Nat → Int) (n : Nat) : List Int := (List.range n).map a
theorem firsts_len (a : Nat → Int) (n : Nat) : (firsts a n).length = n := by
  unfold firsts
  rw [List.length_map, List.length_range]
theorem firsts_at {a : Nat → Int} {n i : Nat} (h : i < n) : (firsts a n)[i]? = some (a i) := by
  unfold firsts
  rw [List.getElem?_map, List.getElem?_range h]
  rfl
/-- the row of the numbers a stands at x -/
structure RowAt (K : PySem.W.Frag) (C : Addr) (H : Hp) (x : Addr) (a : Nat → Int) (N p : Nat) : Prop where
  can : Can a N p
  few : N + p ≤ 2000
  ex : ∃ (dx T : Addr), H x = some (.ins C dx (rflds N p (a (N + p) - a N) T)) ∧ SqT K H T ((firsts a (N + p)).map V.int)
theorem RowAt.same {K : PySem.W.Frag} {C x : Addr} {H H' : Hp} {a : Nat → Int} {N p : Nat} (h : RowAt K C H x a N p) (s : Same H H') : RowAt K C H' x a N p := by
  obtain ⟨c, f, dx, T, h1, h2⟩ := h
  exact ⟨c, f, dx, T, s _ _ h1, sqt_same s h2⟩
theorem RowAt.but {K : PySem.W.Frag} {C x q : Addr} {H H' : Hp} {a : Nat → Int} {N p : Nat} {xs : List V} (h : RowAt K C H x a N p) (k : But q H H') (hq : H q = some (.lst xs)) : RowAt K C H' x a N p := by
  obtain ⟨c, f, dx, T, h1, h2⟩ := h
  exact ⟨c, f, dx, T, k _ _ (ne_of h1 hq (fun z => nomatch z)) h1, k.sqt hq h2⟩
/-- what the head says of Row -/
structure RowTxt (K : PySem.W.Frag) (mg : Str → Option Value) (C : Addr) : Prop where
  cl : Cls K C
  nS : NoAttr K C "_start"
  nP : NoAttr K C "_period"
  nQ : NoAttr K C "_step"
  nN : NoAttr K C "_numbers"
  g_Row : mg "Row" = some (.ref C)
end LC
/-! LcFor: walks over a name's list or tuple. -/
namespace LC
open PySem PySem.Spec PyProof.Rows L2
theorem for_seq {K : PySem.W.Frag} {i : Nat} {v : V} {xs : List V} {g : TG} {tb : TS} {D : Ends} {σ : L2.St} {H : Hp} (hv : σ[i]? = some (some v)) (sq : SeqOf K H v xs) (Pv : Nat → L2.St → Hp → Prop) (h0 : Pv 0 σ H) (hl : ∀ j σ' H', Pv j σ' H' → Same H H')
    (hs : ∀ j x σ' H', xs[j]? = some x → Pv j σ' H' → g x σ' H' fun σ2 H2 => tb { D with nx := Pv (j + 1), ct := Pv (j + 1), bk := D.nx } σ2 H2) (hd : ∀ σ' H', Pv xs.length σ' H' → D.nx σ' H') :
    tFor (iOr (iList K (tVar i)) (iTup K (tVar i))) g tb D σ H := by
  obtain ⟨a, rfl, q | q⟩ := sq
  · exact .inl ⟨.ref a, hv, a, rfl, ⟨_, q⟩, for_list (K := K) (a := a) (xs := xs) Pv h0 (fun j σ' H' _ p => sql_same (hl j σ' H' p) q) hs hd⟩
  · exact .inr ⟨.ref a, hv, a, rfl, ⟨_, q⟩, for_tup (K := K) (a := a) (xs := xs) Pv h0 (fun j σ' H' _ p => sqt_same (hl j σ' H' p) q) hs hd⟩
theorem lc_seq {K : PySem.W.Frag} {i : Nat} {v : V} {xs : List V} {g : TG} {tt : TT} {te : TE} {vs : List Nat} {σ : L2.St} {H : Hp} {Q : VK} (hv : σ[i]? = some (some v)) (sq : SeqOf K H v xs) (Pv : Addr → Nat → Hp → Prop) (h0 : ∀ D, H D = none → Pv D 0 (upd H D (.lst []))) (hl : ∀ D, H D = none → ∀ j H', Pv D j H' → Same H H')
    (hs : ∀ D, H D = none → ∀ j x H', xs[j]? = some x → Pv D j H' → g x (wipe σ vs) H' fun σ2 H2 => wipe σ2 vs = wipe σ vs ∧ tt σ2 H2 fun b H3 =>
      if b = true then te σ2 H3 fun y H4 => ∃ acc, H4 D = some (.lst acc) ∧ acc.length < sizeLine ∧ Pv D (j + 1) (upd H4 D (.lst (acc ++ [y]))) else Pv D (j + 1) H3) (hd : ∀ D, H D = none → ∀ H', Pv D xs.length H' → Q (.ref D) H') :
    tLc (iOr (iList K (tVar i)) (iTup K (tVar i))) g tt te vs σ H Q := by
  obtain ⟨a, rfl, q | q⟩ := sq
  · exact .inl ⟨.ref a, hv, a, rfl, ⟨_, q⟩, fun D nD => lc_list (K := K) (a := a) (xs := xs) (Pv D) (h0 D nD) (fun j H' _ p => sql_same (hl D nD j H' p) q) (hs D nD) (hd D nD)⟩
  · exact .inr ⟨.ref a, hv, a, rfl, ⟨_, q⟩, fun D nD => lc_tup (K := K) (a := a) (xs := xs) (Pv D) (h0 D nD) (fun j H' _ p => sqt_same (hl D nD j H' p) q) (hs D nD) (hd D nD)⟩
end LC
namespace LC
open PySem PySem.Spec PyProof.Rows L2
theorem kit_seq2 {K : PySem.W.Frag} {n : String} (hn : n ∈ kinds) : PySem.W.kitAny K (.type n) [.type "list", .type "tuple"] = some (n == "tuple" || n == "list") := by
  have a := kit_k (K := K) "tuple" (fun n => n == "tuple") (by decide +kernel) hn
  have b := kit_k (K := K) "list" (fun n => n == "list") (by decide +kernel) hn
  unfold PySem.W.kitAny
  rw [b]
  cases q : (n == "list") with
  | true =>
    rw [Bool.or_true]
  | false =>
    show PySem.W.kitAny K (.type n) [.type "tuple"] = some (n == "tuple" || false)
    unfold PySem.W.kitAny
    rw [a, Bool.or_false]
    cases q2 : (n == "tuple") with
    | true => rfl
    | false => rfl
def spCheckRow (K : PySem.W.Frag) (CB : Addr) : Sp := fun vs H Q E => ∃ (x y z : V) (o : Except V (List Int × Nat × Int)), vs = [x, y, z] ∧ RowArg K H x y z o ∧
  match o with
  | .ok _ => ∀ H', Same H H' → Q .non H'
  | .error v => ∀ cls d H', Same H H' → BadF CB "value" v cls d H' → E cls d H'
theorem SeqOf.tru {K : PySem.W.Frag} {H : Hp} {v : V} {xs : List V} (h : SeqOf K H v xs) : TruV K v H (!xs.isEmpty) := by
  obtain ⟨a, rfl, q | q⟩ := h
  · exact .inl ⟨xs, q, rfl⟩
  · exact .inr (.inl ⟨xs, q, rfl⟩)
section
variable {P : Program} {w : World} {K : PySem.W.Frag} {mg : Str → Option Value} {base : Heap}
abbrev s_check_row : Stmt := topS 18
theorem sc_check_row : FnScope ["numbers", "period", "step", "number"] ["numbers", "period", "step"] (defScope s_check_row) := ⟨rfl, rfl, rfl, by decide +kernel, rfl, by decide +kernel, by decide +kernel⟩
theorem ok_check_row {f CB fB : Addr} {fd fdB : FuncData} (T : Txt mg) (EB : ErrC P w K mg base "BadNumber" "value" CB fB fdB) (F : FnP K "check_row" s_check_row f fd) (c_is_integer : Cal P w K mg base CX0 2 "is_integer" ["value"] (spIsInteger K)) (c_is_within : Cal P w K mg base CX0 2 "is_within" ["value", "least", "most"] (spIsWithin K)) :
    FnOk P w K mg base (L2.CX P w) 3 f fd ["numbers", "period", "step"] (spCheckRow K CB) := by
  have sc := sc_check_row
  refine F.ok sc (fun vs H Q E h => ?_) (fun cdv A outer s H vs Q E hr h => ?_)
  · obtain ⟨x, y, z, o, rfl, _⟩ := h
    rfl
  · obtain ⟨x, y, z, o, rfl, arg, q⟩ := h
    refine ⟨_, (pss_cons (ps_if (PW.pt (pw_or (pt_not (pt_val (pe_callB call_isiT (by rfl) T.n_isinstance (by decide +kernel) (pa_cons (pv 0) (pa_cons (pe_tup (pa_cons (pe_bty "list" T.n_list (by decide +kernel)) (pa_cons (pe_bty "tuple" T.n_tuple (by decide +kernel)) pa_nil))) pa_nil))))) (pw_or1 (pt_not (pt_truth (pv 0) (by intro _; rfl))))))
  (pss_one (ps_err EB rfl hr (by decide) (takes_of rfl rfl rfl rfl) (pa_cons (pv 0) pa_nil)))
  pss_nil)
(pss_cons (ps_if (pt_not (pt_val (pe_cal c_is_within hr (by rfl) pass0 (pa_cons (pv 1) (pa_cons pe_int (pa_cons (pe_callB call_len (by rfl) T.n_len (by decide +kernel) (pa_cons (pv 0) pa_nil)) pa_nil))))))
  (pss_one (ps_err EB rfl hr (by decide) (takes_of rfl rfl rfl rfl) (pa_cons (pv 1) pa_nil)))
  pss_nil)
(pss_cons (ps_if (pt_not (pt_val (pe_cal c_is_integer hr (by rfl) pass0 (pa_cons (pv 2) pa_nil))))
  (pss_one (ps_err EB rfl hr (by decide) (takes_of rfl rfl rfl rfl) (pa_cons (pv 2) pa_nil)))
  pss_nil)
(pss_one (ps_for (passes_of rfl) rfl (pi_or (pi_list (pv 0)) (pi_tup (pv 0))) (pg_name (i := 3) sc.nd rfl (.inl rfl))
  (pss_one (ps_if (pt_not (pt_val (pe_cal c_is_integer hr (by rfl) pass0 (pa_cons (pv 3) pa_nil))))
    (pss_one (ps_err EB rfl hr (by decide) (takes_of rfl rfl rfl rfl) (pa_cons (pv 3) pa_nil)))
    pss_nil))))))), ?_⟩
    refine ⟨x, rfl, szn 2, fun tp ntp => ?_⟩
    generalize hH1 : upd H tp _ = H1
    obtain ⟨s1, e1⟩ := alloc_eq ntp hH1
    have num : ∀ {v : V}, o = .error v → ∀ cls d H', Same H H' → BadF CB "value" v cls d H' → E cls d H' := fun e => by
      subst e
      exact q
    cases arg with
    | @other n ok kd =>
      refine ⟨x, tp, _, .type n, [.type "list", .type "tuple"], _, rfl, e1, .cons (.ty _) (.cons (.ty _) .nil), tyx_same ok.t s1, kit_seq2 ok.k, _, rfl, ?_⟩
      rw [kd]
      refine iteT ?_
      refine iteT ?_
      refine ⟨x, rfl, ?_⟩
      exact err_of fun d H2 nd s2 ed => num rfl _ _ _ (s1.trans s2) ⟨d, rfl, rfl, ed⟩
    | empty sq =>
      obtain ⟨n, ok, kd⟩ := sq.ok
      refine ⟨x, tp, _, .type n, [.type "list", .type "tuple"], _, rfl, e1, .cons (.ty _) (.cons (.ty _) .nil), tyx_same ok.t s1, kit_seq2 ok.k, _, rfl, ?_⟩
      rw [kd]
      refine iteF ?_
      refine ⟨x, rfl, _, (sq.same s1).tru, ?_⟩
      refine iteT ?_
      refine ⟨x, rfl, ?_⟩
      exact err_of fun d H2 nd s2 ed => num rfl _ _ _ (s1.trans s2) ⟨d, rfl, rfl, ed⟩
    | @period vs m sq ne l5 oky wb =>
      obtain ⟨n, ok, kd⟩ := sq.ok
      refine ⟨x, tp, _, .type n, [.type "list", .type "tuple"], _, rfl, e1, .cons (.ty _) (.cons (.ty _) .nil), tyx_same ok.t s1, kit_seq2 ok.k, _, rfl, ?_⟩
      rw [kd]
      refine iteF ?_
      refine ⟨x, rfl, _, (sq.same s1).tru, ?_⟩
      rw [show vs.isEmpty = false from by cases vs with | nil => exact absurd rfl ne | cons _ _ => rfl]
      refine iteF ?_
      refine ⟨y, rfl, x, rfl, x, _, rfl, (sq.same s1).len, y, m, 1, (vs.length : Int), rfl, oky.k, tyx_same oky.t s1, _, rfl, ?_⟩
      rw [wb]
      refine iteT ⟨y, rfl, ?_⟩
      exact err_of fun d H2 nd s2 ed => num rfl _ _ _ (s1.trans s2) ⟨d, rfl, rfl, ed⟩
    | @step vs p m sq ne l5 ey p1 p2 okz ib =>
      subst ey
      obtain ⟨n, ok, kd⟩ := sq.ok
      refine ⟨x, tp, _, .type n, [.type "list", .type "tuple"], _, rfl, e1, .cons (.ty _) (.cons (.ty _) .nil), tyx_same ok.t s1, kit_seq2 ok.k, _, rfl, ?_⟩
      rw [kd]
      refine iteF ?_
      refine ⟨x, rfl, _, (sq.same s1).tru, ?_⟩
      rw [show vs.isEmpty = false from by cases vs with | nil => exact absurd rfl ne | cons _ _ => rfl]
      refine iteF ?_
      refine ⟨.int p, rfl, x, rfl, x, _, rfl, (sq.same s1).len, .int p, "int", 1, (vs.length : Int), rfl, by decide, .base (.int _), _, rfl, ?_⟩
      have wb : withinB 1 (vs.length : Int) (.int p) = true := by
        show (decide (1 ≤ (p : Int)) && decide ((p : Int) ≤ vs.length)) = true
        rw [decide_eq_true (by omega), decide_eq_true (by omega)]
        rfl
      rw [wb]
      refine iteF ?_
      refine ⟨z, rfl, z, m, rfl, okz.k, tyx_same okz.t s1, _, rfl, ?_⟩
      rw [ib]
      refine iteT ⟨z, rfl, ?_⟩
      exact err_of fun d H2 nd s2 ed => num rfl _ _ _ (s1.trans s2) ⟨d, rfl, rfl, ed⟩
    | @item as v bs p qq m sq l5 ey p1 p2 ez okv ib =>
      subst ey ez
      obtain ⟨n, ok, kd⟩ := sq.ok
      refine ⟨x, tp, _, .type n, [.type "list", .type "tuple"], _, rfl, e1, .cons (.ty _) (.cons (.ty _) .nil), tyx_same ok.t s1, kit_seq2 ok.k, _, rfl, ?_⟩
      rw [kd]
      refine iteF ?_
      refine ⟨x, rfl, _, (sq.same s1).tru, ?_⟩
      rw [show (as.map V.int ++ v :: bs).isEmpty = false from by cases as <;> rfl]
      refine iteF ?_
      refine ⟨.int p, rfl, x, rfl, x, _, rfl, (sq.same s1).len, .int p, "int", 1, ((as.map V.int ++ v :: bs).length : Int), rfl, by decide, .base (.int _), _, rfl, ?_⟩
      have wb : withinB 1 ((as.map V.int ++ v :: bs).length : Int) (.int p) = true := by
        show (decide (1 ≤ (p : Int)) && decide ((p : Int) ≤ _)) = true
        rw [decide_eq_true (by omega), decide_eq_true (by omega)]
        rfl
      rw [wb]
      refine iteF ?_
      refine ⟨.int qq, rfl, .int qq, "int", rfl, by decide, .base (.int _), _, rfl, iteF ?_⟩
      have sq1 := sq.same s1
      refine for_seq (i := 0) rfl sq1 (fun i σ H' => i ≤ as.length ∧ Same H1 H' ∧ ∃ o3 : Option V, σ = [some x, some (.int p), some (.int qq), o3]) ⟨Nat.zero_le _, Same.refl _, none, rfl⟩ (fun i σ H' h => h.2.1) ?_ ?_
      · rintro i u σ H' hi ⟨hle, sm, o3, rfl⟩
        by_cases l : i < as.length
        · rw [List.getElem?_append_left (by rw [List.length_map]; exact l), List.getElem?_map, List.getElem?_eq_getElem l] at hi
          cases hi
          exact ⟨_, rfl, _, "int", rfl, by decide, .base (.int _), _, rfl, iteF ⟨l, sm, _, rfl⟩⟩
        · have e : i = as.length := by omega
          subst e
          rw [List.getElem?_append_right (by rw [List.length_map]; exact Nat.le_refl _), List.length_map, Nat.sub_self] at hi
          cases hi
          refine ⟨v, rfl, v, m, rfl, okv.k, tyx_same okv.t (s1.trans sm), _, rfl, ?_⟩
          rw [ib]
          refine iteT ⟨v, rfl, ?_⟩
          exact err_of fun d H2 nd s2 ed => num rfl _ _ _ ((s1.trans sm).trans s2) ⟨d, rfl, rfl, ed⟩
      · rintro σ H' ⟨hle, _⟩
        rw [List.length_append, List.length_map, List.length_cons] at hle
        omega
    | @ok ns p qq sq l5 ey p1 p2 ez =>
      subst ey ez
      obtain ⟨n, ok, kd⟩ := sq.ok
      refine ⟨x, tp, _, .type n, [.type "list", .type "tuple"], _, rfl, e1, .cons (.ty _) (.cons (.ty _) .nil), tyx_same ok.t s1, kit_seq2 ok.k, _, rfl, ?_⟩
      rw [kd]
      refine iteF ?_
      refine ⟨x, rfl, _, (sq.same s1).tru, ?_⟩
      rw [show (ns.map V.int).isEmpty = false from by cases ns with | nil => exact absurd p2 (by show ¬ p ≤ 0; omega) | cons _ _ => rfl]
      refine iteF ?_
      refine ⟨.int p, rfl, x, rfl, x, _, rfl, (sq.same s1).len, .int p, "int", 1, ((ns.map V.int).length : Int), rfl, by decide, .base (.int _), _, rfl, ?_⟩
      have wb : withinB 1 ((ns.map V.int).length : Int) (.int p) = true := by
        rw [List.length_map]
        show (decide (1 ≤ (p : Int)) && decide ((p : Int) ≤ _)) = true
        rw [decide_eq_true (by omega), decide_eq_true (by omega)]
        rfl
      rw [wb]
      refine iteF ?_
      refine ⟨.int qq, rfl, .int qq, "int", rfl, by decide, .base (.int _), _, rfl, iteF ?_⟩
      refine for_seq (i := 0) rfl (sq.same s1) (fun i σ H' => Same H1 H' ∧ ∃ o3 : Option V, σ = [some x, some (.int p), some (.int qq), o3]) ⟨Same.refl _, none, rfl⟩ (fun i σ H' h => h.1) ?_ ?_
      · rintro i u σ H' hi ⟨sm, o3, rfl⟩
        rw [List.getElem?_map] at hi
        obtain ⟨k, _, rfl⟩ := Option.map_eq_some_iff.mp hi
        exact ⟨_, rfl, _, "int", rfl, by decide, .base (.int _), _, rfl, iteF ⟨sm, _, rfl⟩⟩
      · rintro σ H' ⟨sm, _⟩
        exact q H' (s1.trans sm)
end
end LC
/-! LcInts: lists of ints: cut, compared. -/
namespace LC
open PySem PySem.Spec PyProof.Rows L2
theorem cut_from {xs : List V} {d : Nat} : cutV xs (some (d : Int)) none = xs.drop d := by
  unfold cutV
  rw [HT.sIx_nat, HT.sIx_none]
  by_cases h : d ≤ xs.length
  · rw [Nat.min_eq_left h]
    exact List.take_of_length_le (by rw [List.length_drop]; exact Nat.le_refl _)
  · rw [Nat.min_eq_right (by omega), Nat.sub_self, List.take_zero, List.drop_eq_nil_of_le (by omega)]
theorem cut_to {xs : List V} {d : Nat} : cutV xs none (some (d : Int)) = xs.take d := by
  unfold cutV
  rw [HT.sIx_nat, HT.sIx_none, List.drop_zero, Nat.sub_zero]
  by_cases h : d ≤ xs.length
  · rw [Nat.min_eq_left h]
  · rw [Nat.min_eq_right (by omega), List.take_of_length_le (Nat.le_refl _), List.take_of_length_le (by omega)]
theorem ints_eqvAll : ∀ ns ms : List Int, PyData.eqvAll (ns.map PyData.int) (ms.map PyData.int) = decide (ns = ms)
  | [], [] => rfl
  | [], _ :: _ => rfl
  | _ :: _, [] => rfl
  | n :: ns, m :: ms => by
    show ((n == m) && PyData.eqvAll (ns.map PyData.int) (ms.map PyData.int)) = _
    rw [ints_eqvAll ns ms]
    by_cases e : n = m
    · subst e
      by_cases e2 : ns = ms
      · subst e2
        simp
      · simp [e2]
    · have : (n == m) = false := beq_eq_false_iff_ne.mpr e
      rw [this]
      simp [e]
theorem ints_eqv (ns ms : List Int) : PyData.eqv (.list (ns.map PyData.int)) (.list (ms.map PyData.int)) = decide (ns = ms) := ints_eqvAll ns ms
theorem intsT_eqv (ns ms : List Int) : PyData.eqv (.tuple (ns.map PyData.int)) (.tuple (ms.map PyData.int)) = decide (ns = ms) := ints_eqvAll ns ms
theorem shapedT_ints (ns : List Int) : SeqAt.shaped (.tuple (ns.map PyData.int)) = true := PySem.W.ke_shaped_ints ns
theorem ints_at {ns : List Int} {i : Nat} {z : Int} (h : ns[i]? = some z) : atI (ns.map V.int) (i : Int) = some (.int z) := atI_nat (by rw [List.getElem?_map, h]; rfl)
end LC
namespace LC
open PySem PySem.Spec PyProof.Rows L2
def spLeastPeriod (K : PySem.W.Frag) : Sp := fun vs H Q _ => ∃ (l : Addr) (rs : List Int), vs = [.ref l] ∧ SqL K H l (rs.map V.int) ∧ 1 ≤ rs.length ∧ rs.length ≤ 5000 ∧ ∀ (d : Nat) H', LeastP rs d → Same H H' → Q (.int d) H'
def spLeastStart (K : PySem.W.Frag) : Sp := fun vs H Q _ => ∃ (l : Addr) (rs : List Int) (p L : Nat), vs = [.ref l, .int p, .int L] ∧ SqL K H l (rs.map V.int) ∧ L + p ≤ rs.length ∧ 1 ≤ p ∧ ∀ (s : Nat), LeastS rs p L s → Q (.int s) H
section
variable {P : Program} {w : World} {K : PySem.W.Frag} {mg : Str → Option Value} {base : Heap}
abbrev s_least_period : Stmt := topS 19
theorem sc_least_period : FnScope ["rises", "many", "period"] ["rises"] (defScope s_least_period) := ⟨rfl, rfl, rfl, by decide +kernel, rfl, by decide +kernel, by decide +kernel⟩
theorem ok_least_period {f : Addr} {fd : FuncData} (T : Txt mg) (F : FnP K "least_period" s_least_period f fd) : FnOk P w K mg base CX0 1 f fd ["rises"] (spLeastPeriod K) := by
  have sc := sc_least_period
  refine F.ok sc (fun vs H Q E h => ?_) (fun cdv A outer s H vs Q E hr h => ?_)
  · obtain ⟨l, rs, rfl, _⟩ := h
    rfl
  · obtain ⟨l, rs, rfl, hl, h1, h5, q⟩ := h
    refine ⟨_, PSs.nox (pss_cons (ps_set (i := 1) sc.nd rfl (.inl rfl) (pe_callB call_len (by rfl) T.n_len (by decide +kernel) (pa_cons (pv 0) pa_nil)))
(pss_cons (ps_for PassesOwn.never rfl (pi_range2 rfl T.n_range (pa_cons pe_int (pa_cons (pv 1) pa_nil))) (pg_name (i := 2) sc.nd rfl (.inl rfl))
  (pss_one (ps_if (PW.pt (pw_and (pt_cmpR op_eq (pe_op op_modN (pv 1) (pv 2)) pe_int (nomark _)) (pw_and1 (pt_cmpR (op_eqD hr.units) (pe_slice sl_list (pv 0) (po_some (pv 2)) po_none) (pe_slice sl_list (pv 0) po_none (po_some (pe_op op_sub (pv 1) (pv 2)))) (nomark _)))))
    (pss_one (ps_ret (pv 2)))
    pss_nil)))
(pss_one (ps_ret (pv 1))))), ?_⟩
    refine ⟨.ref l, rfl, .ref l, _, rfl, .inl ⟨_, hl, rfl⟩, ?_⟩
    rw [List.length_map]
    refine ⟨.int (rs.length : Int), rfl, 1, (rs.length : Int), rfl, by omega, for_range (lo := 1) (n := ((rs.length : Int) - 1).toNat) (fun i σ H' => Same H H' ∧ (∀ f, 1 ≤ f → f < 1 + i → f ∣ rs.length → ¬ Win rs f) ∧ ∃ o2 : Option V, σ = [some (.ref l), some (.int (rs.length : Int)), o2]) ⟨Same.refl H, fun f a b => absurd b (by omega), none, rfl⟩ ?_ ?_⟩
    · rintro i σ H' hi ⟨sm, nw, o2, rfl⟩
      have nd : (1 : Int) + (i : Int) = ((1 + i : Nat) : Int) := by omega
      have nx : ∀ b : Bool, (b = true → Q (.int ((1 + i : Nat) : Int)) H') → True := fun _ _ => trivial
      have go : ∀ {H2 : Hp}, Same H H2 → ¬ (1 + i ∣ rs.length ∧ Win rs (1 + i)) → Same H H2 ∧ (∀ f, 1 ≤ f → f < 1 + (i + 1) → f ∣ rs.length → ¬ Win rs f) ∧ ∃ o2 : Option V, [some (V.ref l), some (.int (rs.length : Int)), some (.int ((1 : Int) + (i : Int)))] = [some (.ref l), some (.int (rs.length : Int)), o2] := fun s2 no => ⟨s2, fun f a b dv wi => by
        by_cases e : f < 1 + i
        · exact nw f a e dv wi
        · have e2 : f = 1 + i := by omega
          subst e2
          exact no ⟨dv, wi⟩, _, rfl⟩
      have md : ((rs.length : Int)).fmod (1 + (i : Int)) = ((rs.length % (1 + i) : Nat) : Int) := by
        rw [nd, Int.fmod_eq_emod_of_nonneg _ (by omega)]
        rfl
      refine ⟨.int (rs.length : Int), rfl, .int (1 + (i : Int)), rfl, _, _, rfl, rfl, by omega, rfl, _, rfl, iteD (fun e => ?_) (fun e => ?_)⟩
      · have e1 : rs.length % (1 + i) = 0 := by
          have z := V.int.inj e
          rw [md] at z
          omega
        have dv := Nat.dvd_of_mod_eq_zero e1
        refine ⟨.ref l, rfl, .int (1 + (i : Int)), rfl, _, rfl, l, _, rfl, sql_same sm hl, fun a na => ?_⟩
        rw [nd, cut_from, ← List.map_drop]
        generalize hHa : upd H' a _ = Ha
        obtain ⟨sa, ea⟩ := alloc_eq na hHa
        refine ⟨.ref l, rfl, .int (rs.length : Int), rfl, .int ((1 + i : Nat) : Int), rfl, _, _, rfl, rfl, _, rfl, l, _, rfl, sql_same (sm.trans sa) hl, fun b nb => ?_⟩
        rw [show (rs.length : Int) - ((1 + i : Nat) : Int) = ((rs.length - (1 + i) : Nat) : Int) by omega, cut_to, ← List.map_take]
        generalize hHb : upd Ha b _ = Hb
        obtain ⟨sb, eb⟩ := alloc_eq nb hHb
        refine ⟨.list ((rs.drop (1 + i)).map PyData.int), .list ((rs.take (rs.length - (1 + i))).map PyData.int), .lst (.of (sb _ _ ea)) (dpAll_ints _), .lst (.of eb) (dpAll_ints _), shaped_ints _, shaped_ints _, _, rfl, ?_⟩
        rw [ints_eqv]
        have s3 := (sm.trans sa).trans sb
        refine iteD (fun wi => ?_) (fun wi => ?_)
        · refine ⟨_, rfl, ?_⟩
          exact q (1 + i) Hb ⟨by omega, dv, wi, fun f a b => nw f a (by omega)⟩ s3
        · exact go s3 fun z => wi z.2
      · refine go sm fun z => e ?_
        show V.int ((rs.length : Int).fmod (1 + (i : Int))) = V.int 0
        rw [md, Nat.mod_eq_zero_of_dvd z.1]
        rfl
    · rintro σ H' ⟨sm, nw, o2, rfl⟩
      refine ⟨_, rfl, ?_⟩
      refine q rs.length H' ⟨h1, Nat.dvd_refl _, ?_, fun f a b dv => nw f a (by omega) dv⟩ sm
      unfold Win
      rw [Nat.sub_self, List.take_zero, List.drop_length]
abbrev s_least_start : Stmt := topS 20
theorem sc_least_start : FnScope ["rises", "period", "start"] ["rises", "period", "start"] (defScope s_least_start) := ⟨rfl, rfl, rfl, by decide +kernel, rfl, by decide +kernel, by decide +kernel⟩
theorem ok_least_start {f : Addr} {fd : FuncData} (T : Txt mg) (F : FnP K "least_start" s_least_start f fd) : FnOk P w K mg base CX0 1 f fd ["rises", "period", "start"] (spLeastStart K) := by
  have sc := sc_least_start
  refine F.ok sc (fun vs H Q E h => ?_) (fun cdv A outer s H vs Q E hr h => ?_)
  · obtain ⟨l, rs, p, L, rfl, _⟩ := h
    rfl
  · obtain ⟨l, rs, p, L, rfl, hl, h1, h2, q⟩ := h
    refine ⟨_, PSs.nox (pss_cons (ps_while PassesOwn.never (PW.pt (pw_and (pt_cmpR op_gt (pv 2) pe_int (nomark _)) (pw_and1 (pt_cmpR op_eq (pe_ix ix_list (pv 0) (pe_op op_sub (pv 2) pe_int) (fun _ _ => rfl)) (pe_ix ix_list (pv 0) (pe_op op_add (pe_op op_sub (pv 2) pe_int) (pv 1)) (fun _ _ => rfl)) (nomark _)))))
  (pss_one (ps_set (i := 2) sc.nd rfl (.inl rfl) (pe_op op_sub (pv 2) pe_int))))
(pss_one (ps_ret (pv 2)))), ?_⟩
    refine ⟨fun m σ H' => H' = H ∧ m ≤ L ∧ (∀ n, m ≤ n → n < L → rs[n]? = rs[n + p]?) ∧ σ = [some (.ref l), some (.int (p : Int)), some (.int (m : Int))], ⟨L, rfl, Nat.le_refl _, fun n a b => absurd b (by omega), rfl⟩, ?_⟩
    rintro m σ H' ⟨rfl, mL, go, rfl⟩
    refine ⟨.int m, rfl, _, _, rfl, rfl, _, rfl, iteD (fun e => ?_) (fun e => ?_)⟩
    · have e1 : (m : Int) - 1 = ((m - 1 : Nat) : Int) := by omega
      have e2 : ((m - 1 : Nat) : Int) + (p : Int) = ((m - 1 + p : Nat) : Int) := by omega
      obtain ⟨x, hx⟩ : ∃ x, rs[m - 1]? = some x := ⟨_, List.getElem?_eq_getElem (by omega)⟩
      obtain ⟨y, hy⟩ : ∃ y, rs[m - 1 + p]? = some y := ⟨_, List.getElem?_eq_getElem (by omega)⟩
      refine ⟨.ref l, rfl, .int m, rfl, _, _, rfl, rfl, l, _, _, .int x, rfl, rfl, hl, ?_, .ref l, rfl, .int m, rfl, _, _, rfl, rfl, .int p, rfl, _, _, rfl, rfl, l, _, _, .int y, rfl, rfl, hl, ?_, rfl, _, rfl, iteD (fun f => ?_) (fun f => ?_)⟩
      · rw [e1]
        exact ints_at hx
      · rw [e1, e2]
        exact ints_at hy
      · have xy : x = y := V.int.inj f
        refine ⟨fun σ' H'' => σ' = [some (.ref l), some (.int (p : Int)), some (.int ((m - 1 : Nat) : Int))] ∧ H'' = H', fun σ' H'' ⟨a, b⟩ => ⟨m - 1, by omega, b, by omega, fun n h1 h2 => ?_, a⟩, ?_⟩
        · by_cases z : n = m - 1
          · rw [z, hx, hy, xy]
          · exact go n (by omega) h2
        · refine ⟨.int m, rfl, _, _, rfl, rfl, ?_, rfl⟩
          show [some (V.ref l), some (V.int p), some (V.int ((m : Int) - 1))] = _
          rw [e1]
      · refine ⟨_, rfl, q m ⟨mL, go, .inr fun z => f ?_⟩⟩
        rw [hx, hy] at z
        rw [Option.some.inj z]
    · exact ⟨_, rfl, q m ⟨mL, go, .inl (by omega)⟩⟩
end
end LC
/-! LcG: defs that ask that no repr is under way (they call repr), up to the law's end. -/
namespace LC
open PySem PySem.Spec PyProof.Rows L2
/-- a promise that is kept where no repr is under way -/
structure GOk (P : Program) (w : World) (K : PySem.W.Frag) (mg : Str → Option Value) (base : Heap) (CX : CXT) (k : Nat) (f : Addr) (fd : FuncData) (ps : List Str) (sp : Sp) : Prop where
  ar : ∀ vs H Q E, sp vs H Q E → vs.length = ps.length
  go : ∀ (A : Around) (out : List Env) (s : Shared) (H : Hp) (ar : Args) (us : List Value) (vs : List V) (Q : VK) (E : XK), A.guards = some [] → Room k A → Env0 P w K mg base A out s H → BindsTo s fd ar (ps.zip us) → Vals vs us → sp vs H Q E →
    codeAny (model P w) A (.call (.ref f) ar) (CR CX out P w H s Q E) s
theorem GOk.of {P : Program} {w : World} {K : PySem.W.Frag} {mg : Str → Option Value} {base : Heap} {CX : CXT} {k : Nat} {f : Addr} {fd : FuncData} {ps : List Str} {sp : Sp} (F : FnOk P w K mg base CX k f fd ps sp) : GOk P w K mg base CX k f fd ps sp :=
  ⟨F.len, fun A out s H ar us vs Q E _ hr e0 hb r h => F.run A out s H ar us vs Q E hr e0 hb r h⟩
theorem GOk.mono {P : Program} {w : World} {K : PySem.W.Frag} {mg : Str → Option Value} {base : Heap} {CX : CXT} {j k : Nat} {f : Addr} {fd : FuncData} {ps : List Str} {sp : Sp} (F : GOk P w K mg base CX j f fd ps sp) (h : j ≤ k) : GOk P w K mg base CX k f fd ps sp :=
  ⟨F.ar, fun A out s H ar us vs Q E g hr => F.go A out s H ar us vs Q E g (hr.mono h)⟩
/-- the rule for such a def -/
theorem g_ofE {P : Program} {w : World} {K : PySem.W.Frag} {mg : Str → Option Value} {base : Heap} {CX : CXT} {k : Nat} {f : Addr} {fd : FuncData} {x qual : Str} {params : Arguments} {body : List Stmt} {scope : Scope} {dvs : List V} {kws : List (Str × V)} {N ps : List Str} {sp : Sp}
    (F : FunD K x qual params body scope dvs kws f fd) (S : FnScope N ps scope) (ar : ∀ vs H Q E, sp vs H Q E → vs.length = ps.length)
    (hb : ∀ (cdv : Value) (A : Around) (out : List Env) (s : Shared) (H : Hp) (vs : List V) (Q : VK) (E : XK), fd.code = cdv → A.guards = some [] → Room k (A.deeper (envOfC qual scope s.heap.objs.size f cdv)) → sp vs H Q E →
      ∃ t, PSs (cxOf CX P w K mg base N qual scope f cdv A out s H E) body t ∧ t { nx := fun _ H' => Q .non H', rt := Q } (start N vs) H) : GOk P w K mg base CX (k + 1) f fd ps sp := by
  obtain ⟨oc, od, dV, kV, doc, pm, an, cdv, ct, osl, rfl, lk, hcd, _, _⟩ := F.ex
  refine ⟨ar, fun A out s H args us vs Q E hg hr e0 hbi r hsp => ?_⟩
  have kin : K.In s.heap := e0.mod.kin.keeps fun b o e => And.left (e0.bs b o e)
  have nol : s.heap.NoLimit := e0.mod.nolimit.keeps fun b o e => And.left (e0.bs b o e)
  have kinds : ∀ y ∈ ps.zip us, scope.names.lookup y.1 = some .local ∨ (scope.names.lookup y.1 = some .cell ∧ ((cellsFrom (s.heap.objs.size + 1) scope.names []).lookup y.1).isSome = true) := by
    intro y hy
    have hm := (List.of_mem_zip (a := y.1) (b := y.2) hy).1
    cases S.par y.1 hm with
    | inl q => exact Or.inl q
    | inr q => exact Or.inr ⟨q, PySem.W.cellsFrom_some _ _ _ (Or.inl q)⟩
  refine codeAny_call_function hr.depth (kin _ _ lk) rfl S.co S.gen rfl (PySem.W.codeRec_of kin hcd) (hbi _ _ _ _ ?_)
  refine wpAny_newFunctionEnv_cells S.kind kinds fun env he s1 x1 => ?_
  cases he
  refine ⟨nol.keeps x1.toInCall.keep, codeAny_func ?_⟩
  obtain ⟨t, ht, hq⟩ := hb cdv A out s H vs Q E rfl hg (hr.deeper _) hsp
  have I0 := inv_start (CX := CX) (P := P) (E := E) (cd := cdv) S hr.hd e0 (ar _ _ _ _ hsp) r x1
  have fin : ∀ (s' : Shared) (σ' : L2.St) (H' : Hp) (v : V) (u : Value), Inv (cxOf CX P w K mg base N qual scope f cdv A out s H E) [] σ' H' s' → RelV v u → Q v H' → CE out P w H s Q u s' :=
    fun s' σ' H' v u J rv q => ⟨v, H', J.os, J.bare, J.base, J.hok, rv, q⟩
  refine wpAny_mono (ht.run [] s1 (start N vs) H _ I0 hq) (fun fl s' hs => ?_) (fun _ _ z => z)
  match fl, hs with
  | .ret u, hs =>
    obtain ⟨v, σ', H', J, rv, q⟩ := hs
    exact fin s' σ' H' v u J rv q
  | .next, hs =>
    obtain ⟨σ', H', J, q⟩ := hs
    exact fin s' σ' H' .non .none J rfl q
  | .brk, hs => exact (hs.choose_spec.choose_spec.2 : False).elim
  | .cont, hs => exact (hs.choose_spec.choose_spec.2 : False).elim
theorem g_of {P : Program} {w : World} {K : PySem.W.Frag} {mg : Str → Option Value} {base : Heap} {CX : CXT} {k : Nat} {f : Addr} {fd : FuncData} {x qual : Str} {params : Arguments} {body : List Stmt} {scope : Scope} {dvs : List V} {kws : List (Str × V)} {N ps : List Str} {sp : Sp}
    (F : FunD K x qual params body scope dvs kws f fd) (S : FnScope N ps scope) (ar : ∀ vs H Q E, sp vs H Q E → vs.length = ps.length)
    (hb : ∀ (cdv : Value) (A : Around) (out : List Env) (s : Shared) (H : Hp) (vs : List V) (Q : VK) (E : XK), A.guards = some [] → Room k (A.deeper (envOfC qual scope s.heap.objs.size f cdv)) → sp vs H Q E →
      ∃ t, PSs (cxOf CX P w K mg base N qual scope f cdv A out s H E) body t ∧ t { nx := fun _ H' => Q .non H', rt := Q } (start N vs) H) : GOk P w K mg base CX (k + 1) f fd ps sp :=
  g_ofE F S ar fun cdv A out s H vs Q E _ hg hr h => hb cdv A out s H vs Q E hg hr h
/-- such a def of the module -/
def CalG (P : Program) (w : World) (K : PySem.W.Frag) (mg : Str → Option Value) (base : Heap) (CX : CXT) (k : Nat) (x : Str) (ps : List Str) (sp : Sp) : Prop :=
  ∃ f fd, mg x = some (.ref f) ∧ GOk P w K mg base CX k f fd ps sp ∧ PySem.W.keepIn K (.ref f) = true ∧ Binds K fd ps []
section
variable {X : Cx} {CX : CXT} {k : Nat} {x : Str} {ps : List Str} {sp : Sp} {E : XK} {e : Expr} {es : List Expr} {t : TA} {p pos : Pos}
theorem pe_calG (c : CalG X.prog X.w X.K X.mg X.base CX k x ps sp) (hgd : X.A.guards = some []) (hr : Room k X.A) (hg : Gl X x) (hx : Passes CX X E) (ha : PA X (e :: es) t) (hdb : (x == ("__debug__" : Str)) = false := by decide)
    (he : starEach (e :: es) X.env = (false, eval e X.env) :: starEach es X.env := by rfl) (hpl : (backTo pos (starEach es X.env)).any (·.1) = false := by rfl) : PE X (.Call (.Name x p) (e :: es) [] pos) (tCal sp E t) := by
  obtain ⟨f, fd, m, F, kp, b⟩ := c
  constructor
  intro pins s σ H Q I h
  refine wpAny_Call_Name_kw (ld_glob I hg m ?_ hdb)
  refine PySem.W.callWith_K (h₀ := X.base) I.ok.mod.kin kp (thn (ha.run pos pins s σ H _ I h) fun us s1 ⟨vs, H1, I1, r, q⟩ => ⟨I1.kIn, ?_⟩) he hpl
  have hl : (us ++ []).length = ps.length := by
    rw [List.append_nil, ← r.length]
    exact F.ar _ _ _ _ q
  have hb := b s1 us I1.kIn hl
  rw [List.append_nil] at hb
  refine wpAny_call (codeAny_mono (F.go X.A X.stack s1 H1 ⟨us, []⟩ us vs Q E hgd hr I1.env0 hb r q) fun res s' hq => ?_)
  match res, hq with
  | .error z, hq => exact hx pins σ H1 s1 z s' I1 hq
  | .ok (.ret u), hq => exact I1.after hq
  | .ok .next, hq => exact False.elim hq
  | .ok .brk, hq => exact False.elim hq
  | .ok .cont, hq => exact False.elim hq
end
/-- the law is called by the statement -/
theorem law_callG {P : Program} {w : World} {K : PySem.W.Frag} {mg mb : Str → Option Value} {CX : CXT} {k : Nat} {fa a : Addr} {fd : FuncData} {x : Str} {sp : Sp} {s1 : Shared} {vs : List Value} {ns : List Int}
    (KX : K.In s1.heap) (hns : s1.heap.Ns mainGlobals mg) (hb : s1.heap.Ns builtinsNs mb) (hbb : ∀ x : Str, x ≠ "__name__" → mb x = bootBuiltins x) (hlim : s1.heap.NoLimit) (hg : s1.gens = #[])
    (ha : s1.heap.get? a = some { cls := .type "list", data := .seq vs.toArray }) (hi : IntsAre vs ns) (hl : ns.length ≤ sizeLine) (hr : Room k callerA)
    (F : ∀ base : Heap, K.In base → base.Ns mainGlobals mg → GOk P w K mg base CX k fa fd [x] sp) (hbind : ∀ (s : Shared) (u : Value), BindsTo s fd ⟨[u], []⟩ [(x, u)])
    (hsp : ∀ H : Hp, Only H → SqL K H a (ns.map V.int) → sp [.ref a] H (fun v _ => v = .bl true) fun _ _ _ => False) (hCX : ∀ H e s', CX [] H s1 (fun _ _ _ => False) e s' → False) :
    codeAny (model P w) callerA (.call (.ref fa) ⟨[.ref a], []⟩) (fun r s' => r = .ok (.ret (.bool true)) ∧ OldK s1.heap s'.heap ∧ s'.os = s1.os ∧ AllBare s'.gens) s1 := by
  have rv := vals_ints hi
  have core : ∀ H : Hp, Only H → SqL K H a (ns.map V.int) → HOk P w H s1.heap → (∀ b, H b ≠ none → b = a) → (H a ≠ none → K.lookup a = none) →
      codeAny (model P w) callerA (.call (.ref fa) ⟨[.ref a], []⟩) (fun r s' => r = .ok (.ret (.bool true)) ∧ OldK s1.heap s'.heap ∧ s'.os = s1.os ∧ AllBare s'.gens) s1 := by
    intro H hO hS hok hA hK
    have some_a : ∀ {b : Addr} {u : HO}, H b = some u → b = a := fun {b u} q => hA b (fun z => by rw [q] at z; cases z)
    have isnone : ∀ {b : Addr}, ¬ (∃ u, H b = some u) → H b = none := fun {b} q => by
      cases z : H b with
      | none => rfl
      | some u => exact absurd ⟨u, z⟩ q
    have dicts : ∀ {b : Addr} {o : Obj} {es : Array DictEntry} {ep : Nat}, s1.heap.get? b = some o → o.data = .dict es ep → H b = none := fun {b o es ep} e d => isnone fun ⟨u, q⟩ => by
      rw [some_a q, ha] at e
      cases e
      have d' : Data.seq vs.toArray _ = Data.dict es ep := d
      cases d'
    have nsH : ∀ {b : Addr} {m : Str → Option Value}, s1.heap.Ns b m → (hidT s1.heap H).Ns b m := fun ⟨o, es, ep, e, d, r⟩ => ⟨o, es, ep, hidT_get e (dicts e d), d, r⟩
    have kinH : K.In (hidT s1.heap H) := fun b o e => hidT_get (KX b o e) (isnone fun ⟨u, q⟩ => by
      have eb := some_a q
      have q2 := hK (by rw [← eb, q]; exact fun z => nomatch z)
      rw [eb, q2] at e
      cases e)
    obtain ⟨mc, l1, l2⟩ := hlim
    have modH : Mod K mg (hidT s1.heap H) := ⟨kinH, nsH hns, ⟨mb, nsH hb, hbb⟩, ⟨mc, nsH l1, l2⟩⟩
    have nofr : ∀ b : Addr, b ∉ frs [] := fun b z => by cases z
    have e0 : Env0 P w K mg (hidT s1.heap H) callerA [] s1 H := ⟨rfl, modH, fun b o e => of_hidT e, Nat.le_of_eq (hidT_size _ _), trivial, fun b z => absurd z (nofr b), hok, .of_eq hg⟩
    refine codeAny_mono ((F _ kinH (nsH hns)).go callerA [] s1 H ⟨[.ref a], []⟩ [.ref a] [.ref a] _ _ rfl hr e0 (hbind s1 (.ref a)) (.cons rfl .nil) (hsp H hO hS)) fun r s' h => ?_
    match r, h with
    | .error e, h => exact (hCX H e s' h).elim
    | .ok .next, h => exact False.elim h
    | .ok .brk, h => exact False.elim h
    | .ok .cont, h => exact False.elim h
    | .ok (.ret u), h =>
      obtain ⟨v, H', os, bare, un, hok', r', q⟩ := h
      cases (show v = .bl true from q)
      cases (show u = Value.bool true from r')
      refine ⟨rfl, OldK.of_keep fun b o e => ?_, os, bare⟩
      cases q : H b with
      | none => exact un.keep b o e q (nofr b) (fun z => by cases z)
      | some u =>
        rcases hO b with z | ⟨ob, xs, z⟩
        · rw [q] at z
          cases z
        · have e1 := And.left (hok b _ z)
          have e2 := And.left (hok' b _ (un.frzs b ob _ z))
          rw [e] at e1
          cases e1
          exact e2
  cases hk : K.lookup a with
  | some o =>
    have e := KX a o hk
    rw [ha] at e
    cases e
    refine core (fun _ => none) (fun _ => Or.inl rfl) (Or.inr ⟨_, vs.toArray, _, hk, rfl, rfl, rfl, ?_, by simpa using rv⟩) (fun b u z => by cases (show (none : Option HO) = some u from z)) (fun b z => absurd rfl z) fun z => absurd rfl z
    rw [List.size_toArray, hi.length]
    exact hl
  | none =>
    have is : ∀ (b : Addr) (u : HO), (fun b : Addr => if b = a then some (HO.frz { cls := .type "list", data := .seq vs.toArray } (.lst (ns.map V.int))) else none) b = some u → b = a ∧ u = HO.frz { cls := .type "list", data := .seq vs.toArray } (.lst (ns.map V.int)) := fun b u z => by
      by_cases q : b = a
      · exact ⟨q, (Option.some.inj ((if_pos q).symm.trans z)).symm⟩
      · cases (if_neg q).symm.trans z
    refine core (fun b => if b = a then some (.frz { cls := .type "list", data := .seq vs.toArray } (.lst (ns.map V.int))) else none) (fun b => ?_) (Or.inl (Or.inr ⟨_, if_pos rfl⟩)) (fun b u z => ?_) (fun b z => ?_) fun _ => hk
    · by_cases q : b = a
      · exact Or.inr ⟨_, _, if_pos q⟩
      · exact Or.inl (if_neg q)
    · obtain ⟨rfl, rfl⟩ := is b u z
      refine ⟨ha, ?_, vs, _, rv, ha⟩
      rw [List.length_map]
      exact hl
    · by_cases q : b = a
      · exact q
      · exact absurd (if_neg q) z
theorem walk_G {l : PySem.W.OpenLaw} {n k : Nat} {q : Program} {loose : List Str} {XP : (Str → Option Value) → Heap → Prop} {YP : World → Heap → Prop} {d : DefRec} {CX : CXT} {x : Str} (hn : l.most = some n) (hn2 : n ≤ sizeLine) (hdf : d.params.defaults = []) (hr : Room k callerA)
    (F : ∀ (w : World) (mg : Str → Option Value) (fa : Addr) (h : Heap), YP w h → h.Ns mainGlobals mg → mg d.name = some (.ref fa) →
      ∃ (K : PySem.W.Frag) (fd : FuncData) (sp : Sp), K.In h ∧ (∀ (s : Shared) (u : Value), BindsTo s fd ⟨[u], []⟩ [(x, u)]) ∧ (∀ (H : Hp) (a : Addr) (ns : List Int), ns.length ≤ n → Only H → SqL K H a (ns.map V.int) → sp [.ref a] H (fun v _ => v = .bl true) fun _ _ _ => False) ∧
        ∀ base : Heap, K.In base → base.Ns mainGlobals mg → GOk l.prog w K mg base CX k fa fd [x] sp)
    (hCX : ∀ (H : Hp) (s : Shared) (e : Value) (s' : Shared), CX [] H s (fun _ _ _ => False) e s' → False) : PySem.W.WalkO q loose XP YP l.row.toRowW d [] (fun f vs => PySem.call f vs) := by
  refine Att.attach_call hn hdf fun w s0 s1 mg mb fa o pm cd doc a vs ns G Y ho hd hcd hmg hobj hints hlen hg => ?_
  obtain ⟨K, fd, sp, KX, hb, hsp, hF⟩ := F w mg fa _ Y G.T.g hmg
  exact law_callG KX G.T.g G.T.b G.T.builtins G.T.nolimit hg hobj hints (Nat.le_trans hlen hn2) hr hF hb (fun H hO hS => hsp H a ns hlen hO hS) fun H e s' => hCX H s1 e s'
end LC
/-! LcRepr: repr of lists and tuples of data, of dicts of plain values. -/
namespace LC
open PySem PySem.Spec PyProof.Rows L2
/-- what is plain: no object -/
def plainD : V → Option PyData
  | .non => some .none
  | .bl b => some (.bool b)
  | .int i => some (.int i)
  | .str x => some (.str x)
  | _ => none
def keyD : Key → PyData
  | .inl i => .int i
  | .inr x => .str x
/-- a dict's data -/
inductive KvD : List (Key × V) → List (PyData × PyData) → Prop
  | nil : KvD [] []
  | cons {k : Key} {v : V} {d : PyData} {kvs : List (Key × V)} {ds : List (PyData × PyData)} : plainD v = some d → KvD kvs ds → KvD ((k, v) :: kvs) ((keyD k, d) :: ds)
theorem reads_plain {h : Heap} {v : V} {d : PyData} {u : Value} (e : plainD v = some d) (r : RelV v u) : Reads h u d [] := by
  cases v with
  | non => cases e; cases r; exact .none
  | bl b => cases e; cases r; exact .bool b
  | int i => cases e; obtain ⟨t, rfl⟩ := r; exact .int i t
  | str x => cases e; obtain ⟨t, rfl⟩ := r; exact .str x t
  | byt b => cases e
  | flt b => cases e
  | ref a => cases e
  | ty n => cases e
theorem reads_key {h : Heap} {k : Key} {u : Value} (r : keyIs k u = true) : Reads h u (keyD k) [] := by
  rcases keyIs_shape r with ⟨i, t, rfl, rfl⟩ | ⟨x, t, rfl, rfl⟩
  · exact .int i t
  · exact .str x t
theorem reads_kv {P : Program} {w : World} {h : Heap} : ∀ {es : List DictEntry} {us : List (Key × Value)} {kvs : List (Key × V)} {ds : List (PyData × PyData)}, Pairs (mixKind P w) es us → KV kvs us → KvD kvs ds →
    ReadsAll h (es.map (·.key)) (ds.map (·.1)) [] ∧ ReadsAll h (es.map (·.val)) (ds.map (·.2)) []
  | _, _, _, _, .nil, .nil, .nil => ⟨.nil, .nil⟩
  | _, _, _, _, .cons hk hv r, .cons ⟨e1, e2⟩ r2, .cons hp r3 => by
    obtain ⟨a1, a2⟩ := reads_kv (h := h) r r2 r3
    refine ⟨ReadsAll.cons (as := []) (bs := []) (reads_key ?_) a1, ReadsAll.cons (as := []) (bs := []) (reads_plain hp ?_) a2⟩
    · have e0 : ‹Key› = _ := e1
      exact (congrArg (fun z => keyIs z _) e0).trans hk
    · exact (congrArg (fun z => L2.RelV _ z) hv).mpr e2
section
variable {X : Cx}
/-- repr of a list, a tuple -/
theorem call_reprD (hg : X.A.guards = some []) (hu : X.A.units + 64 < cLine) : CallR X (.builtin "repr") (fun xs H Q => ∃ a d, xs = [.ref a] ∧ Dp X.K H (.ref a) d ∧ d.canLay0 = true ∧ d.showable = true ∧ d.depth ≤ 60 ∧ d.shown.length ≤ sizeLine ∧ Q (.str d.shown) H) := by
  rintro pins s σ H xs us Q I r ⟨a, d, rfl, hd, hc, hs, hdp, hz, q⟩
  obtain ⟨u, rfl, ru⟩ := vals1 r
  obtain rfl : u = Value.ref a := ru
  obtain ⟨as, rd⟩ := Dp.reads I d _ _ hd (show L2.RelV (.ref a) (Value.ref a) from rfl)
  exact repr_of_reads' rd hs (PyData.noDict_hsm (PyData.hasDict_of_canLay d hc)) hg (by omega) (fun _ _ e => e) (fun h' t tk k => ⟨.str _, H, I.kept k, ⟨_, rfl⟩, q⟩) hz
/-- repr of a dict of plain values -/
theorem call_reprK (hg : X.A.guards = some []) (hu : X.A.units + 64 < cLine) : CallR X (.builtin "repr") (fun xs H Q => ∃ a kvs ds, xs = [.ref a] ∧ H a = some (.dK kvs) ∧ KvD kvs ds ∧ (PyData.dict ds).showable = true ∧ (PyData.dict ds).depth ≤ 60 ∧ (PyData.dict ds).shown.length ≤ sizeLine ∧ Q (.str (PyData.dict ds).shown) H) := by
  rintro pins s σ H xs us Q I r ⟨a, kvs, ds, rfl, hd, hk, hs, hdp, hz, q⟩
  obtain ⟨u, rfl, ru⟩ := vals1 r
  obtain rfl : u = Value.ref a := ru
  obtain ⟨_, hne, vs, kv, o, es, ep, ho, hx, hdat, _, hp, _⟩ := I.hok a _ hd
  obtain ⟨r1, r2⟩ := reads_kv (h := s.heap) hp kv hk
  have rd : Reads s.heap (.ref a) (.dict ds) (a :: [] ++ []) := .dict ho hx.1 hdat r1 r2
  refine repr_of_reads' rd hs (fun _ hm => ?_) hg (by omega) (fun _ _ e => e) (fun h' t tk k => ⟨.str _, H, I.kept k, ⟨_, rfl⟩, q⟩) hz
  simp at hm
  rw [hm] at hne
  simp at hne
end
end LC
/-! LcMeth: o.m(k = v, ..) without positional arguments. -/
namespace LC
open PySem PySem.Spec PyProof.Rows L2
def tMethKw (C : Addr) (m : Str) (n : Nat) (sp : Sp) (gV : List V → List V → List V) (E : XK) (ta : TE) (tk : TA) : TE := fun σ H Q => ta σ H fun x H1 => ∃ a dx fs, x = .ref a ∧ H1 a = some (.ins C dx fs) ∧ fs.lookup m = none ∧ tk σ H1 fun zs H2 => zs.length = n ∧ sp (gV [x] zs) H2 Q E
section
variable {X : Cx} {CX : CXT} {k : Nat} {f C : Addr} {fd : FuncData} {ps ks : List Str} {sp : Sp} {E : XK} {m : Str} {pos apos : Pos} {o : Expr} {kws : List Keyword} {ta : TE} {tk : TA} {g : List Value → List Value → List Value} {gV : List V → List V → List V}
theorem pe_methK0 {pl : Sem Bool} (he : PE X o ta) (c : Cls X.K C) (hm : Meth X.K C m f) (F : FnOk X.prog X.w X.K X.mg X.base CX k f fd ps sp) (hr : Room k X.A) (hb : KBn X.K fd ps 1 ks g gV) (hx : Passes CX X E) (hkw : PK X kws tk)
    (hall : (backToKw pos (keywordEach kws X.env)).all (·.1.isSome) = true := by rfl) (hks : (backToKw pos (keywordEach kws X.env)).filterMap (·.1) = ks := by rfl) (hpl : ((backTo pos (starEach [] X.env)).any (·.1) || (backToKw pos (keywordEach kws X.env)).any (·.1.isNone)) = false := by rfl)
    (ht : eval (.Call (.Attribute o m apos) [] kws pos) X.env = (do
      let z ← eval o X.env
      standAt apos.atName
      let (f, first) ← holding [z] (getMethod z m pl)
      callWith pos f first (backTo pos (starEach [] X.env)) (backToKw pos (keywordEach kws X.env))) := by rfl) : PE X (.Call (.Attribute o m apos) [] kws pos) (tMethKw C m ks.length sp gV E ta tk) := by
  constructor
  intro pins s σ H Q I h
  refine PySem.W.methodCall_KW (pl := pl) (thn (he.run pins s σ H _ I h) fun u s1 ⟨x, H1, I1, rx, a, dx, fs, ex, ea, l, q⟩ => ?_) ht
  subst ex
  obtain rfl : u = Value.ref a := rx
  refine getmeth_ok I1 ea c hm l ?_
  refine PySem.W.callWith_KW0 (first := [.ref a]) (h₀ := X.base) I.ok.mod.kin hm.kp hall ?_ hpl
  refine thn (hkw.run pos pins s1 σ H1 _ I1 q) fun ws s2 ⟨zs, H2, I2, rz, l2, q2⟩ => ⟨I2.kIn, ?_⟩
  rw [hks]
  exact run_fnN (us := [.ref a]) (vs := [.ref a]) F hr hb hx I2 (.cons rfl .nil) rz rfl l2 q2
end
end LC
/-! LcData: dicts of names and ints. -/
namespace LC
open PySem PySem.Spec PyProof.Rows L2
def intsK (ns : List Str) (val : Str → Int) : List (Key × V) := ns.map fun z => (.inr z, .int (val z))
def intsD (ns : List Str) (val : Str → Int) : List (PyData × PyData) := ns.map fun z => (.str z, .int (val z))
theorem kvd_ints (val : Str → Int) : ∀ ns : List Str, KvD (intsK ns val) (intsD ns val)
  | [] => .nil
  | z :: r => .cons (k := .inr z) rfl (kvd_ints val r)
theorem valV_ints {val : Str → Int} {z : Str} : ∀ {ns : List Str}, z ∈ ns → valV (intsK ns val) (Sum.inr z) = some (.int (val z))
  | [], h => nomatch h
  | y :: r, h => by
    by_cases e : y = z
    · subst e
      exact valV_pos rfl
    · have e2 := valV_neg (p := (Sum.inr y, V.int (val y))) (r := intsK r val) (k := (Sum.inr z : Key)) (fun q => e (Sum.inr.inj q))
      refine e2.trans (valV_ints ?_)
      rcases List.mem_cons.mp h with q | q
      · exact absurd q.symm e
      · exact q
theorem ints_any {val : Str → Int} {z : Str} : ∀ {ns : List Str}, ((intsK ns val).any fun kv => decide (kv.1 = (Sum.inr z : Key))) = decide (z ∈ ns)
  | [] => by simp [intsK]
  | y :: r => by
    have ih := ints_any (val := val) (z := z) (ns := r)
    unfold intsK at ih ⊢
    rw [List.map_cons, List.any_cons, ih]
    show (decide ((Sum.inr y : Key) = Sum.inr z) || decide (z ∈ r)) = decide (z ∈ y :: r)
    by_cases e : y = z
    · subst e
      simp
    · have e2 : ¬ ((Sum.inr y : Key) = Sum.inr z) := fun q => e (Sum.inr.inj q)
      rw [decide_eq_false e2, Bool.false_or]
      by_cases m : z ∈ r
      · rw [decide_eq_true m, decide_eq_true (List.mem_cons_of_mem _ m)]
      · rw [decide_eq_false m, decide_eq_false (fun q => (List.mem_cons.mp q).elim (fun z => e z.symm) m)]
def valPut (val : Str → Int) (z : Str) (i : Int) : Str → Int := fun x => if x = z then i else val x
theorem putK_ints {val : Str → Int} {ns : List Str} {z : Str} (i : Int) (h : z ∈ ns) : putK (intsK ns val) (Sum.inr z) (.int i) = intsK ns (valPut val z i) := by
  unfold putK
  rw [ints_any, decide_eq_true h, if_pos rfl]
  unfold intsK
  rw [List.map_map]
  apply List.map_congr_left
  intro x _
  show (if (Sum.inr x : Key) = Sum.inr z then ((Sum.inr x : Key), V.int i) else (Sum.inr x, V.int (val x))) = (Sum.inr x, V.int (valPut val z i x))
  unfold valPut
  by_cases e : x = z
  · subst e
    rw [if_pos rfl, if_pos rfl]
  · rw [if_neg (fun q => e (Sum.inr.inj q)), if_neg e]
theorem putK_snoc {val : Str → Int} {ns : List Str} {z : Str} (h : ¬ z ∈ ns) : putK (intsK ns val) (Sum.inr z) (.int (val z)) = intsK (ns ++ [z]) val := by
  unfold putK
  rw [ints_any, decide_eq_false h, if_neg Bool.false_ne_true]
  unfold intsK
  rw [List.map_append]
  rfl
theorem mergeK_go {val : Str → Int} : ∀ (ns acc : List Str), (acc ++ ns).Nodup → mergeK (intsK acc val) (intsK ns val) = intsK (acc ++ ns) val
  | [], acc, _ => by
    rw [List.append_nil]
    rfl
  | z :: r, acc, nd => by
    have hz : ¬ z ∈ acc := fun m => (List.nodup_append.mp nd).2.2 z m z (List.mem_cons_self ..) rfl
    show mergeK (putK (intsK acc val) (Sum.inr z) (.int (val z))) (intsK r val) = _
    have e : acc ++ z :: r = (acc ++ [z]) ++ r := by simp
    rw [putK_snoc hz, mergeK_go r (acc ++ [z]) (by rw [← e]; exact nd), e]
theorem mergeK_ints {val : Str → Int} {ns : List Str} (nd : ns.Nodup) : mergeK [] (intsK ns val) = intsK ns val := mergeK_go ns [] nd
theorem log2_small {i : Int} (h : i.natAbs < 2 ^ 250) : i.natAbs.log2 < 250 := by
  by_cases e : i.natAbs = 0
  · rw [e]
    decide
  · exact (Nat.log2_lt e).mpr h
theorem ints_showable {val : Str → Int} : ∀ {ns : List Str}, (∀ z ∈ ns, (val z).natAbs < 2 ^ 250) → PyData.showableKv (intsD ns val) = true
  | [], _ => rfl
  | z :: r, h => by
    have l := log2_small (h z (List.mem_cons_self ..))
    show (true && decide ((val z).natAbs.log2 < 1920) && PyData.showableKv (intsD r val)) = true
    rw [decide_eq_true (by omega : (val z).natAbs.log2 < 1920), ints_showable fun q hq => h q (List.mem_cons_of_mem _ hq)]
    rfl
theorem ints_depth {val : Str → Int} : ∀ {ns : List Str}, PyData.depthKv (intsD ns val) = 0
  | [] => rfl
  | z :: r => by
    show max (max 0 0) (PyData.depthKv (intsD r val)) = 0
    rw [ints_depth (ns := r)]
    rfl
theorem int_shown {i : Int} (h : i.natAbs < 2 ^ 250) : (PyData.shown (.int i)).length ≤ 300 := by
  have e := int_text_length_le (k := 250) (by decide) (log2_small h)
  show (Str.ofString (toString i)).length ≤ 300
  rw [PySem.ofString_length]
  omega
theorem name_short {z : Str} (h : nameB z = true) : PyData.leavesShort 300 (.str z) = true := by
  show (z.cps.toList.all fun c => decide (c < 16 ^ 8)) = true
  refine List.all_eq_true.mpr fun c hc => decide_eq_true ?_
  have q := name_chars h c hc
  have e : (16 : Nat) ^ 8 = 4294967296 := by decide
  omega
theorem ints_short {val : Str → Int} : ∀ {ns : List Str}, (∀ z ∈ ns, nameB z = true) → (∀ z ∈ ns, (val z).natAbs < 2 ^ 250) → PyData.leavesShortKv 300 (intsD ns val) = true
  | [], _, _ => rfl
  | z :: r, hn, h => by
    have l := int_shown (h z (List.mem_cons_self ..))
    show (PyData.leavesShort 300 (.str z) && decide ((PyData.shown (.int (val z))).length ≤ 300) && PyData.leavesShortKv 300 (intsD r val)) = true
    rw [name_short (hn z (List.mem_cons_self ..)), decide_eq_true l, ints_short (fun q hq => hn q (List.mem_cons_of_mem _ hq)) fun q hq => h q (List.mem_cons_of_mem _ hq)]
    rfl
theorem int_weight {i : Int} (h : i.natAbs < 2 ^ 250) : PyData.weight (.int i) ≤ 251 := by
  have l := log2_small h
  show (if (i == 0) = true then 0 else i.natAbs.log2 + 1) ≤ 251
  split <;> omega
theorem ints_weight {val : Str → Int} : ∀ {ns : List Str}, (∀ z ∈ ns, nameB z = true) → (∀ z ∈ ns, (val z).natAbs < 2 ^ 250) → PyData.weightKv (intsD ns val) ≤ 260 * ns.length
  | [], _, _ => Nat.le_refl _
  | z :: r, hn, h => by
    have l := int_weight (h z (List.mem_cons_self ..))
    have n6 : z.cps.size ≤ 6 := (name_len (hn z (List.mem_cons_self ..))).2
    have ih := ints_weight (fun q hq => hn q (List.mem_cons_of_mem _ hq)) fun q hq => h q (List.mem_cons_of_mem _ hq)
    show z.cps.size + PyData.weight (.int (val z)) + 2 + PyData.weightKv (intsD r val) ≤ 260 * (r.length + 1)
    omega
/-- a dict of few names and ints can be shown -/
theorem ints_shown {val : Str → Int} {ns : List Str} (hn : ∀ z ∈ ns, nameB z = true) (h : ∀ z ∈ ns, (val z).natAbs < 2 ^ 250) (hl : ns.length ≤ 10) : (PyData.dict (intsD ns val)).showable = true ∧ (PyData.dict (intsD ns val)).depth ≤ 60 ∧ (PyData.dict (intsD ns val)).shown.length ≤ sizeLine := by
  refine ⟨ints_showable h, ?_, ?_⟩
  · show PyData.depthKv (intsD ns val) + 1 ≤ 60
    rw [ints_depth]
    decide
  · have a := PyData.shown_le 300 (by decide) (.dict (intsD ns val)) (ints_short hn h)
    have b := ints_weight hn h
    have e : PyData.weight (.dict (intsD ns val)) = PyData.weightKv (intsD ns val) := rfl
    rw [e] at a
    rw [sizeLine_eq]
    have c : (300 + 2) * PyData.weightKv (intsD ns val) ≤ 302 * 2600 := Nat.mul_le_mul (by decide) (by omega)
    omega
theorem two_shown {i j : Int} (hi : i.natAbs < 2 ^ 250) (hj : j.natAbs < 2 ^ 250) : (PyData.list [.int i, .int j]).canLay0 = true ∧ (PyData.list [.int i, .int j]).showable = true ∧ (PyData.list [.int i, .int j]).depth ≤ 60 ∧ (PyData.list [.int i, .int j]).shown.length ≤ sizeLine := by
  refine ⟨rfl, ?_, by show 1 ≤ 60; decide, ?_⟩
  · have l := log2_small hi
    have l2 := log2_small hj
    show (decide (i.natAbs.log2 < 1920) && (decide (j.natAbs.log2 < 1920) && true)) = true
    rw [decide_eq_true (by omega : i.natAbs.log2 < 1920), decide_eq_true (by omega : j.natAbs.log2 < 1920)]
    rfl
  · have s : PyData.leavesShort 300 (.list [.int i, .int j]) = true := by
      show (decide ((PyData.shown (.int i)).length ≤ 300) && (decide ((PyData.shown (.int j)).length ≤ 300) && true)) = true
      rw [decide_eq_true (int_shown hi), decide_eq_true (int_shown hj)]
      rfl
    have a := PyData.shown_le 300 (by decide) _ s
    have e : PyData.weight (.list [.int i, .int j]) = PyData.weight (.int i) + 1 + (PyData.weight (.int j) + 1 + 0) := rfl
    have b1 := int_weight hi
    have b2 := int_weight hj
    rw [e] at a
    rw [sizeLine_eq]
    omega
end LC
namespace LC
open PySem PySem.Spec PyProof.Rows L2
/-- powers of the block's bound -/
def tenP (k : Nat) : Nat := (10 ^ 64) ^ k
theorem tenP_succ (k : Nat) : tenP (k + 1) = tenP k * 10 ^ 64 := Nat.pow_succ ..
theorem tenP_pos (k : Nat) : 1 ≤ tenP k := Nat.pow_pos (by decide)
theorem tenP_zero : tenP 0 = 1 := rfl
def z64 : Str := "0000000000000000000000000000000000000000000000000000000000000000"
theorem zf_zero : Txt.zfill (toString (0 : Int) : Str) 64 = z64 := by decide +kernel
def decW (neg : Bool) (k : Nat) : List Str := (if neg then [("-" : Str)] else []) ++ ("1" : Str) :: List.replicate k z64
/-- how an integer is written here -/
def decS (i : Int) : Str := if i.natAbs < 10 ^ 64 then (toString i : Str) else Txt.join "" (decW (decide (i < 0)) 118)
def DecOk (i : Int) : Prop := i.natAbs < 10 ^ 64 ∨ i.natAbs = tenP 118
theorem decS_small {i : Int} (h : i.natAbs < 10 ^ 64) : decS i = (toString i : Str) := if_pos h
theorem decS_great {i : Int} (h : i.natAbs = tenP 118) : decS i = Txt.join "" (decW (decide (i < 0)) 118) := if_neg (by
  rw [h]
  have : tenP 118 = tenP 117 * 10 ^ 64 := tenP_succ 117
  rw [this]
  have := tenP_pos 117
  exact Nat.not_lt.mpr (Nat.le_mul_of_pos_left _ this))
def spDecimal : Sp := fun vs H Q _ => ∃ i : Int, vs = [.int i] ∧ DecOk i ∧ ∀ H', Same H H' → Q (.str (decS i)) H'
theorem log2_64 {i : Int} (h : i.natAbs < 10 ^ 64) : i.natAbs.log2 < 1920 := by
  have := log2_small (i := i) (Nat.lt_of_lt_of_le h (by decide))
  omega
theorem decS_len {i : Int} (h : DecOk i) : (decS i).length ≤ 8000 := by
  rcases h with h | h
  · rw [decS_small h]
    have e := int_text_length_le (k := 250) (by decide) (log2_small (i := i) (Nat.lt_of_lt_of_le h (by decide)))
    show (Str.ofString (toString i)).length ≤ 8000
    rw [PySem.ofString_length]
    omega
  · rw [decS_great h]
    have d := StrLaws.join_length_le "" (decW (decide (i < 0)) 118)
    rw [← StrLaws.glued_eq_join] at d
    refine Nat.le_trans d ?_
    generalize decide (i < 0) = b
    cases b <;> decide +kernel
theorem divp64 (n : Int) : Builtin.divisionGoesByPylong n (10 ^ 64) = false := by
  have e : decide ((if ((10 : Int) ^ 64 == 0) = true then 0 else ((10 : Int) ^ 64).natAbs.log2 / 30 + 1) > 300) = false := by decide +kernel
  unfold Builtin.divisionGoesByPylong
  dsimp only
  rw [e, Bool.false_and]
section
variable {P : Program} {w : World} {K : PySem.W.Frag} {mg : Str → Option Value} {base : Heap}
abbrev s_decimal : Stmt := topS 15
theorem sc_decimal : FnScope ["number", "left", "blocks", "low"] ["number"] (defScope s_decimal) := ⟨rfl, rfl, rfl, by decide +kernel, rfl, by decide +kernel, by decide +kernel⟩
theorem ok_decimal {f : Addr} {fd : FuncData} (T : Txt mg) (F : FnP K "decimal" s_decimal f fd) : FnOk P w K mg base CX0 1 f fd ["number"] spDecimal := by
  have sc := sc_decimal
  refine F.ok sc (fun vs H Q E h => ?_) (fun cdv A outer s H vs Q E hr h => ?_)
  · obtain ⟨i, rfl, _⟩ := h
    rfl
  · obtain ⟨i, rfl, ok, q⟩ := h
    refine ⟨_, PSs.nox (Evl.pss_cut (ps_if (pt_chain op_lt op_lt (pe_un un_neg (pe_gint T.g_BLOCK)) (pv 0) (pe_gint T.g_BLOCK))
  (pss_one (ps_ret (pe_callTy call_str_int (by rfl) T.n_str (by decide +kernel) (pa_cons (pv 0) pa_nil))))
  pss_nil)
(pss_cons (ps_set (i := 1) sc.nd rfl (.inl rfl) (pe_callB call_abs (by rfl) T.n_abs (by decide +kernel) (pa_cons (pv 0) pa_nil)))
(pss_cons (ps_set (i := 2) sc.nd rfl (.inl rfl) (pe_lst pa_nil))
(Evl.pss_cut (ps_while PassesOwn.never (pt_cmpR op_ge (pv 1) (pe_gint T.g_BLOCK) (nomark _))
  (pss_cons (ps_asg (pe_callB call_divmodW (by rfl) T.n_divmod (by decide +kernel) (pa_cons (pv 1) (pa_cons (pe_gint T.g_BLOCK) pa_nil))) (pg_tup rfl (pgs_cons (pg_name (i := 1) sc.nd rfl (.inl rfl)) (pgs_cons (pg_name (i := 3) sc.nd rfl (.inl rfl)) pgs_nil))))
  (pss_one (ps_expr (pe_bm PySem.F.plainAttrs_list PySem.F.slot_list_append PySem.F.type_list_append mt_append (pv 2) (pa_cons (pe_bm PySem.F.plainAttrs_str PySem.F.slot_str_zfill PySem.F.type_str_zfill mt_zfill (pe_callTy call_str_int (by rfl) T.n_str (by decide +kernel) (pa_cons (pv 3) pa_nil)) (pa_cons (pe_gint T.g_BLOCK_DIGITS) pa_nil)) pa_nil))))))
(pss_cons (ps_expr (pe_bm PySem.F.plainAttrs_list PySem.F.slot_list_append PySem.F.type_list_append mt_append (pv 2) (pa_cons (pe_callTy call_str_int (by rfl) T.n_str (by decide +kernel) (pa_cons (pv 1) pa_nil)) pa_nil)))
(Evl.pss_cut (ps_if (pt_cmpR op_lt (pv 0) pe_int (nomark _))
  (pss_one (ps_expr (pe_bm PySem.F.plainAttrs_list PySem.F.slot_list_append PySem.F.type_list_append mt_append (pv 2) (pa_cons pe_str pa_nil))))
  pss_nil)
(pss_one (ps_ret (pe_bm PySem.F.plainAttrs_str PySem.F.slot_str_join PySem.F.type_str_join mt_join pe_str (pa_cons (pe_revL (pv 2)) pa_nil)))))))))), ?_⟩
    -- the first look
    refine ⟨fun σ' H' => H = H' ∧ i.natAbs = tenP 118 ∧ σ' = [some (.int i), none, none, none], ?_, ?_⟩
    · by_cases h : i.natAbs < 10 ^ 64
      · refine ⟨10 ^ 64, rfl, .int i, rfl, _, _, rfl, rfl, true, ?_, iteT ?_⟩
        · show V.bl (decide (-(10 : Int) ^ 64 < i)) = .bl true
          rw [decide_eq_true (by omega)]
        · refine ⟨_, _, rfl, rfl, true, ?_, iteT ?_⟩
          · show V.bl (decide (i < (10 : Int) ^ 64)) = .bl true
            rw [decide_eq_true (by omega)]
          · refine ⟨.int i, rfl, i, rfl, log2_64 h, ?_⟩
            rw [← decS_small h]
            exact q H (Same.refl H)
      · have hg : i.natAbs = tenP 118 := ok.resolve_left h
        have hb : 10 ^ 64 ≤ tenP 118 := by omega
        by_cases e : -(10 : Int) ^ 64 < i
        · refine ⟨10 ^ 64, rfl, .int i, rfl, _, _, rfl, rfl, true, ?_, iteT ?_⟩
          · show V.bl (decide (-(10 : Int) ^ 64 < i)) = .bl true
            rw [decide_eq_true e]
          · refine ⟨_, _, rfl, rfl, false, ?_, iteF ?_⟩
            · show V.bl (decide (i < (10 : Int) ^ 64)) = .bl false
              rw [decide_eq_false (by omega)]
            · exact ⟨rfl, hg, rfl⟩
        · refine ⟨10 ^ 64, rfl, .int i, rfl, _, _, rfl, rfl, false, ?_, iteF ?_⟩
          · show V.bl (decide (-(10 : Int) ^ 64 < i)) = .bl false
            rw [decide_eq_false e]
          · exact ⟨_, rfl, iteF ⟨rfl, hg, rfl⟩⟩
    · rintro σ' Hz ⟨eH, hg, rfl⟩
      subst eH
      refine ⟨.int i, rfl, i, rfl, szn 0, fun b nb => ?_⟩
      generalize hH1 : upd H b _ = H1
      obtain ⟨s1, e1⟩ := alloc_eq nb hH1
      have ab : (if i < 0 then -i else i) = ((tenP 118 : Nat) : Int) := by
        split <;> omega
      rw [ab]
      refine ⟨fun σ' H' => Same H H' ∧ H' b = some (.lst ((List.replicate 118 z64).map V.str)) ∧ ∃ o3 : Option V, σ' = [some (.int i), some (.int 1), some (.ref b), o3], ?_, ?_⟩
      · refine ⟨fun k σ' H' => k ≤ 118 ∧ Same H H' ∧ H' b = some (.lst ((List.replicate (118 - k) z64).map V.str)) ∧ ∃ o3 : Option V, σ' = [some (.int i), some (.int (tenP k : Nat)), some (.ref b), o3], ⟨118, Nat.le_refl _, s1, e1, none, rfl⟩, ?_⟩
        rintro k σ' H' ⟨hk, sm, hb', o3, rfl⟩
        cases k with
        | zero =>
          refine ⟨_, rfl, _, _, rfl, rfl, _, rfl, iteD (fun e => ?_) (fun e => ?_)⟩
          · rw [tenP_zero] at e
            exact absurd e (by decide)
          · exact ⟨sm, hb', o3, rfl⟩
        | succ k =>
          have tp := tenP_pos k
          have ts := tenP_succ k
          refine ⟨_, rfl, _, _, rfl, rfl, _, rfl, iteD (fun e => ?_) (fun e => absurd (by rw [ts]; omega) e)⟩
          refine ⟨fun σ' H'' => k ≤ 118 ∧ Same H H'' ∧ H'' b = some (.lst ((List.replicate (118 - k) z64).map V.str)) ∧ ∃ o3 : Option V, σ' = [some (.int i), some (.int (tenP k : Nat)), some (.ref b), o3], fun σ' H'' z => ⟨k, Nat.lt_succ_self k, z⟩, ?_⟩
          refine ⟨_, rfl, _, _, rfl, ⟨by decide, divp64 _⟩, fun t nt => ?_⟩
          have dv : ((tenP (k + 1) : Nat) : Int) / 10 ^ 64 = ((tenP k : Nat) : Int) := by
            rw [ts]
            omega
          have md : ((tenP (k + 1) : Nat) : Int) % 10 ^ 64 = 0 := by
            rw [ts]
            omega
          rw [dv, md]
          generalize hHt : upd H' t _ = Ht
          obtain ⟨st, et⟩ := alloc_eq nt hHt
          have hbt := st _ _ hb'
          refine ⟨t, _, rfl, .of et, rfl, _, _, rfl, _, _, rfl, rfl, ?_⟩
          refine ⟨_, rfl, .inl ⟨rfl, _, .inl (.inl hbt)⟩, .int 0, rfl, 0, rfl, by decide, ?_⟩
          refine ⟨rfl, _, _, rfl, rfl, by decide, ?_⟩
          rw [zf_zero]
          have ln : ((List.replicate (118 - (k + 1)) z64).map V.str).length ≤ 1000 := by
            rw [List.length_map, List.length_replicate]
            omega
          refine ⟨b, _, _, rfl, rfl, hbt, sz_lt (by omega), ?_⟩
          refine ⟨by omega, fun a o e => ?_, ?_, _, rfl⟩
          · rw [upd_ne (ne_of_none e nb)]
            exact st _ _ (sm a o e)
          · rw [upd_same, show 118 - k = 118 - (k + 1) + 1 by omega, List.replicate_succ', List.map_append]
            rfl
      · rintro σ' H' ⟨sm, hb', o3, rfl⟩
        refine ⟨_, rfl, .inl ⟨rfl, _, .inl (.inl hb')⟩, .int 1, rfl, 1, rfl, by decide, ?_⟩
        have ln : ((List.replicate 118 z64).map V.str).length = 118 := by rw [List.length_map, List.length_replicate]
        refine ⟨b, _, _, rfl, rfl, hb', sz_lt (by rw [ln]; decide), ?_⟩
        generalize hH2 : upd H' b _ = H2
        have s2 : Same H H2 := fun a o e => by
          rw [← hH2, upd_ne (ne_of_none e nb)]
          exact sm a o e
        have e2 : H2 b = some (.lst ((List.replicate 118 z64 ++ [("1" : Str)]).map V.str)) := by
          rw [← hH2, upd_same, List.map_append]
          rfl
        refine ⟨fun σ' H3 => Same H H3 ∧ H3 b = some (.lst ((decW (decide (i < 0)) 118).reverse.map V.str)) ∧ ∃ o3 : Option V, σ' = [some (.int i), some (.int 1), some (.ref b), o3], ?_, ?_⟩
        · refine ⟨.int i, rfl, _, _, rfl, rfl, _, rfl, iteD (fun e => ?_) (fun e => ?_)⟩
          · have rv : decW (decide (i < 0)) 118 = ("-" : Str) :: ("1" : Str) :: List.replicate 118 z64 := by
              rw [decide_eq_true e]
              rfl
            refine ⟨_, rfl, .inl ⟨rfl, _, .inl (.inl e2)⟩, b, _, _, rfl, rfl, e2, ?_, ?_⟩
            · exact sz_lt (by rw [List.length_map, List.length_append, List.length_replicate]; decide)
            · refine ⟨fun a o e => ?_, ?_, _, rfl⟩
              · rw [upd_ne (ne_of_none e nb)]
                exact s2 a o e
              · rw [upd_same, rv, List.reverse_cons, List.reverse_cons, List.reverse_replicate, List.map_append]
                rfl
          · have rv : decW (decide (i < 0)) 118 = ("1" : Str) :: List.replicate 118 z64 := by
              rw [decide_eq_false e]
              rfl
            refine ⟨s2, ?_, _, rfl⟩
            rw [e2, rv, List.reverse_cons, List.reverse_replicate]
        · rintro σ' H3 ⟨s3, e3, o3, rfl⟩
          refine ⟨rfl, .ref b, rfl, b, _, rfl, .of e3, fun r nr => ?_⟩
          generalize hH4 : upd H3 r _ = H4
          obtain ⟨s4, e4⟩ := alloc_eq nr hH4
          refine ⟨"", r, decW (decide (i < 0)) 118, rfl, rfl, .inl (.of ?_), ?_, ?_⟩
          · rw [e4, ← List.map_reverse, List.reverse_reverse]
          · generalize decide (i < 0) = b
            cases b <;> decide +kernel
          · rw [← decS_great hg]
            exact q H4 (s3.trans s4)
end
end LC
namespace LC
open PySem PySem.Spec PyProof.Rows L2
def rowW (ns : List Int) (N : Nat) (q : Int) : List Str := (ns.take N).map decS ++ ("|" : Str) :: ((ns.drop N).map decS ++ [("+" : Str), decS q])
def spRowWords (K : PySem.W.Frag) : Sp := fun vs H Q _ => ∃ (v : V) (ns : List Int) (N : Nat) (q : Int), vs = [v, .int N, .int q] ∧ SeqOf K H v (ns.map V.int) ∧ ns.length ≤ 2100 ∧ (∀ n ∈ ns, DecOk n) ∧ DecOk q ∧
  ∀ (l : Addr) (H' : Hp), H l = none → Same H H' → H' l = some (.lst ((rowW ns N q).map V.str)) → Q (.ref l) H'
section
variable {P : Program} {w : World} {K : PySem.W.Frag} {mg : Str → Option Value} {base : Heap}
abbrev s_row_words : Stmt := topS 21
theorem sc_row_words : FnScope ["numbers", "start", "step", "words", "number"] ["numbers", "start", "step"] (defScope s_row_words) := ⟨rfl, rfl, rfl, by decide +kernel, rfl, by decide +kernel, by decide +kernel⟩
theorem ok_row_words {f : Addr} {fd : FuncData} (T : Txt mg) (F : FnP K "row_words" s_row_words f fd) (c_decimal : Cal P w K mg base CX0 1 "decimal" ["number"] spDecimal) : FnOk P w K mg base CX0 2 f fd ["numbers", "start", "step"] (spRowWords K) := by
  have sc := sc_row_words
  refine F.ok sc (fun vs H Q E h => ?_) (fun cdv A outer s H vs Q E hr h => ?_)
  · obtain ⟨v, ns, N, q, rfl, _⟩ := h
    rfl
  · obtain ⟨v, ns, N, qs, rfl, sq, hl, hd, hq, q⟩ := h
    refine ⟨_, PSs.nox (pss_cons (ps_setLc (i := 3) (own := [("number", 4)]) (g := (gName 4)) (te := (tCal spDecimal E0 (tCons (tVar 4) tNil))) (tt := tYes) rfl sc.nd rfl rfl (by rfl) (pi_or (pi_list (pv 0)) (pi_tup (pv 0))) (blkOk_by (N := ["numbers", "start", "step", "words", "number"]) (sc := defScope s_row_words) (by decide +kernel)) (fun _ _ _ _ _ => by exact (pg_name (i := 4) sc.nd rfl (.inl rfl))) (fun _ _ _ _ _ => by exact pts_nil) (fun _ _ _ _ _ => by exact (pe_cal c_decimal hr (by rfl) pass0 (pa_cons (pv 4) pa_nil))))
(pss_one (ps_ret (pe_lst (StX.pa_star (pe_slice sl_list (pv 3) po_none (po_some (pv 1))) (pa_cons pe_str (StX.pa_star (pe_slice sl_list (pv 3) (po_some (pv 1)) po_none) (pa_cons pe_str (pa_cons (pe_cal c_decimal hr (by rfl) pass0 (pa_cons (pv 2) pa_nil)) pa_nil))))))))), ?_⟩
    unfold tSeq tAsg
    refine lc_seq (i := 0) (σ := [some v, some (.int N), some (.int qs), none, none]) rfl sq (fun D j H' => Same H H' ∧ H' D = some (.lst (((ns.take j).map decS).map V.str))) (fun D nD => ⟨same_new nD, upd_same⟩) (fun D nD j H' h => h.1) ?_ ?_
    · rintro D nD j x H' hj ⟨sm, hD⟩
      rw [List.getElem?_map] at hj
      obtain ⟨k, hk, rfl⟩ := Option.map_eq_some_iff.mp hj
      have jl := (List.getElem?_eq_some_iff.mp hk).1
      refine ⟨rfl, tyes_of ?_⟩
      refine ⟨.int k, rfl, k, rfl, hd k (List.mem_of_getElem? hk), fun H2 s2 => ⟨_, s2 _ _ hD, ?_, fun b o e => ?_, ?_⟩⟩
      · rw [List.length_map, List.length_map, List.length_take]
        exact sz_lt (by omega)
      · rw [upd_ne (ne_of_none e nD)]
        exact s2 _ _ (sm b o e)
      · rw [upd_same, take_next hk, List.map_append, List.map_append]
        rfl
    · rintro D nD H' ⟨sm, hD⟩
      rw [List.length_map, List.take_length] at hD
      refine ⟨.ref D, rfl, .int N, rfl, N, rfl, D, _, rfl, .of hD, fun a na => ?_⟩
      rw [cut_to, ← List.map_take, ← List.map_take]
      generalize hHa : upd H' a _ = Ha
      obtain ⟨sa, ea⟩ := alloc_eq na hHa
      refine ⟨a, _, rfl, .inr (.of ea), .ref D, rfl, .int N, rfl, N, rfl, D, _, rfl, .of (sa _ _ hD), fun b nb => ?_⟩
      rw [cut_from, ← List.map_drop, ← List.map_drop]
      generalize hHb : upd Ha b _ = Hb
      obtain ⟨sb, eb⟩ := alloc_eq nb hHb
      refine ⟨b, _, rfl, .inr (.of eb), .int qs, rfl, qs, rfl, hq, fun H2 s2 => ⟨?_, fun l nl => ?_⟩⟩
      · refine sz_le ?_
        simp only [List.length_append, List.length_cons, List.length_map, List.length_take, List.length_drop, List.length_nil]
        omega
      · generalize hH3 : upd H2 l _ = H3
        obtain ⟨s3, e3⟩ := alloc_eq nl hH3
        have s02 := (sm.trans sa).trans (sb.trans s2)
        refine q l H3 (s02.free nl) (s02.trans s3) ?_
        rw [e3]
        unfold rowW
        simp only [List.map_append, List.map_cons, List.map_nil, List.map_take, List.map_drop]
end
end LC
namespace LC
open PySem PySem.Spec PyProof.Rows L2
/-- what Row(..) of right arguments comes to -/
def RowEnd (K : PySem.W.Frag) (C CM : Addr) (ns : List Int) (p : Nat) (q : Int) (ok : Nat → Nat → Prop) (E : XK) (H : Hp) : Prop := ∀ N d, Can (tellAt ns p q) N d → N + d ≤ ns.length →
  (N + d ≤ 2000 → ok N d) ∧ (2000 < N + d → ∀ cls dd H', Same H H' → BadF CM "most" (.int 2000) cls dd H' → E cls dd H')
def spRowInit (K : PySem.W.Frag) (C CB CM : Addr) : Sp := fun vs H Q E => ∃ (x dx : Addr) (a b c : V) (o : Except V (List Int × Nat × Int)), vs = [.ref x, a, b, c] ∧ H x = some (.ins C dx []) ∧ RowArg K H a b c o ∧
  match o with
  | .ok (ns, p, q) => RowEnd K C CM ns p q (fun N d => ∀ H', But x H H' → RowAt K C H' x (tellAt ns p q) N d → Q .non H') E H
  | .error v => ∀ cls d H', Same H H' → BadF CB "value" v cls d H' → E cls d H'
section
variable {P : Program} {w : World} {K : PySem.W.Frag} {mg : Str → Option Value} {base : Heap}
abbrev s_Row_init : Stmt := inClass (topS 22) 0
theorem sc_Row_init : FnScope ["self", "numbers", "period", "step", "told", "rises", "many", "start", "at"] ["self", "numbers", "period", "step"] (defScope s_Row_init) := ⟨rfl, rfl, rfl, by decide +kernel, rfl, by decide +kernel, by decide +kernel⟩
theorem ok_row_init {f C CB CM fM : Addr} {fd fdM : FuncData} (T : Txt mg) (S : RowTxt K mg C) (EM : ErrC P w K mg base "TooMany" "most" CM fM fdM) (F : FunD K "__init__" "Row.__init__" (defArgs s_Row_init) (defBody s_Row_init) (defScope s_Row_init) [] [] f fd)
    (c_check_row : Cal P w K mg base (L2.CX P w) 3 "check_row" ["numbers", "period", "step"] (spCheckRow K CB)) (c_least_period : Cal P w K mg base CX0 3 "least_period" ["rises"] (spLeastPeriod K)) (c_least_start : Cal P w K mg base CX0 3 "least_start" ["rises", "period", "start"] (spLeastStart K)) :
    FnOk P w K mg base (L2.CX P w) 4 f fd ["self", "numbers", "period", "step"] (spRowInit K C CB CM) := by
  have sc := sc_Row_init
  refine F.ok sc (fun vs H Q E h => ?_) (fun cdv A outer s H vs Q E hr h => ?_)
  · obtain ⟨x, dx, a, b, c, o, rfl, _⟩ := h
    rfl
  · obtain ⟨x, dx, a, b, c, o, rfl, hx, arg, q⟩ := h
    refine ⟨_, (Evl.pss_cut (ps_expr (pe_cal c_check_row hr (by rfl) (passes_call (takes_of rfl rfl rfl rfl) fun _ _ _ _ h => h) (pa_cons (pv 1) (pa_cons (pv 2) (pa_cons (pv 3) pa_nil)))))
(Evl.pss_cut (ps_set (i := 4) sc.nd rfl (.inr rfl) (pe_lst (StX.pa_star (pv 1) (pa_cons (pe_op op_add (pe_ix (IxR.or ix_list ix_tup) (pv 1) (pe_op op_sub (pe_callB call_len (by rfl) T.n_len (by decide +kernel) (pa_cons (pv 1) pa_nil)) (pv 2)) (fun _ _ => rfl)) (pv 3)) pa_nil))))
(pss_cons (ps_setLc (i := 5) (own := [("at", 8)]) (g := (gName 8)) (te := (tOp (rI0 fun i j => .int (i - j)) (tOp (rIxL K) (tVar 4) (tOp (rI0 fun i j => .int (i + j)) (tVar 8) (tC (.int 1)))) (tOp (rIxL K) (tVar 4) (tVar 8)))) (tt := tYes) rfl sc.nd rfl rfl (by rfl) (pi_range1 rfl T.n_range (pa_cons (pe_callB call_len (by rfl) T.n_len (by decide +kernel) (pa_cons (pv 1) pa_nil)) pa_nil)) (blkOk_by (N := ["self", "numbers", "period", "step", "told", "rises", "many", "start", "at"]) (sc := defScope s_Row_init) (by decide +kernel)) (fun _ _ _ _ _ => by exact (pg_name (i := 8) sc.nd rfl (.inl rfl))) (fun _ _ _ _ _ => by exact pts_nil) (fun _ _ _ _ _ => by exact (pe_op op_sub (pe_ix ix_list (pv 4) (pe_op op_add (pv 8) pe_int) (fun _ _ => rfl)) (pe_ix ix_list (pv 4) (pv 8) (fun _ _ => rfl)))))
(pss_cons (ps_set (i := 6) sc.nd rfl (.inl rfl) (pe_cal c_least_period hr (by rfl) pass0 (pa_cons (pe_slice sl_list (pv 5) (po_some (pe_op op_sub (pe_callB call_len (by rfl) T.n_len (by decide +kernel) (pa_cons (pv 1) pa_nil)) (pv 2))) po_none) pa_nil)))
(pss_cons (ps_set (i := 7) sc.nd rfl (.inl rfl) (pe_cal c_least_start hr (by rfl) pass0 (pa_cons (pv 5) (pa_cons (pv 6) (pa_cons (pe_op op_sub (pe_callB call_len (by rfl) T.n_len (by decide +kernel) (pa_cons (pv 1) pa_nil)) (pv 2)) pa_nil)))))
(pss_cons (ps_if (pt_cmpR op_gt (pe_op op_add (pv 7) (pv 6)) (pe_gint T.g_MOST_NUMBERS) (nomark _))
  (pss_one (ps_err EM rfl hr (by decide) (takes_of rfl rfl rfl rfl) (pa_cons (pe_gint T.g_MOST_NUMBERS) pa_nil)))
  pss_nil)
(pss_cons (ps_fld (pv 0) (pv 7) rfl)
(pss_cons (ps_fld (pv 0) (pv 6) rfl)
(pss_cons (ps_fld (pv 0) (pe_op op_sub (pe_ix ix_list (pv 4) (pe_op op_add (pv 7) (pv 6)) (fun _ _ => rfl)) (pe_ix ix_list (pv 4) (pv 7) (fun _ _ => rfl))) rfl)
(pss_one (ps_fld (pv 0) (pe_callTy call_tuple_of (by rfl) T.n_tuple (by decide +kernel) (pa_cons (pe_slice sl_list (pv 4) po_none (po_some (pe_op op_add (pv 7) (pv 6)))) pa_nil)) rfl))))))))))), ?_⟩
    refine ⟨fun σ' H' => Same H H' ∧ ∃ (ns : List Int) (p : Nat) (st : Int), o = .ok (ns, p, st) ∧ RowArg K H a b c (.ok (ns, p, st)) ∧ σ' = [some (.ref x), some a, some (.int p), some (.int st), none, none, none, none, none], ?_, ?_⟩
    · refine ⟨a, rfl, b, rfl, c, rfl, a, b, c, o, rfl, arg, ?_⟩
      cases o with
      | error v => exact q
      | ok r =>
        obtain ⟨ns, p, st⟩ := r
        intro H' sm
        have arg' := arg
        cases arg with
        | ok sq l5 ey p1 p2 ez =>
          subst ey ez
          exact ⟨sm, ns, p, st, rfl, arg', rfl⟩
    rintro σ' H1 ⟨s1, ns, p, st, rfl, arg1, rfl⟩
    cases arg1 with
    | ok sq0 l5 ey p1 p2 ez =>
    clear ey ez
    have sq := sq0.same s1
    -- told
    refine ⟨fun σ' H' => Same H H' ∧ ∃ l : Addr, H l = none ∧ H' l = some (.lst ((moreT ns p st).map V.int)) ∧ σ' = [some (.ref x), some a, some (.int p), some (.int st), some (.ref l), none, none, none, none], ?_, ?_⟩
    · obtain ⟨y, hy⟩ : ∃ y, ns[ns.length - p]? = some y := ⟨_, List.getElem?_eq_getElem (by omega)⟩
      have le := sq.len
      obtain ⟨a0, rfl, sq⟩ := sq
      have ix : ((ns.map V.int).length : Int) - (p : Int) = ((ns.length - p : Nat) : Int) := by
        rw [List.length_map]
        omega
      have mo : ns.map V.int ++ [V.int (y + st)] = (moreT ns p st).map V.int := by
        unfold moreT
        rw [List.getD_eq_getElem?_getD, hy, List.map_append]
        rfl
      have fin : ∀ {R : V → Hp → Prop}, True := fun {_} => trivial
      refine ⟨.ref a0, rfl, a0, _, rfl, sq.symm, .ref a0, rfl, .ref a0, rfl, .ref a0, _, rfl, le, .int p, rfl, _, _, rfl, rfl, ?_⟩
      have cont : ∀ (l : Addr), H1 l = none → Same H (upd H1 l (.lst (ns.map V.int ++ [V.int (y + st)]))) ∧ ∃ l2 : Addr, H l2 = none ∧ (upd H1 l (.lst (ns.map V.int ++ [V.int (y + st)]))) l2 = some (.lst ((moreT ns p st).map V.int)) ∧ [some (V.ref x), some (.ref a0), some (.int p), some (.int st), some (.ref l), none, none, none, none] = [some (V.ref x), some (.ref a0), some (.int p), some (.int st), some (.ref l2), none, none, none, none] := fun l nl => ⟨s1.trans (same_new nl), l, s1.free nl, by rw [upd_same, mo], rfl⟩
      have szo : (ns.map V.int ++ [V.int (y + st)]).length ≤ sizeLine := sz_le (by rw [List.length_append, List.length_map]; show ns.length + 1 ≤ 100000; omega)
      rcases sq with sq | sq
      · refine .inl ⟨a0, _, _, .int y, rfl, rfl, sq, ?_, .int st, rfl, _, _, rfl, rfl, szo, fun l nl => cont l nl⟩
        show atI (ns.map V.int) (((ns.map V.int).length : Int) - (p : Int)) = _
        rw [ix]
        exact ints_at hy
      · refine .inr ⟨a0, _, _, .int y, rfl, rfl, sq, ?_, .int st, rfl, _, _, rfl, rfl, szo, fun l nl => cont l nl⟩
        show atI (ns.map V.int) (((ns.map V.int).length : Int) - (p : Int)) = _
        rw [ix]
        exact ints_at hy
    rintro σ' H2 ⟨s2, l, nl, el, rfl⟩
    clear sq
    have sq := sq0.same s2
    have le := sq.len
    have hx2 := s2 _ _ hx
    have x1 : l ≠ x := new_ne hx nl
    -- rises
    refine ⟨a, rfl, a, _, rfl, le, _, rfl, ?_, ?_, fun D nD => ?_⟩
    · rw [List.length_map]
      omega
    · rw [List.length_map]
      omega
    rw [List.length_map]
    have nD0 : H D = none := s2.free nD
    have Dl : D ≠ l := new_ne el nD
    refine lc_range (lo := 0) (n := ns.length) (fun i H' => Same H H' ∧ H' D = some (.lst (((risesT ns p st).take i).map V.int)) ∧ H' l = some (.lst ((moreT ns p st).map V.int))) ⟨s2.trans (same_new nD), upd_same, by rw [upd_ne Dl.symm]; exact el⟩ ?_ ?_
    · rintro i H' hi ⟨sm, hD, hl⟩
      refine ⟨rfl, tyes_of ?_⟩
      have m1 := moreT_at (step := st) p1 p2 (n := i + 1) (by omega)
      have m0 := moreT_at (step := st) p1 p2 (n := i) (by omega)
      have e0 : (0 : Int) + (i : Int) = ((i : Nat) : Int) := by omega
      have e1 : (0 : Int) + (i : Int) + 1 = ((i + 1 : Nat) : Int) := by omega
      have a1 : atI ((moreT ns p st).map V.int) (0 + (i : Int) + 1) = some (.int (tellAt ns p st (i + 1))) := by
        rw [e1]
        exact ints_at m1
      have a0 : atI ((moreT ns p st).map V.int) (0 + (i : Int)) = some (.int (tellAt ns p st i)) := by
        rw [e0]
        exact ints_at m0
      refine ⟨.ref l, rfl, .int (0 + (i : Int)), rfl, _, _, rfl, rfl, l, _, _, .int (tellAt ns p st (i + 1)), rfl, rfl, .of hl, a1, .ref l, rfl, .int (0 + (i : Int)), rfl, l, _, _, .int (tellAt ns p st i), rfl, rfl, .of hl, a0, _, _, rfl, rfl, _, hD, ?_, fun b o e => ?_, ?_, ?_⟩
      · rw [List.length_map, List.length_take]
        exact sz_lt (by omega)
      · rw [upd_ne (ne_of_none e nD0)]
        exact sm b o e
      · rw [upd_same, take_next (risesT_at hi), List.map_append]
        rfl
      · rw [upd_ne Dl.symm]
        exact hl
    rintro H3 ⟨s3, hD, hl⟩
    rw [List.take_of_length_le (by rw [risesT_len]; exact Nat.le_refl _)] at hD
    have le3 := (sq0.same s3).len
    have ix : ((ns.map V.int).length : Int) - (p : Int) = ((ns.length - p : Nat) : Int) := by
      rw [List.length_map]
      omega
    -- many
    refine ⟨.ref D, rfl, a, rfl, a, _, rfl, le3, .int p, rfl, _, _, rfl, rfl, _, rfl, D, _, rfl, .of hD, fun u nu => ?_⟩
    rw [ix, cut_from, ← List.map_drop]
    generalize hHu : upd H3 u _ = Hu
    obtain ⟨su, eu⟩ := alloc_eq nu hHu
    have tl := tail_len (step := st) p2
    refine ⟨u, _, rfl, .of eu, by rw [tl]; exact p1, by rw [tl]; omega, fun d H4 hd s4 => ?_⟩
    have dv := hd.dv
    rw [tl] at dv
    have dp : d ≤ p := Nat.le_of_dvd (by omega) dv
    have s34 := su.trans s4
    have sH4 := s3.trans s34
    have le4 := (sq0.same sH4).len
    -- start
    refine ⟨.ref D, rfl, .int d, rfl, a, rfl, a, _, rfl, le4, .int p, rfl, _, _, rfl, rfl, D, risesT ns p st, d, ns.length - p, ?_, .of (s34 _ _ hD), by rw [risesT_len]; omega, hd.pos, fun N hN => ?_⟩
    · show [V.ref D, V.int d, V.int (((ns.map V.int).length : Int) - (p : Int))] = _
      rw [ix]
    obtain ⟨cn, hle⟩ := row_can p1 p2 hd hN
    have q2 : RowEnd K C CM ns p st (fun N d => ∀ H', But x H H' → RowAt K C H' x (tellAt ns p st) N d → Q .non H') E H := q
    obtain ⟨qo, qe⟩ := q2 N d cn hle
    refine ⟨.int N, rfl, .int d, rfl, _, _, rfl, rfl, _, _, rfl, rfl, _, rfl, iteD (fun e => ?_) (fun e => ?_)⟩
    · exact err_of fun dd H5 nd s5 ed => qe (by omega) _ _ _ (sH4.trans s5) ⟨dd, rfl, rfl, ed⟩
    have le2 : N + d ≤ 2000 := by omega
    have hx4 := sH4 _ _ hx
    have hl4 := s34 _ _ hl
    -- the fields
    refine ⟨.int N, rfl, .ref x, rfl, x, C, dx, _, rfl, hx4, S.cl, S.nS, by show 0 < 1000; decide, ?_⟩
    generalize hH5 : upd H4 x _ = H5
    have k5 : But x H4 H5 := by rw [← hH5]; exact .set
    have hx5 : H5 x = some (.ins C dx (putF "_start" (.int N) [])) := by rw [← hH5]; exact upd_same
    refine ⟨.int d, rfl, .ref x, rfl, x, C, dx, _, rfl, hx5, S.cl, S.nP, by show 1 < 1000; decide, ?_⟩
    generalize hH6 : upd H5 x _ = H6
    have k6 : But x H5 H6 := by rw [← hH6]; exact .set
    have hx6 : H6 x = some (.ins C dx (putF "_period" (.int d) (putF "_start" (.int N) []))) := by rw [← hH6]; exact upd_same
    have k46 := k5.trans k6
    have hl6 := k46 _ _ x1 hl4
    have aN : atI ((moreT ns p st).map V.int) ((N : Int) + (d : Int)) = some (.int (tellAt ns p st (N + d))) := ints_at (i := N + d) (moreT_at p1 p2 hle)
    have a0 : atI ((moreT ns p st).map V.int) (N : Int) = some (.int (tellAt ns p st N)) := ints_at (moreT_at p1 p2 (by omega))
    refine ⟨.ref l, rfl, .int N, rfl, .int d, rfl, _, _, rfl, rfl, l, _, _, .int (tellAt ns p st (N + d)), rfl, rfl, .of hl6, aN, .ref l, rfl, .int N, rfl, l, _, _, .int (tellAt ns p st N), rfl, rfl, .of hl6, a0, _, _, rfl, rfl, ?_⟩
    refine ⟨.ref x, rfl, x, C, dx, _, rfl, hx6, S.cl, S.nQ, by show 2 < 1000; decide, ?_⟩
    generalize hH7 : upd H6 x _ = H7
    have k7 : But x H6 H7 := by rw [← hH7]; exact .set
    have hx7 : H7 x = some (.ins C dx (putF "_step" (.int (tellAt ns p st (N + d) - tellAt ns p st N)) (putF "_period" (.int d) (putF "_start" (.int N) [])))) := by rw [← hH7]; exact upd_same
    have k47 := k46.trans k7
    have hl7 := k47 _ _ x1 hl4
    refine ⟨.ref l, rfl, .int N, rfl, .int d, rfl, _, _, rfl, rfl, _, rfl, l, _, rfl, .of hl7, fun v nv => ?_⟩
    rw [show (N : Int) + (d : Int) = ((N + d : Nat) : Int) by omega, cut_to, ← List.map_take]
    have fm : (moreT ns p st).take (N + d) = firsts (tellAt ns p st) (N + d) := by
      refine List.ext_getElem? fun i => ?_
      by_cases h : i < N + d
      · rw [List.getElem?_take_of_lt h, moreT_at p1 p2 (by omega), firsts_at h]
      · rw [List.getElem?_eq_none (by rw [List.length_take]; omega), List.getElem?_eq_none (by rw [firsts_len]; omega)]
    rw [fm]
    generalize hH8 : upd H7 v _ = H8
    obtain ⟨s8, e8⟩ := alloc_eq nv hH8
    refine ⟨v, _, rfl, .inl ⟨.of e8, fun tT ntT => ?_⟩⟩
    generalize hH9 : upd H8 tT _ = H9
    obtain ⟨s9, e9⟩ := alloc_eq ntT hH9
    have hx9 := s9 _ _ (s8 _ _ hx7)
    refine ⟨.ref x, rfl, x, C, dx, _, rfl, hx9, S.cl, S.nN, by show 3 < 1000; decide, ?_⟩
    generalize hH10 : upd H9 x _ = H10
    have k10 : But x H9 H10 := by rw [← hH10]; exact .set
    have hx10 : H10 x = some (.ins C dx (rflds N d (tellAt ns p st (N + d) - tellAt ns p st N) tT)) := by rw [← hH10]; exact upd_same
    have xT : tT ≠ x := ne_of e9 hx9 (fun z => nomatch z)
    refine qo le2 H10 ((((But.same sH4).trans k47).trans (.same (s8.trans s9))).trans k10) ⟨cn, le2, dx, tT, hx10, .of (k10 _ _ xT e9)⟩
end
end LC
/-! LcOwnEq: x == y and x != y where x's class has its own __eq__, whatever y is. -/
namespace LC
open PySem PySem.Spec PyProof.Rows L2
/-- what the text says of a class with its own __eq__ and object's __ne__ -/
structure OwnEq (K : PySem.W.Frag) (C f : Addr) : Prop where
  eq : PySem.W.findIn K (.ref C) "__eq__" = some (some (.ref f))
  fn : PySem.W.isFn K (.ref f) = true
  ne : PySem.W.findIn K (.ref C) "__ne__" = some (some (.builtin "object.__ne__"))
  ob : PySem.W.mroIn K C (.type "object") = some true
def rOwnEq (K : PySem.W.Frag) (C : Addr) (sp : Sp) (E : XK) : R2 := fun x y H Q => ∃ a dx fs t, x = .ref a ∧ H a = some (.ins C dx fs) ∧ TyX K H y t ∧ PySem.W.notFirst K C t = true ∧ sp [x, y] H (fun v H' => ∃ b, v = .bl b ∧ Q (.bl b) H') E
def rOwnNe (K : PySem.W.Frag) (C : Addr) (sp : Sp) (E : XK) : R2 := fun x y H Q => ∃ a dx fs t, x = .ref a ∧ H a = some (.ins C dx fs) ∧ TyX K H y t ∧ PySem.W.notFirst K C t = true ∧ sp [x, y] H (fun v H' => ∃ b, v = .bl b ∧ Q (.bl (!b)) H') E
section
variable {X : Cx} {CX : CXT} {k : Nat} {C f : Addr} {fd : FuncData} {ps : List Str} {sp : Sp} {E : XK}
theorem run_eq {A : Around} {pins : List (Addr × Obj)} {σ : L2.St} {H : Hp} {s : Shared} {Q : VK} {u w : Value} {x y : V} {E' : Value → Shared → Prop} (F : FnOk X.prog X.w X.K X.mg X.base CX k f fd ps sp) (bd : Binds X.K fd ps []) (room : Room k A) (e0 : Env0 X.prog X.w X.K X.mg X.base A X.stack s H)
    (air : ∀ e s', CX X.stack H s E e s' → E' e s') (I : Inv X pins σ H s) (rx : RelV x u) (ry : RelV y w) (h : sp [x, y] H Q E) : codeAny (model X.prog X.w) A (.call (.ref f) ⟨[u, w], []⟩) (fun r s' => match r with | .ok (.ret v) => EP X pins σ Q v s' | .ok _ => False | .error e => E' e s') s := by
  have many := F.len _ _ _ _ h
  have b := bd s [u, w] I.kIn (by simpa using many)
  rw [List.append_nil] at b
  refine codeAny_mono (F.run A X.stack s H ⟨[u, w], []⟩ [u, w] [x, y] Q E room e0 b (.cons rx (.cons ry .nil)) h) fun r s' out => ?_
  cases r with
  | error e => exact air e s' out
  | ok fl =>
    cases fl with
    | ret v => exact I.after out
    | next => exact False.elim out
    | brk => exact False.elim out
    | cont => exact False.elim out
theorem op_eqO (O : OwnEq X.K C f) (F : FnOk X.prog X.w X.K X.mg X.base CX k f fd ps sp) (bd : Binds X.K fd ps []) (room : Room (k + 1) X.A) (air : Passes CX X.nox E) : OpR X (compareOp .Eq) (rOwnEq X.K C sp E) := by
  intro pins s σ H x y v u Q I rx ry h
  obtain ⟨a, dx, fs, t, rfl, ha, ty, nf, h⟩ := h
  have rx0 := rx
  obtain rfl : v = Value.ref a := rx
  obtain ⟨mA, J, _⟩ := ins_get I.hok ha
  obtain ⟨od, J, _⟩ := J.look
  obtain ⟨P, Z, p, _⟩ := kit_of I ry ty
  obtain ⟨m, hF⟩ := I.fr
  show wpAny (model X.prog X.w) X.A (richCompare .Eq (.ref a) u) (EP X pins σ Q) X.xe s
  refine PySem.W.cmp_K (op := .Eq) (by have := room.un; omega) hF I.ok.mod.kin J (Z.ty _ _ I.kIn p) nf O.eq O.fn ?_
  refine wpAny_mono (wpAny_call (run_eq (E' := fun _ _ => False) F bd (room.mono (by omega)) I.env0 (fun e s' z => air pins σ H s e s' (I.wish _) z) I rx0 ry h)) (fun z s' out => ?_) fun _ _ z => z.elim
  obtain ⟨w, H', I', rw_, b, rfl, q⟩ := out
  cases rw_
  exact ⟨.bl b, H', I', rfl, q⟩
theorem op_neO (O : OwnEq X.K C f) (F : FnOk X.prog X.w X.K X.mg X.base CX k f fd ps sp) (bd : Binds X.K fd ps []) (room : Room (k + 1) X.A) (air : Passes CX X.nox E) : OpR X (compareOp .NotEq) (rOwnNe X.K C sp E) := by
  intro pins s σ H x y v u Q I rx ry h
  obtain ⟨a, dx, fs, t, rfl, ha, ty, nf, h⟩ := h
  have rx0 := rx
  obtain rfl : v = Value.ref a := rx
  obtain ⟨mA, J, _⟩ := ins_get I.hok ha
  obtain ⟨od, J, _⟩ := J.look
  obtain ⟨P, Z, p, _⟩ := kit_of I ry ty
  obtain ⟨m, hF⟩ := I.fr
  have X0 := I.kIn
  show wpAny (model X.prog X.w) X.A (richCompare .NotEq (.ref a) u) (EP X pins σ Q) X.xe s
  have chk : ∀ {A : Around} {Q : Unit → Shared → Prop} {E : Value → Shared → Prop}, Q () s → wpAny (model X.prog X.w) A (checkBuiltinCall "object.__ne__" ⟨[.ref a, u], []⟩) Q E s := by
    intro A Q E q
    simp only [checkBuiltinCall, PySem.F.cmpKind_ne, PySem.F.cmpSplit_ne]
    refine wpAny_bind ?_
    unfold isInstance
    refine wpAny_bind (J.type.here ((PySem.W.looks_mroIn X0 O.ob).here ?_))
    have ar := PySem.F.cmpArgs_ne (.ref a) u
    cases sg : Manifest.signature? "object.__ne__" with
    | none => exact wpAny_pure q
    | some sig =>
      simp only [argsOk, sg] at ar
      have ar2 : Bind.checkArgs "object.__ne__" sig ⟨[.ref a, u], []⟩ = pure () := ar
      show wpAny (model X.prog X.w) A (Bind.checkArgs "object.__ne__" sig ⟨[.ref a, u], []⟩) Q E _
      rw [ar2]
      exact wpAny_pure q
  -- object.__ne__ of the two
  have inner : wpAny (model X.prog X.w) X.A (call (.builtin "object.__ne__") [.ref a, u]) (fun r s' => ∃ b, r = .bool b ∧ EP X pins σ Q r s') X.xe s := by
    refine wpAny_call (codeAny_call_builtin PySem.F.cmp_object.ne.plain PySem.F.cmpEntry_ne (chk ?_))
    unfold Builtin.«object.__ne__»
    refine wpAny_bind (m := slotArgs "__ne__" 1 _) (wpAny_pure ?_)
    refine wpAny_bind (wpAny_cRoomFor (by have := room.in1.un; omega) ?_)
    refine wpAny_bind (PySem.W.ifBound_K X0 J O.eq O.fn ?_)
    refine wpAny_mono (wpAny_call (run_eq (E' := fun _ _ => False) F bd (room.in1.mono (by omega)) I.env0.in1 (fun e s' z => air pins σ H s e s' (I.wish _) z) I rx0 ry h)) (fun z s' out => ?_) fun _ _ z => z.elim
    obtain ⟨w, H', I', rw_, b, rfl, q⟩ := out
    cases rw_
    refine wpAny_bind (m := truthy (.bool b)) (wpAny_pure (wpAny_pure ?_))
    exact ⟨!b, rfl, .bl (!b), H', I', rfl, q⟩
  have one : wpAny (model X.prog X.w) X.A (tryCompare (.ref a) "__ne__" u) (fun r s' => ∃ b, r = some (.bool b) ∧ EP X pins σ Q (.bool b) s') X.xe s := by
    unfold tryCompare
    simp only [callSpecialIfBound?, bindSpecialIfBound?]
    refine wpAny_bind (wpAny_holding (wpAny_bind (wpAny_bind (wpAny_bind (J.type.here ((PySem.W.looks_findIn X0 O.ne).here ?_))))))
    simp only [PySem.F.cmp_object.ne.bind]
    refine wpAny_bind (wpAny_askSetting (wpAny_ite ?_))
    have fin : wpAny (model X.prog X.w) X.A (call (.builtin "object.__ne__") ([.ref a] ++ [u]) >>= fun v => pure (some v)) (fun r s' => wpAny (model X.prog X.w) X.A (match r with | some .notImplemented | none => pure none | some v => pure (some v)) (fun r s' => ∃ b, r = some (.bool b) ∧ EP X pins σ Q (.bool b) s') X.xe s') X.xe s := by
      refine wpAny_bind (wpAny_mono inner (fun r s' out => wpAny_pure ?_) fun _ _ z => z)
      obtain ⟨b, rfl, q⟩ := out
      exact wpAny_pure ⟨b, rfl, q⟩
    split
    · exact wpAny_bind (wpAny_pure (wpAny_pure fin))
    · exact wpAny_tryCatch (wpAny_bind (wpAny_pure (wpAny_pure fin)))
  unfold richCompare
  simp only [oneThing_ref]
  refine wpAny_holding (wpAny_bind (wpAny_cRoomFor (by have := room.un; omega) ?_))
  refine wpAny_bind (J.type.here (wpAny_bind ((Z.ty _ _ X0 p).here ?_)))
  split
  · rename_i q
    have e : PySem.W.subIn X.K t (.ref C) = some false := by
      rcases Bool.or_eq_true_iff.mp nf with e | e
      · rw [beq_iff_eq.mp e] at q
        simp at q
      · exact beq_iff_eq.mp e
    refine wpAny_bind ((PySem.W.looks_subIn X0 e).here ?_)
    simp only [Bool.false_eq_true, if_false]
    refine wpAny_bind (wpAny_mono one (fun r s' z => ?_) fun _ _ e => e)
    obtain ⟨b, rfl, hq⟩ := z
    exact wpAny_pure hq
  · refine wpAny_bind (wpAny_pure ?_)
    simp only [Bool.false_eq_true, if_false]
    refine wpAny_bind (wpAny_mono one (fun r s' z => ?_) fun _ _ e => e)
    obtain ⟨b, rfl, hq⟩ := z
    exact wpAny_pure hq
end
end LC
/-! LcStrOwn: str(o), o's class with its own __str__. -/
namespace LC
open PySem PySem.Spec PyProof.Rows L2
structure OwnStr (K : PySem.W.Frag) (C f : Addr) : Prop where
  st : PySem.W.findIn K (.ref C) "__str__" = some (some (.ref f))
  fn : PySem.W.isFn K (.ref f) = true
theorem call_strO {X : Cx} {CX : CXT} {k : Nat} {C f : Addr} {fd : FuncData} {ps : List Str} {sp : Sp} {E : XK} (O : OwnStr X.K C f) (F : FnOk X.prog X.w X.K X.mg X.base CX k f fd ps sp) (bd : Binds X.K fd ps []) (room : Room (k + 2) X.A) (air : Passes CX X.nox E) :
    CallR X (.type "str") (fun xs H Q => ∃ a dx fs, xs = [.ref a] ∧ H a = some (.ins C dx fs) ∧ sp [.ref a] H (fun v H' => ∃ z, v = .str z ∧ Q (.str z) H') E) := by
  rintro pins s σ H xs us Q I r ⟨a, dx, fs, rfl, ha, h⟩
  obtain ⟨u, rfl, ru⟩ := vals1 r
  obtain rfl : u = Value.ref a := ru
  obtain ⟨mA, J, _⟩ := ins_get I.hok ha
  obtain ⟨od, J, _⟩ := J.look
  have many := F.len _ _ _ _ h
  have b := bd s [.ref a] I.kIn (by simpa using many)
  rw [List.append_nil] at b
  refine PySem.W.kso_call (by have := room.in1.in1.un; omega) I.kIn J O.st O.fn ?_
  refine wpAny_call (codeAny_mono (F.run X.A.in1.in1 X.stack s H ⟨[.ref a], []⟩ [.ref a] [.ref a] _ E room.in1.in1 I.env0.in1.in1 b (.cons rfl .nil) h) fun r s' out => ?_)
  cases r with
  | error e => exact (air pins σ H s e s' (I.wish _) out).elim
  | ok fl =>
    cases fl with
    | ret v =>
      obtain ⟨w, H', I', rw_, z, rfl, q⟩ := I.after out
      obtain ⟨t, rfl⟩ := rw_
      exact ⟨.str z, H', I', ⟨t, rfl⟩, q⟩
    | next => exact False.elim out
    | brk => exact False.elim out
    | cont => exact False.elim out
end LC
/-! LcIxOwn: o[i], o's class with its own __getitem__. -/
namespace LC
open PySem PySem.Spec PyProof.Rows L2
structure OwnGet (K : PySem.W.Frag) (C f : Addr) : Prop where
  gt : PySem.W.findIn K (.ref C) "__getitem__" = some (some (.ref f))
  fi : PySem.W.fnIn K f = true
  fn : PySem.W.isFn K (.ref f) = true
def tIxO (C : Addr) (sp : Sp) (E : XK) (te ti : TE) : TE := fun σ H Q => te σ H fun x H1 => ti σ H1 fun y H2 => ∃ a dx fs, x = .ref a ∧ H2 a = some (.ins C dx fs) ∧ sp [x, y] H2 Q E
section
variable {X : Cx} {CX : CXT} {k : Nat} {C f : Addr} {fd : FuncData} {ps : List Str} {sp : Sp} {E : XK} {a b : Expr} {ta tb : TE} {pos : Pos}
theorem pe_ixO (O : OwnGet X.K C f) (F : FnOk X.prog X.w X.K X.mg X.base CX k f fd ps sp) (bd : Binds X.K fd ps []) (room : Room (k + 1) X.A) (air : Passes CX X E) (ha : PE X a ta) (hb : PE X b tb)
    (hsl : ∀ (x i : Value), subscripted b true x i = runValue (.builtin "lifetime.subscript" ⟨[x, i], []⟩) := by intro _ _; rfl) : PE X (.Subscript a b pos) (tIxO C sp E ta tb) := by
  refine ⟨fun pins s σ H Q I h => ?_⟩
  refine Subscript_ (binT ha hb I h fun v u s2 x y H2 I2 rx ry q => ?_)
  obtain ⟨o, dx, fs, rfl, ho, q⟩ := q
  have rx0 := rx
  obtain rfl : v = Value.ref o := rx
  obtain ⟨mA, J, _⟩ := ins_get I2.hok ho
  obtain ⟨od, J, _⟩ := J.look
  obtain ⟨m, hF⟩ := I2.fr
  have many := F.len _ _ _ _ q
  have b2 := bd s2 [.ref o, u] I2.kIn (by simpa using many)
  rw [List.append_nil] at b2
  refine PySem.W.sub_K hF I2.ok.mod.kin J O.gt O.fi O.fn ?_ (hsl _ _)
  refine wpAny_call (codeAny_mono (F.run X.A.in1 X.stack s2 H2 ⟨[.ref o, u], []⟩ [.ref o, u] [.ref o, y] Q E room.in1 I2.env0.in1 b2 (.cons rx0 (.cons ry .nil)) q) fun r s' out => ?_)
  cases r with
  | error e => exact air pins σ H2 s2 e s' I2 out
  | ok fl =>
    cases fl with
    | ret v => exact I2.after out
    | next => exact False.elim out
    | brk => exact False.elim out
    | cont => exact False.elim out
end
end LC
namespace LC
open PySem PySem.Spec PyProof.Rows L2
/-- what isinstance asks of Row -/
structure RowIs (K : PySem.W.Frag) (C : Addr) : Prop where
  ha : PySem.W.findIn K (.ref C) "__class__" = some (some (.builtin "object.__class__"))
  hn : PySem.W.specialIn K (.builtin "object.__class__") "__get__" = some (some (.builtin "getset_descriptor.__get__"))
  ht : PySem.W.takesIn K (.builtin "object.__class__") = some true
  hm : PySem.W.mroIn K C (.type "object") = some true
  self : PySem.W.kitOne K (.ref C) (.ref C) = some true
  other : ∀ n ∈ kinds, PySem.W.kitOne K (.type n) (.ref C) = some false
theorem row_ty {K : PySem.W.Frag} {mg : Str → Option Value} {C x : Addr} {H : Hp} {a : Nat → Int} {N p : Nat} (S : RowTxt K mg C) (I : RowIs K C) (h : RowAt K C H x a N p) : TyX K H (.ref x) (.ref C) := by
  obtain ⟨_, _, dx, T, h1, h2⟩ := h
  exact .base (.ins h1 S.cl I.ha I.hn I.ht I.hm)
theorem divp_small {i j : Int} (h : 0 < j) (l : j < 2 ^ 30) : L2.CDivP i j := by
  refine ⟨h, ?_⟩
  have e : decide ((if (j == 0) = true then 0 else j.natAbs.log2 / 30 + 1) > 300) = false := by
    refine decide_eq_false ?_
    split
    · decide
    · have : j.natAbs.log2 < 30 := (Nat.log2_lt (by omega)).mpr (by omega)
      omega
  unfold Builtin.divisionGoesByPylong
  dsimp only
  rw [e, Bool.false_and]
theorem natAbs_div_le {n p : Nat} : (((n / p : Nat) : Int)).natAbs ≤ n := by
  rw [Int.natAbs_natCast]
  exact Nat.div_le_self _ _
def spRowGet (K : PySem.W.Frag) (C CB : Addr) : Sp := fun vs H Q E => ∃ (x : Addr) (a : Nat → Int) (N p : Nat) (v : V), vs = [.ref x, v] ∧ RowAt K C H x a N p ∧
  ((∃ n : Nat, v = .int (n : Int) ∧ n < 2 ^ 400000 ∧ (a (N + p) - a N).natAbs < 2 ^ 400000 ∧ ∀ H', Same H H' → Q (.int (a n)) H') ∨
   ∃ m, ValOk K H v m ∧ fromB 0 v = false ∧ ∀ cls d H', Same H H' → BadF CB "value" v cls d H' → E cls d H')
def spRowEq (K : PySem.W.Frag) (C : Addr) : Sp := fun vs H Q _ => ∃ (x : Addr) (a : Nat → Int) (N p : Nat) (v : V), vs = [.ref x, v] ∧ RowAt K C H x a N p ∧
  ((∃ n, ValOk K H v n ∧ Q (.bl false) H) ∨ ∃ (y : Addr) (b : Nat → Int) (M q : Nat), v = .ref y ∧ RowAt K C H y b M q ∧ ∀ r : Bool, (r = true ↔ ∀ n, a n = b n) → Q (.bl r) H)
def rowT (a : Nat → Int) (N p : Nat) : Str := Txt.join " " (rowW (firsts a (N + p)) N (a (N + p) - a N))
def spRowStr (K : PySem.W.Frag) (C : Addr) : Sp := fun vs H Q _ => ∃ (x : Addr) (a : Nat → Int) (N p : Nat), vs = [.ref x] ∧ RowAt K C H x a N p ∧ (∀ n, n < N + p → DecOk (a n)) ∧ DecOk (a (N + p) - a N) ∧ ∀ H', Same H H' → Q (.str (rowT a N p)) H'
theorem sum_le {l : List Str} {b : Nat} (h : ∀ z ∈ l, z.length ≤ b) : (l.map (·.length)).sum ≤ b * l.length := by
  induction l with
  | nil => exact Nat.zero_le _
  | cons z r ih =>
    have a := h z (List.mem_cons_self ..)
    have b2 := ih fun y hy => h y (List.mem_cons_of_mem _ hy)
    simp only [List.map_cons, List.sum_cons, List.length_cons]
    rw [Nat.mul_succ]
    omega
theorem rowW_mem {ns : List Int} {N : Nat} {q : Int} (hd : ∀ n ∈ ns, DecOk n) (hq : DecOk q) : ∀ z ∈ rowW ns N q, z.length ≤ 8000 := by
  intro z hz
  unfold rowW at hz
  simp only [List.mem_append, List.mem_cons, List.mem_map, List.not_mem_nil, or_false] at hz
  rcases hz with ⟨n, hn, rfl⟩ | rfl | ⟨n, hn, rfl⟩ | rfl | rfl
  · exact decS_len (hd n (List.mem_of_mem_take hn))
  · decide +kernel
  · exact decS_len (hd n (List.mem_of_mem_drop hn))
  · decide +kernel
  · exact decS_len hq
theorem rowW_len (ns : List Int) (N : Nat) (q : Int) : (rowW ns N q).length = ns.length + 3 := by
  unfold rowW
  simp only [List.length_append, List.length_cons, List.length_map, List.length_take, List.length_drop, List.length_nil]
  omega
theorem mem_firsts {a : Nat → Int} {n : Nat} {x : Int} (h : x ∈ firsts a n) : ∃ i, i < n ∧ x = a i := by
  unfold firsts at h
  obtain ⟨i, hi, rfl⟩ := List.mem_map.mp h
  exact ⟨i, List.mem_range.mp hi, rfl⟩
theorem firsts_inj {a b : Nat → Int} {n m : Nat} (h : firsts a n = firsts b m) : n = m ∧ ∀ i, i < n → a i = b i := by
  have l := congrArg List.length h
  rw [firsts_len, firsts_len] at l
  subst l
  refine ⟨rfl, fun i hi => ?_⟩
  have e : (firsts a n)[i]? = (firsts b n)[i]? := by rw [h]
  rw [firsts_at hi, firsts_at hi] at e
  exact Option.some.inj e
/-- equal fields are equal numbers -/
theorem row_same {a b : Nat → Int} {N p M q : Nat} (ha : Can a N p) (hb : Can b M q) : ((decide (firsts a (N + p) = firsts b (M + q)) && (decide ((p : Int) = (q : Int)) && decide (a (N + p) - a N = b (M + q) - b M))) = true) ↔ ∀ n, a n = b n := by
  simp only [Bool.and_eq_true, decide_eq_true_eq]
  constructor
  · rintro ⟨h1, h2, h3⟩
    obtain ⟨e1, e2⟩ := firsts_inj h1
    have pq : p = q := by omega
    subst pq
    have NM : N = M := by omega
    subst NM
    have s1 := ha.seq
    have s2 := hb.seq
    rw [← h3] at s2
    exact seq_ext ha.pos s1 s2 e2
  · intro h
    have e : a = b := funext h
    subst e
    obtain ⟨e1, e2⟩ := ha.uniq hb
    subst e1 e2
    exact ⟨rfl, rfl, rfl⟩
section
variable {P : Program} {w : World} {K : PySem.W.Frag} {mg : Str → Option Value} {base : Heap}
abbrev s_Row_start : Stmt := inClass (topS 22) 1
theorem sc_Row_start : FnScope ["self"] ["self"] (defScope s_Row_start) := ⟨rfl, rfl, rfl, by decide +kernel, rfl, by decide +kernel, by decide +kernel⟩
abbrev s_Row_period : Stmt := inClass (topS 22) 2
theorem sc_Row_period : FnScope ["self"] ["self"] (defScope s_Row_period) := ⟨rfl, rfl, rfl, by decide +kernel, rfl, by decide +kernel, by decide +kernel⟩
abbrev s_Row_step : Stmt := inClass (topS 22) 3
theorem sc_Row_step : FnScope ["self"] ["self"] (defScope s_Row_step) := ⟨rfl, rfl, rfl, by decide +kernel, rfl, by decide +kernel, by decide +kernel⟩
abbrev s_Row_numbers : Stmt := inClass (topS 22) 4
theorem sc_Row_numbers : FnScope ["self"] ["self"] (defScope s_Row_numbers) := ⟨rfl, rfl, rfl, by decide +kernel, rfl, by decide +kernel, by decide +kernel⟩
theorem ok_getStart {f C : Addr} {fd : FuncData} (S : RowTxt K mg C) (F : FunD K "start" "Row.start" (defArgs s_Row_start) (defBody s_Row_start) (defScope s_Row_start) [] [] f fd) : FnOk P w K mg base CX0 1 f fd ["self"] (getSp C "_start") := by
  obtain ⟨oc, od, dV, kV, doc, pm, an, cdv, ct, osl, rfl, lk, hcd, hD, _⟩ := F.ex
  exact fn_getter lk hcd sc_Row_start rfl rfl S.cl S.nS
theorem ok_getPeriod {f C : Addr} {fd : FuncData} (S : RowTxt K mg C) (F : FunD K "period" "Row.period" (defArgs s_Row_period) (defBody s_Row_period) (defScope s_Row_period) [] [] f fd) : FnOk P w K mg base CX0 1 f fd ["self"] (getSp C "_period") := by
  obtain ⟨oc, od, dV, kV, doc, pm, an, cdv, ct, osl, rfl, lk, hcd, hD, _⟩ := F.ex
  exact fn_getter lk hcd sc_Row_period rfl rfl S.cl S.nP
theorem ok_getStep {f C : Addr} {fd : FuncData} (S : RowTxt K mg C) (F : FunD K "step" "Row.step" (defArgs s_Row_step) (defBody s_Row_step) (defScope s_Row_step) [] [] f fd) : FnOk P w K mg base CX0 1 f fd ["self"] (getSp C "_step") := by
  obtain ⟨oc, od, dV, kV, doc, pm, an, cdv, ct, osl, rfl, lk, hcd, hD, _⟩ := F.ex
  exact fn_getter lk hcd sc_Row_step rfl rfl S.cl S.nQ
theorem ok_getNumbers {f C : Addr} {fd : FuncData} (S : RowTxt K mg C) (F : FunD K "numbers" "Row.numbers" (defArgs s_Row_numbers) (defBody s_Row_numbers) (defScope s_Row_numbers) [] [] f fd) : FnOk P w K mg base CX0 1 f fd ["self"] (getSp C "_numbers") := by
  obtain ⟨oc, od, dV, kV, doc, pm, an, cdv, ct, osl, rfl, lk, hcd, hD, _⟩ := F.ex
  exact fn_getter lk hcd sc_Row_numbers rfl rfl S.cl S.nN
abbrev s_Row_getitem : Stmt := inClass (topS 22) 5
theorem sc_Row_getitem : FnScope ["self", "at", "times", "rest"] ["self", "at"] (defScope s_Row_getitem) := ⟨rfl, rfl, rfl, by decide +kernel, rfl, by decide +kernel, by decide +kernel⟩
theorem ok_row_get {f C CB fB : Addr} {fd fdB : FuncData} (T : Txt mg) (S : RowTxt K mg C) (EB : ErrC P w K mg base "BadNumber" "value" CB fB fdB) (F : FunD K "__getitem__" "Row.__getitem__" (defArgs s_Row_getitem) (defBody s_Row_getitem) (defScope s_Row_getitem) [] [] f fd) (c_is_from : Cal P w K mg base CX0 2 "is_from" ["value", "least"] (spIsFrom K)) :
    FnOk P w K mg base (L2.CX P w) 3 f fd ["self", "at"] (spRowGet K C CB) := by
  have sc := sc_Row_getitem
  refine F.ok sc (fun vs H Q E h => ?_) (fun cdv A outer s H vs Q E hr h => ?_)
  · obtain ⟨x, a, N, p, v, rfl, _⟩ := h
    rfl
  · obtain ⟨x, a, N, p, v, rfl, ⟨cn, few, dx, Tn, hx, ht⟩, q⟩ := h
    refine ⟨_, (pss_cons (ps_if (pt_not (pt_val (pe_cal c_is_from hr (by rfl) pass0 (pa_cons (pv 1) (pa_cons pe_int pa_nil)))))
  (pss_one (ps_err EB rfl hr (by decide) (takes_of rfl rfl rfl rfl) (pa_cons (pv 1) pa_nil)))
  pss_nil)
(pss_cons (ps_if (pt_cmpR op_lt (pv 1) (pe_fld (pv 0) rfl) (nomark _))
  (pss_one (ps_ret (pe_ix ix_tup (pe_fld (pv 0) rfl) (pv 1) (fun _ _ => rfl))))
  pss_nil)
(pss_cons (ps_asg (pe_callB call_divmodW (by rfl) T.n_divmod (by decide +kernel) (pa_cons (pe_op op_sub (pv 1) (pe_fld (pv 0) rfl)) (pa_cons (pe_fld (pv 0) rfl) pa_nil))) (pg_tup rfl (pgs_cons (pg_name (i := 2) sc.nd rfl (.inl rfl)) (pgs_cons (pg_name (i := 3) sc.nd rfl (.inl rfl)) pgs_nil))))
(pss_one (ps_ret (pe_op op_add (pe_ix ix_tup (pe_fld (pv 0) rfl) (pe_op op_add (pe_fld (pv 0) rfl) (pv 3)) (fun _ _ => rfl)) (pe_op op_mulW (pv 2) (pe_fld (pv 0) rfl)))))))), ?_⟩
    rcases q with ⟨n, rfl, hn, hs, q⟩ | ⟨m, okv, fb, q⟩
    · refine ⟨.int n, rfl, .int n, "int", 0, rfl, by decide, .base (.int _), _, rfl, ?_⟩
      have f1 : fromB 0 (.int n) = true := by
        show decide ((0 : Int) ≤ (n : Int)) = true
        exact decide_eq_true (by omega)
      rw [f1]
      refine iteF ?_
      refine ⟨.int n, rfl, .ref x, rfl, x, C, dx, _, _, rfl, hx, S.cl, S.nS, rflds_start _ _ _ _, _, _, rfl, rfl, _, rfl, iteD (fun e => ?_) (fun e => ?_)⟩
      · refine ⟨.ref x, rfl, x, C, dx, _, _, rfl, hx, S.cl, S.nN, rflds_numbers _ _ _ _, .int n, rfl, Tn, _, _, .int (a n), rfl, rfl, ht, ints_at (firsts_at (by omega)), ?_⟩
        exact q H (Same.refl H)
      · have hN : N ≤ n := by omega
        have pp := cn.pos
        refine ⟨.int n, rfl, .ref x, rfl, x, C, dx, _, _, rfl, hx, S.cl, S.nS, rflds_start _ _ _ _, _, _, rfl, rfl, .ref x, rfl, x, C, dx, _, _, rfl, hx, S.cl, S.nP, rflds_period _ _ _ _, _, _, rfl, divp_small (by omega) (by omega), fun t nt => ?_⟩
        have e1 : ((n : Int) - (N : Int)) / (p : Int) = (((n - N) / p : Nat) : Int) := by
          rw [show (n : Int) - (N : Int) = ((n - N : Nat) : Int) by omega]
          rfl
        have e2 : ((n : Int) - (N : Int)) % (p : Int) = (((n - N) % p : Nat) : Int) := by
          rw [show (n : Int) - (N : Int) = ((n - N : Nat) : Int) by omega]
          rfl
        show gTup K 2 _ _ _ _ _
        rw [e1, e2]
        generalize hHt : upd H t _ = Ht
        obtain ⟨st, et⟩ := alloc_eq nt hHt
        have hxt := st _ _ hx
        refine ⟨t, _, rfl, .of et, rfl, _, _, rfl, _, _, rfl, rfl, ?_⟩
        have lt : N + (n - N) % p < N + p := by
          have := Nat.mod_lt (n - N) pp
          omega
        have ix : (N : Int) + (((n - N) % p : Nat) : Int) = ((N + (n - N) % p : Nat) : Int) := by omega
        have at_ : atI ((firsts a (N + p)).map V.int) ((N : Int) + (((n - N) % p : Nat) : Int)) = some (.int (a (N + (n - N) % p))) := by
          rw [ix]
          exact ints_at (firsts_at lt)
        have tb : (((n - N) / p : Nat) : Int).natAbs < 2 ^ 400000 := Nat.lt_of_le_of_lt (Nat.le_trans natAbs_div_le (Nat.sub_le _ _)) hn
        refine ⟨.ref x, rfl, x, C, dx, _, _, rfl, hxt, S.cl, S.nN, rflds_numbers _ _ _ _, .ref x, rfl, x, C, dx, _, _, rfl, hxt, S.cl, S.nS, rflds_start _ _ _ _, _, rfl, _, _, rfl, rfl, Tn, _, _, .int (a (N + (n - N) % p)), rfl, rfl, sqt_same st ht, at_, _, rfl, .ref x, rfl, x, C, dx, _, _, rfl, hxt, S.cl, S.nQ, rflds_step _ _ _ _, _, _, rfl, rfl, wide_mul tb hs (by decide) (by decide) (by decide), _, _, rfl, rfl, ?_⟩
        have g := cn.seq.get pp hN
        show Q (.int (a (N + (n - N) % p) + (((n - N) / p : Nat) : Int) * (a (N + p) - a N))) Ht
        rw [← g]
        exact q Ht st
    · refine ⟨v, rfl, v, m, 0, rfl, okv.k, okv.t, _, rfl, ?_⟩
      rw [fb]
      refine iteT ⟨v, rfl, ?_⟩
      exact err_of fun d H2 nd s2 ed => q _ _ _ s2 ⟨d, rfl, rfl, ed⟩
abbrev s_Row_eq : Stmt := inClass (topS 22) 7
theorem sc_Row_eq : FnScope ["self", "other"] ["self", "other"] (defScope s_Row_eq) := ⟨rfl, rfl, rfl, by decide +kernel, rfl, by decide +kernel, by decide +kernel⟩
theorem ok_row_eq {f C : Addr} {fd : FuncData} (T : Txt mg) (S : RowTxt K mg C) (I : RowIs K C) (F : FunD K "__eq__" "Row.__eq__" (defArgs s_Row_eq) (defBody s_Row_eq) (defScope s_Row_eq) [] [] f fd) : FnOk P w K mg base CX0 1 f fd ["self", "other"] (spRowEq K C) := by
  have sc := sc_Row_eq
  refine F.ok sc (fun vs H Q E h => ?_) (fun cdv A outer s H vs Q E hr h => ?_)
  · obtain ⟨x, a, N, p, v, rfl, _⟩ := h
    rfl
  · obtain ⟨x, a, N, p, v, rfl, hx, q⟩ := h
    refine ⟨_, PSs.nox (pss_one (ps_ret (pe_and (pe_callB call_isi (by rfl) T.n_isinstance (by decide +kernel) (pa_cons (pv 1) (pa_cons (pe_glob rfl S.g_Row (show RelV (.ref C) (.ref C) from rfl) (by decide)) pa_nil))) (pe_and (pe_cmpR (op_eqD hr.units) (pe_fld (pv 0) rfl) (pe_fld (pv 1) rfl) (nomark _)) (pe_and (pe_cmpR op_eq (pe_fld (pv 0) rfl) (pe_fld (pv 1) rfl) (nomark _)) (pe_one (pe_cmpR op_eq (pe_fld (pv 0) rfl) (pe_fld (pv 1) rfl) (nomark _)))))))), ?_⟩
    obtain ⟨n, ok, q⟩ | ⟨y, b, M, pq, rfl, hy, q⟩ := q
    · exact ⟨v, rfl, v, .ref C, _, _, false, rfl, .own _, ok.t, I.other n ok.k, _, rfl, q⟩
    · refine ⟨.ref y, rfl, .ref y, .ref C, _, _, true, rfl, .own _, row_ty S I hy, I.self, _, rfl, ?_⟩
      have rs := row_same hx.can hy.can
      obtain ⟨cn, few, dx, T1, hx1, ht1⟩ := hx
      obtain ⟨cm, few2, dy, T2, hy1, ht2⟩ := hy
      refine ⟨.ref x, rfl, x, C, dx, _, _, rfl, hx1, S.cl, S.nN, rflds_numbers _ _ _ _, .ref y, rfl, y, C, dy, _, _, rfl, hy1, S.cl, S.nN, rflds_numbers _ _ _ _, .tuple ((firsts a (N + p)).map PyData.int), .tuple ((firsts b (M + pq)).map PyData.int), .tup ht1 (dpAll_ints _), .tup ht2 (dpAll_ints _), shapedT_ints _, shapedT_ints _, ?_⟩
      rw [intsT_eqv]
      have no : ¬ (∀ n, a n = b n) → Q (.bl false) H := fun h => q false ⟨fun z => (nomatch z), fun z => absurd z h⟩
      have rs' : (firsts a (N + p) = firsts b (M + pq) ∧ (p : Int) = (pq : Int) ∧ a (N + p) - a N = b (M + pq) - b M) ↔ ∀ n, a n = b n := by
        rw [← rs]
        simp only [Bool.and_eq_true, decide_eq_true_eq]
      refine ⟨_, rfl, iteD (fun h1 => ?_) (fun h1 => ?_)⟩
      · refine ⟨.ref x, rfl, x, C, dx, _, _, rfl, hx1, S.cl, S.nP, rflds_period _ _ _ _, .ref y, rfl, y, C, dy, _, _, rfl, hy1, S.cl, S.nP, rflds_period _ _ _ _, rfl, _, rfl, iteD (fun h2 => ?_) (fun h2 => ?_)⟩
        · refine ⟨.ref x, rfl, x, C, dx, _, _, rfl, hx1, S.cl, S.nQ, rflds_step _ _ _ _, .ref y, rfl, y, C, dy, _, _, rfl, hy1, S.cl, S.nQ, rflds_step _ _ _ _, rfl, ?_⟩
          refine q _ ⟨fun h3 => rs'.mp ⟨h1, V.int.inj h2, V.int.inj (of_decide_eq_true h3)⟩, fun h3 => ?_⟩
          rw [(rs'.mpr h3).2.2]
          exact decide_eq_true rfl
        · exact no fun h3 => h2 (congrArg V.int (rs'.mpr h3).2.1)
      · exact no fun h3 => h1 (rs'.mpr h3).1
abbrev s_Row_str : Stmt := inClass (topS 22) 8
theorem sc_Row_str : FnScope ["self"] ["self"] (defScope s_Row_str) := ⟨rfl, rfl, rfl, by decide +kernel, rfl, by decide +kernel, by decide +kernel⟩
theorem ok_row_str {f C : Addr} {fd : FuncData} (T : Txt mg) (S : RowTxt K mg C) (F : FunD K "__str__" "Row.__str__" (defArgs s_Row_str) (defBody s_Row_str) (defScope s_Row_str) [] [] f fd) (c_row_words : Cal P w K mg base CX0 2 "row_words" ["numbers", "start", "step"] (spRowWords K)) : FnOk P w K mg base CX0 3 f fd ["self"] (spRowStr K C) := by
  have sc := sc_Row_str
  refine F.ok sc (fun vs H Q E h => ?_) (fun cdv A outer s H vs Q E hr h => ?_)
  · obtain ⟨x, a, N, p, rfl, _⟩ := h
    rfl
  · obtain ⟨x, a, N, p, rfl, ⟨cn, few, dx, Tn, hx, ht⟩, hd, hq, q⟩ := h
    refine ⟨_, PSs.nox (pss_one (ps_ret (pe_bm PySem.F.plainAttrs_str PySem.F.slot_str_join PySem.F.type_str_join mt_join pe_str (pa_cons (pe_cal c_row_words hr (by rfl) pass0 (pa_cons (pe_fld (pv 0) rfl) (pa_cons (pe_fld (pv 0) rfl) (pa_cons (pe_fld (pv 0) rfl) pa_nil)))) pa_nil)))), ?_⟩
    have hd2 : ∀ n ∈ firsts a (N + p), DecOk n := fun n hn => by
      obtain ⟨i, hi, rfl⟩ := mem_firsts hn
      exact hd i hi
    refine ⟨rfl, .ref x, rfl, x, C, dx, _, _, rfl, hx, S.cl, S.nN, rflds_numbers _ _ _ _, .ref x, rfl, x, C, dx, _, _, rfl, hx, S.cl, S.nS, rflds_start _ _ _ _, .ref x, rfl, x, C, dx, _, _, rfl, hx, S.cl, S.nQ, rflds_step _ _ _ _, .ref Tn, _, N, _, rfl, ⟨Tn, rfl, .inr ht⟩, by rw [firsts_len]; omega, hd2, hq, fun l H' nl sm e => ?_⟩
    refine ⟨_, _, _, rfl, rfl, .inl (.of e), ?_, q H' sm⟩
    have a1 := sum_le (rowW_mem (N := N) hd2 hq)
    rw [rowW_len, firsts_len] at a1
    rw [rowW_len, firsts_len]
    have c : (" " : Str).length = 1 := rfl
    rw [c]
    omega
end
end LC
namespace LC
open PySem PySem.Spec PyProof.Rows L2
/-- a told row: the list of its numbers, its period, its step -/
def ToldV (H : Hp) (p : Addr) (v : V) (ns : List Int) (span : Nat) (step : Int) : Prop := ∃ t l : Addr, v = .ref t ∧ t ≠ p ∧ l ≠ p ∧ H t = some (.lst [.ref l, .int span, .int step]) ∧ H l = some (.lst (ns.map V.int))
theorem ToldV.same {H H' : Hp} {p : Addr} {v : V} {ns : List Int} {span : Nat} {step : Int} (h : ToldV H p v ns span step) (s : Same H H') : ToldV H' p v ns span step := by
  obtain ⟨t, l, e, h1, h2, h3, h4⟩ := h
  exact ⟨t, l, e, h1, h2, s _ _ h3, s _ _ h4⟩
theorem ToldV.but {H H' : Hp} {p : Addr} {v : V} {ns : List Int} {span : Nat} {step : Int} (h : ToldV H p v ns span step) (k : But p H H') : ToldV H' p v ns span step := by
  obtain ⟨t, l, e, h1, h2, h3, h4⟩ := h
  exact ⟨t, l, e, h1, h2, k _ _ h1 h3, k _ _ h2 h4⟩
structure ToldOk (ns : List Int) (span : Nat) (step : Int) : Prop where
  s1 : 1 ≤ span
  s2 : span ≤ ns.length
  few : ns.length ≤ 1300
  n : ∀ x ∈ ns, x.natAbs < 2 ^ 150
  q : step.natAbs < 2 ^ 150
theorem getD_small {ns : List Int} (h : ∀ x ∈ ns, x.natAbs < 2 ^ 150) (i : Nat) : (ns.getD i 0).natAbs < 2 ^ 150 := by
  rw [List.getD_eq_getElem?_getD]
  cases e : ns[i]? with
  | none => exact (by decide : (0 : Int).natAbs < 2 ^ 150)
  | some x => exact h x (List.mem_of_getElem? e)
/-- the numbers are not large -/
theorem tell_small {ns : List Int} {span : Nat} {step : Int} (o : ToldOk ns span step) (n : Nat) : (tellAt ns span step n).natAbs < 2 ^ 150 + (n + 1) * 2 ^ 150 := by
  unfold tellAt
  split
  · have := getD_small o.n n
    omega
  · have a := getD_small o.n (ns.length - span + (n - ns.length) % span)
    generalize ns.getD (ns.length - span + (n - ns.length) % span) 0 = x at a
    have b : ((((n - ns.length) / span + 1 : Nat) : Int) * step).natAbs ≤ (n + 1) * 2 ^ 150 := by
      rw [Int.natAbs_mul, Int.natAbs_natCast]
      refine Nat.mul_le_mul ?_ (Nat.le_of_lt o.q)
      have := Nat.div_le_self (n - ns.length) span
      omega
    have c := Int.natAbs_add_le x ((((n - ns.length) / span + 1 : Nat) : Int) * step)
    omega
theorem tell_256 {ns : List Int} {span : Nat} {step : Int} (o : ToldOk ns span step) {n : Nat} (h : n < 2 ^ 256) : (tellAt ns span step n).natAbs < 2 ^ 407 := by
  have a := tell_small o n
  have b : (n + 1) * 2 ^ 150 ≤ 2 ^ 256 * 2 ^ 150 := Nat.mul_le_mul_right _ h
  have c : (2 : Nat) ^ 256 * 2 ^ 150 = 2 ^ 406 := by decide +kernel
  have d : (2 : Nat) ^ 150 + 2 ^ 406 < 2 ^ 407 := by decide +kernel
  omega
def spAt : Sp := fun vs H Q _ => ∃ (p : Addr) (v : V) (ns : List Int) (span : Nat) (step : Int) (n : Nat), vs = [v, .int n] ∧ ToldV H p v ns span step ∧ ToldOk ns span step ∧ n < 2 ^ 256 ∧ Q (.int (tellAt ns span step n)) H
section
variable {P : Program} {w : World} {K : PySem.W.Frag} {mg : Str → Option Value} {base : Heap}
abbrev s_at : Stmt := topS 29
theorem sc_at : FnScope ["told", "n", "some", "span", "step", "over"] ["told", "n"] (defScope s_at) := ⟨rfl, rfl, rfl, by decide +kernel, rfl, by decide +kernel, by decide +kernel⟩
theorem ok_at {f : Addr} {fd : FuncData} (T : Txt mg) (F : FnP K "_law_at" s_at f fd) : FnOk P w K mg base CX0 1 f fd ["told", "n"] spAt := by
  have sc := sc_at
  refine F.ok sc (fun vs H Q E h => ?_) (fun cdv A outer s H vs Q E hr h => ?_)
  · obtain ⟨p, v, ns, span, step, n, rfl, _⟩ := h
    rfl
  · obtain ⟨p, v, ns, span, step, n, rfl, ⟨t, l, rfl, _, _, ht, hl⟩, o, hn, q⟩ := h
    refine ⟨_, PSs.nox (pss_cons (ps_asg (pv 0) (pg_lst rfl (pgs_cons (pg_name (i := 2) sc.nd rfl (.inl rfl)) (pgs_cons (pg_name (i := 3) sc.nd rfl (.inl rfl)) (pgs_cons (pg_name (i := 4) sc.nd rfl (.inl rfl)) pgs_nil)))))
(pss_cons (ps_if (pt_cmpR op_lt (pv 1) (pe_callB call_len (by rfl) T.n_len (by decide +kernel) (pa_cons (pv 2) pa_nil)) (nomark _))
  (pss_one (ps_ret (pe_ix ix_list (pv 2) (pv 1) (fun _ _ => rfl))))
  pss_nil)
(pss_cons (ps_set (i := 5) sc.nd rfl (.inl rfl) (pe_op op_sub (pv 1) (pe_callB call_len (by rfl) T.n_len (by decide +kernel) (pa_cons (pv 2) pa_nil))))
(pss_one (ps_ret (pe_op op_add (pe_ix ix_list (pv 2) (pe_op op_add (pe_op op_sub (pe_callB call_len (by rfl) T.n_len (by decide +kernel) (pa_cons (pv 2) pa_nil)) (pv 3)) (pe_op op_modN (pe_callTy call_int1 (by rfl) T.n_int (by decide +kernel) (pa_cons (pv 5) pa_nil)) (pv 3))) (fun _ _ => rfl)) (pe_op op_mulW (pe_op op_add (pe_op op_fdivW (pv 5) (pv 3)) pe_int) (pv 4)))))))), ?_⟩
    refine ⟨.ref t, rfl, t, _, rfl, .of ht, rfl, _, _, rfl, _, _, rfl, _, _, rfl, rfl, ?_⟩
    have ln : ((ns.map V.int).length : Int) = (ns.length : Int) := by rw [List.length_map]
    refine ⟨.int n, rfl, .ref l, rfl, .ref l, _, rfl, .inl ⟨_, .of hl, rfl⟩, _, _, rfl, rfl, _, rfl, iteD (fun e => ?_) (fun e => ?_)⟩
    · have lt : n < ns.length := by
        rw [ln] at e
        omega
      refine ⟨.ref l, rfl, .int n, rfl, l, _, _, .int (ns.getD n 0), rfl, rfl, .of hl, ints_at (by rw [List.getD_eq_getElem?_getD, List.getElem?_eq_getElem lt]; rfl), ?_⟩
      rw [← tell_lt (span := span) (step := step) lt]
      exact q
    · have ge : ns.length ≤ n := by
        rw [ln] at e
        omega
      have s1 := o.s1
      have s2 := o.s2
      have few := o.few
      refine ⟨.int n, rfl, .ref l, rfl, .ref l, _, rfl, .inl ⟨_, .of hl, rfl⟩, _, _, rfl, rfl, ?_⟩
      have ov : (n : Int) - ((ns.map V.int).length : Int) = ((n - ns.length : Nat) : Int) := by
        rw [ln]
        omega
      generalize hm : n - ns.length = m at ov
      have mf : ((m : Int)).fmod (span : Int) = ((m % span : Nat) : Int) := by
        rw [Int.fmod_eq_emod_of_nonneg _ (by omega)]
        rfl
      have dv : ((m : Int)) / (span : Int) = ((m / span : Nat) : Int) := rfl
      have lt := Nat.mod_lt m s1
      have ix : ((ns.map V.int).length : Int) - (span : Int) + ((m % span : Nat) : Int) = ((ns.length - span + m % span : Nat) : Int) := by
        rw [ln]
        omega
      have ia : atI (ns.map V.int) (((ns.map V.int).length : Int) - (span : Int) + ((m : Int)).fmod (span : Int)) = some (.int (ns.getD (ns.length - span + m % span) 0)) := by
        rw [mf, ix]
        exact ints_at (by rw [List.getD_eq_getElem?_getD, List.getElem?_eq_getElem (by omega)]; rfl)
      have mb : (((m / span + 1 : Nat) : Int)).natAbs < 2 ^ 300 := by
        rw [Int.natAbs_natCast]
        have := Nat.div_le_self m span
        have : (2 : Nat) ^ 256 < 2 ^ 300 := by decide +kernel
        omega
      rw [show (fun i j : Int => V.int (i - j)) (n : Int) ((ns.map V.int).length : Int) = V.int (m : Int) from congrArg V.int ov]
      refine ⟨.ref l, rfl, .ref l, rfl, .ref l, _, rfl, .inl ⟨_, .of hl, rfl⟩, .int span, rfl, _, _, rfl, rfl, .int m, rfl, .inl ⟨m, rfl, .int span, rfl, m, span, rfl, rfl, by omega, _, _, rfl, rfl, l, _, _, .int (ns.getD (ns.length - span + m % span) 0), rfl, rfl, .of hl, ia, .int m, rfl, .int span, rfl, m, span, rfl, rfl, wide_div (b := 30) (by omega) (by omega) (by decide) (by decide), _, _, rfl, rfl, .int step, rfl, _, _, rfl, rfl, wide_mul (a := 300) (b := 150) mb o.q (by decide) (by decide) (by decide), _, _, rfl, rfl, ?_⟩⟩
      show Q (.int (ns.getD (ns.length - span + m % span) 0 + ((m : Int) / (span : Int) + 1) * step)) H
      have te := tell_ge (some := ns) (span := span) (step := step) ge
      rw [hm] at te
      rw [te] at q
      exact q
end
end LC
namespace LC
open PySem PySem.Spec PyProof.Rows L2
/-- the places where a way to come round fails -/
def badK (a : Nat → Int) (i f : Nat) (k : Nat) : Bool := !decide (a (i + k + f) - a (i + k) = a (i + f) - a i)
def badN (a : Nat → Int) (i f n : Nat) : List Int := ((List.range n).filter (badK a i f)).map fun k => ((i + k : Nat) : Int)
theorem badN_len (a : Nat → Int) (i f n : Nat) : (badN a i f n).length ≤ n := by
  unfold badN
  rw [List.length_map]
  exact Nat.le_trans (List.length_filter_le _ _) (by rw [List.length_range]; exact Nat.le_refl _)
theorem badN_succ (a : Nat → Int) (i f n : Nat) : badN a i f (n + 1) = if badK a i f n = true then badN a i f n ++ [((i + n : Nat) : Int)] else badN a i f n := by
  unfold badN
  rw [List.range_succ, List.filter_append, List.map_append]
  by_cases h : badK a i f n = true
  · rw [if_pos h]
    simp [h]
  · rw [if_neg h]
    simp [h]
theorem badN_nil {a : Nat → Int} {i f n : Nat} : badN a i f n = [] ↔ ∀ k, k < n → a (i + k + f) - a (i + k) = a (i + f) - a i := by
  unfold badN
  rw [List.map_eq_nil_iff, List.filter_eq_nil_iff]
  simp only [List.mem_range, badK, Bool.not_eq_true', decide_eq_false_iff_not, Decidable.not_not]
theorem can_first {a : Nat → Int} {L span N d : Nat} (ev : EvR (rise a) L span) (hs : 1 ≤ span) (h1 : 1 ≤ d) (h : EvR (rise a) N d) (low : ∀ l f, l < N → 1 ≤ f → f ≤ span → ¬ EvR (rise a) l f) (few : ∀ f, 1 ≤ f → f < d → ¬ EvR (rise a) N f) : Can a N d :=
  ⟨h1, h, fun M f hf hv => Nat.le_of_not_lt fun z => low M span z hs (Nat.le_refl _) (hv.down hf ev), fun M f hf hv => Nat.le_of_not_lt fun z => few f hf z (h.down h1 hv)⟩
def spLeast (K : PySem.W.Frag) : Sp := fun vs H Q _ => ∃ (p : Addr) (v : V) (ns : List Int) (span : Nat) (step : Int), vs = [v] ∧ ToldV H p v ns span step ∧ ToldOk ns span step ∧
  ∀ (t : Addr) (N d : Nat) (H' : Hp), Can (tellAt ns span step) N d → N + d ≤ ns.length → Same H H' → SqT K H' t [.int N, .int d, .int (tellAt ns span step (N + d) - tellAt ns span step N)] → Q (.ref t) H'
section
variable {P : Program} {w : World} {K : PySem.W.Frag} {mg : Str → Option Value} {base : Heap}
abbrev s_least : Stmt := topS 30
theorem sc_least : FnScope ["told", "some", "span", "step", "most", "low", "few", "gain", "n"] ["told"] (defScope s_least) := ⟨rfl, rfl, rfl, by decide +kernel, rfl, by decide +kernel, by decide +kernel⟩
theorem ok_least {f : Addr} {fd : FuncData} (T : Txt mg) (F : FnP K "_law_least" s_least f fd) (c__law_at : Cal P w K mg base CX0 1 "_law_at" ["told", "n"] spAt) : FnOk P w K mg base CX0 2 f fd ["told"] (spLeast K) := by
  have sc := sc_least
  refine F.ok sc (fun vs H Q E h => ?_) (fun cdv A outer s H vs Q E hr h => ?_)
  · obtain ⟨p, v, ns, span, step, rfl, _⟩ := h
    rfl
  · obtain ⟨p, v, ns, span, step, rfl, hv, o, q⟩ := h
    refine ⟨_, PSs.nox (pss_cons (ps_asg (pv 0) (pg_lst rfl (pgs_cons (pg_name (i := 1) sc.nd rfl (.inl rfl)) (pgs_cons (pg_name (i := 2) sc.nd rfl (.inl rfl)) (pgs_cons (pg_name (i := 3) sc.nd rfl (.inl rfl)) pgs_nil)))))
(pss_cons (ps_set (i := 4) sc.nd rfl (.inl rfl) (pe_op op_add (pe_callB call_len (by rfl) T.n_len (by decide +kernel) (pa_cons (pv 1) pa_nil)) (pv 2)))
(pss_cons (ps_for PassesOwn.never rfl (pi_range1 rfl T.n_range (pa_cons (pe_op op_add (pe_op op_sub (pe_callB call_len (by rfl) T.n_len (by decide +kernel) (pa_cons (pv 1) pa_nil)) (pv 2)) pe_int) pa_nil)) (pg_name (i := 5) sc.nd rfl (.inl rfl))
  (pss_one (ps_for PassesOwn.never rfl (pi_range2 rfl T.n_range (pa_cons pe_int (pa_cons (pe_op op_add (pv 2) pe_int) pa_nil))) (pg_name (i := 6) sc.nd rfl (.inr rfl))
    (pss_cons (ps_set (i := 7) sc.nd rfl (.inr rfl) (pe_op op_sub (pe_cal c__law_at hr (by rfl) pass0 (pa_cons (pv 0) (pa_cons (pe_op op_add (pv 5) (pv 6)) pa_nil))) (pe_cal c__law_at hr (by rfl) pass0 (pa_cons (pv 0) (pa_cons (pv 5) pa_nil)))))
    (pss_one (ps_if (pt_cmpR (op_eqD hr.units) (pe_lc (own := [("n", 8)]) (g := (gName 8)) (te := (tVar 8)) (tt := (tTest (tOp rNe (tOp (rI0 fun i j => .int (i - j)) (tCal spAt E0 (tCons (tVar 0) (tCons (tOp (rI0 fun i j => .int (i + j)) (tVar 8) (tVar 6)) tNil))) (tCal spAt E0 (tCons (tVar 0) (tCons (tVar 8) tNil)))) (tVar 7)))) rfl sc.nd (pi_range2 rfl T.n_range (pa_cons (pv 5) (pa_cons (pv 4) pa_nil))) (blkOk_by (N := ["told", "some", "span", "step", "most", "low", "few", "gain", "n"]) (sc := defScope s_least) (by decide +kernel)) (fun _ _ _ _ _ => by exact (pg_name (i := 8) sc.nd rfl (.inl rfl))) (fun _ _ _ _ _ => by exact (pts_one (pt_cmpR op_ne (pe_op op_sub (pe_cal c__law_at hr (by rfl) pass0 (pa_cons (pv 0) (pa_cons (pe_op op_add (pv 8) (pv 6)) pa_nil))) (pe_cal c__law_at hr (by rfl) pass0 (pa_cons (pv 0) (pa_cons (pv 8) pa_nil)))) (pv 7) (nomark _)))) (fun _ _ _ _ _ => by exact (pv 8))) (pe_lst pa_nil) (nomark _))
      (pss_one (ps_ret (pe_tup (pa_cons (pv 5) (pa_cons (pv 6) (pa_cons (pv 7) pa_nil))))))
      pss_nil))))))
(pss_one (ps_ret pe_non))))), ?_⟩
    obtain ⟨t, l, rfl, tp, lp, ht, hl⟩ := id hv
    refine ⟨.ref t, rfl, t, _, rfl, .of ht, rfl, _, _, rfl, _, _, rfl, _, _, rfl, rfl, ?_⟩
    have s1 := o.s1
    have s2 := o.s2
    have few := o.few
    have ln : ((ns.map V.int).length : Int) = (ns.length : Int) := by rw [List.length_map]
    refine ⟨.ref l, rfl, .ref l, _, rfl, .inl ⟨_, .of hl, rfl⟩, .int span, rfl, _, _, rfl, rfl, ?_⟩
    rw [ln]
    generalize ha : tellAt ns span step = a at q
    have ev : EvR (rise a) (ns.length - span) span := by
      rw [← ha]
      exact (tell_ev s1 s2).rise
    have look : ∀ {low f : Nat}, low ≤ ns.length - span → ((∀ n, low ≤ n → n < ns.length + span → a (n + f) - a n = a (low + f) - a low) ↔ EvR (rise a) low f) := fun h => by
      rw [← ha]
      exact least_look s1 s2 h
    have big : 10000 ≤ 2 ^ 256 := by decide +kernel
    refine ⟨.ref l, rfl, .ref l, _, rfl, .inl ⟨_, .of hl, rfl⟩, .int span, rfl, _, _, rfl, rfl, _, _, rfl, rfl, _, rfl, ?_, ?_, ?_⟩
    · rw [ln]
      omega
    · rw [ln]
      omega
    rw [ln]
    refine for_range (lo := 0) (n := ((ns.length : Int) - (span : Int) + 1).toNat) (fun i σ H' => Same H H' ∧ (∀ l f, l < i → 1 ≤ f → f ≤ span → ¬ EvR (rise a) l f) ∧ ∃ o5 o6 o7 : Option V, σ = [some (.ref t), some (.ref l), some (.int span), some (.int step), some (.int ((ns.length : Int) + (span : Int))), o5, o6, o7, none]) ⟨Same.refl H, fun l f h => absurd h (Nat.not_lt_zero _), none, none, none, rfl⟩ ?_ ?_
    · rintro i σ H1 hi ⟨s1', low, o5, o6, o7, rfl⟩
      have iL : i ≤ ns.length - span := by omega
      have e0 : (0 : Int) + (i : Int) = ((i : Nat) : Int) := by omega
      rw [e0]
      refine ⟨.int span, rfl, _, _, rfl, rfl, _, _, rfl, by omega, ?_⟩
      refine for_range (lo := 1) (n := ((span : Int) + 1 - 1).toNat) (fun j σ H' => Same H H' ∧ (∀ f, 1 ≤ f → f < 1 + j → ¬ EvR (rise a) i f) ∧ ∃ o6 o7 : Option V, σ = [some (.ref t), some (.ref l), some (.int span), some (.int step), some (.int ((ns.length : Int) + (span : Int))), some (.int i), o6, o7, none]) ⟨s1', fun f h1 h2 => absurd h2 (by omega), o6, o7, rfl⟩ ?_ ?_
      · rintro j σ H2 hj ⟨s2', fe, o6, o7, rfl⟩
        have ej : (1 : Int) + (j : Int) = ((1 + j : Nat) : Int) := by omega
        rw [ej]
        have hj2 : 1 + j ≤ span := by omega
        generalize hf : 1 + j = fw at hj2 fe
        have hf1 : 1 ≤ fw := by omega
        -- gain
        refine ⟨.ref t, rfl, .int i, rfl, .int fw, rfl, _, _, rfl, rfl, ?_⟩
        refine ⟨p, .ref t, ns, span, step, i + fw, congrArg (fun z => [V.ref t, V.int z]) (show (i : Int) + (fw : Int) = ((i + fw : Nat) : Int) by omega), hv.same s2', o, Nat.lt_of_lt_of_le (show i + fw < 10000 by omega) big, ?_⟩
        rw [ha]
        refine ⟨.ref t, rfl, .int i, rfl, ?_⟩
        refine ⟨p, .ref t, ns, span, step, i, congrArg (fun z => [V.ref t, V.int z]) (show (i : Int) = ((i : Nat) : Int) by omega), hv.same s2', o, Nat.lt_of_lt_of_le (show i < 10000 by omega) big, ?_⟩
        rw [ha]
        refine ⟨_, _, rfl, rfl, ?_⟩
        refine ⟨.int i, rfl, .int ((ns.length : Int) + (span : Int)), rfl, _, _, rfl, by omega, fun D nD => ?_⟩
        have nD0 : H D = none := s2'.free nD
        have nn : ((ns.length : Int) + (span : Int) - (i : Int)).toNat = ns.length + span - i := by omega
        rw [nn]
        refine lc_range (lo := (i : Int)) (n := ns.length + span - i) (fun k H' => Same H2 H' ∧ H' D = some (.lst ((badN a i fw k).map V.int))) ⟨same_new nD, upd_same⟩ ?_ ?_
        · rintro k H3 hk ⟨s3, hD⟩
          have ek : (i : Int) + (k : Int) = ((i + k : Nat) : Int) := by omega
          rw [ek]
          have ikf : ((i + k : Nat) : Int) + (fw : Int) = ((i + k + fw : Nat) : Int) := by omega
          refine ⟨rfl, .ref t, rfl, .int ((i + k : Nat) : Int), rfl, .int fw, rfl, _, _, rfl, rfl, ?_⟩
          refine ⟨p, .ref t, ns, span, step, i + k + fw, congrArg (fun z => [V.ref t, V.int z]) (show ((i + k : Nat) : Int) + (fw : Int) = ((i + k + fw : Nat) : Int) by omega), hv.same (s2'.trans s3), o, Nat.lt_of_lt_of_le (show i + k + fw < 10000 by omega) big, ?_⟩
          rw [ha]
          refine ⟨.ref t, rfl, .int ((i + k : Nat) : Int), rfl, ?_⟩
          refine ⟨p, .ref t, ns, span, step, i + k, congrArg (fun z => [V.ref t, V.int z]) (show ((i + k : Nat) : Int) = ((i + k : Nat) : Int) by omega), hv.same (s2'.trans s3), o, Nat.lt_of_lt_of_le (show i + k < 10000 by omega) big, ?_⟩
          rw [ha]
          refine ⟨_, _, rfl, rfl, _, rfl, rfl, _, rfl, ?_⟩
          have sc := badN_succ a i fw k
          have lb := badN_len a i fw k
          refine iteND (fun e => ?_) (fun e => ?_)
          · have b : badK a i fw k = true := by
              unfold badK
              rw [decide_eq_false fun z => e (congrArg V.int z)]
              rfl
            rw [if_pos b] at sc
            refine ⟨_, rfl, _, hD, by rw [List.length_map]; exact sz_lt (by omega), fun b2 ob e2 => ?_, ?_⟩
            · rw [upd_ne (ne_of_none e2 nD)]
              exact s3 b2 ob e2
            · rw [upd_same, sc, List.map_append]
              rfl
          · have b : ¬ badK a i fw k = true := by
              unfold badK
              rw [decide_eq_true (V.int.inj e)]
              exact Bool.false_ne_true
            rw [if_neg b] at sc
            rw [sc]
            exact ⟨s3, hD⟩
        · rintro H3 ⟨s3, hD⟩
          refine ⟨szn 0, fun en nen => ?_⟩
          generalize hH4 : upd H3 en _ = H4
          obtain ⟨s4, e4⟩ := alloc_eq nen hH4
          refine ⟨.list ((badN a i fw (ns.length + span - i)).map PyData.int), .list (([] : List Int).map PyData.int), .lst (.of (s4 _ _ hD)) (dpAll_ints _), .lst (.of e4) .nil, shaped_ints _, shaped_ints _, _, rfl, ?_⟩
          rw [ints_eqv]
          have s24 := s3.trans s4
          have sa : Same H H4 := fun b ob e => s4 _ _ (s3 _ _ (s2' b ob e))
          refine iteD (fun e => ?_) (fun e => ?_)
          · have ok : EvR (rise a) i fw := (look iL).mp fun n h1 h2 => by
              have z := badN_nil.mp e (n - i) (by omega)
              rw [show i + (n - i) = n by omega] at z
              exact z
            have cn := can_first ev s1 hf1 ok low fe
            refine ⟨.int i, rfl, .int fw, rfl, _, rfl, szn 3, fun rt nrt => ?_⟩
            generalize hH5 : upd H4 rt _ = H5
            obtain ⟨s5, e5⟩ := alloc_eq nrt hH5
            exact q rt i fw H5 cn (by omega) (sa.trans s5) (.of e5)
          · refine ⟨sa, fun f h1 h2 hv' => ?_, _, _, rfl⟩
            by_cases z : f < fw
            · exact fe f h1 z hv'
            · have : f = fw := by omega
              subst this
              refine e (badN_nil.mpr fun k hk => ?_)
              exact (look iL).mpr hv' (i + k) (by omega) (by omega)
      · rintro σ H2 ⟨s2', fe, o6, o7, rfl⟩
        refine ⟨s2', fun l f h1 h2 h3 => ?_, _, _, _, rfl⟩
        by_cases z : l < i
        · exact low l f z h2 h3
        · have : l = i := by omega
          subst this
          exact fe f h2 (by omega)
    · rintro σ H1 ⟨s1', low, o5, o6, o7, rfl⟩
      exact absurd ev (low (ns.length - span) span (by omega) s1 (Nat.le_refl _))
end
end LC
namespace LC
open PySem PySem.Spec PyProof.Rows L2
/-- what Row(a, b, c) leaves, or raises -/
def RowOut (K : PySem.W.Frag) (C CB CM : Addr) (H : Hp) (R : Addr → Hp → Prop) (E : XK) : Except V (List Int × Nat × Int) → Prop
  | .ok (ns, p, st) => RowEnd K C CM ns p st (fun N d => ∀ x H', H x = none → Same H H' → RowAt K C H' x (tellAt ns p st) N d → R x H') E H
  | .error v => ∀ cls d H', Same H H' → BadF CB "value" v cls d H' → E cls d H'
theorem mk_row {K : PySem.W.Frag} {C CB CM : Addr} {H : Hp} {a b c : V} {o : Except V (List Int × Nat × Int)} {R : Addr → Hp → Prop} {E : XK} (arg : RowArg K H a b c o) (q : RowOut K C CB CM H R E o) :
    ∀ x dx, H x = none → H dx = none → dx ≠ x → spRowInit K C CB CM [.ref x, a, b, c] (upd (upd H dx (.own x)) x (.ins C dx [])) (fun v H2 => v = .non ∧ R x H2) E := by
  intro x dx nx ndx ne
  have s1 : Same H (upd (upd H dx (.own x)) x (.ins C dx [])) := fun b o e => by
    rw [upd_ne (ne_of_none e nx), upd_ne (ne_of_none e ndx)]
    exact e
  have fresh : ∀ {H' : Hp}, But x (upd (upd H dx (.own x)) x (.ins C dx [])) H' → Same H H' := fun k b o e => k b o (ne_of_none e nx) (s1 b o e)
  refine ⟨x, dx, a, b, c, o, rfl, upd_same, arg.same s1, ?_⟩
  cases o with
  | error v => exact fun cls d H' s2 bad => q cls d H' (s1.trans s2) bad
  | ok r =>
    obtain ⟨ns, p, st⟩ := r
    intro N d cn le
    obtain ⟨q1, q2⟩ := (show RowEnd K C CM ns p st _ E H from q) N d cn le
    exact ⟨fun l H' k ra => ⟨rfl, q1 l x H' nx (fresh k) ra⟩, fun l cls dd H' s2 bad => q2 l cls dd H' (s1.trans s2) bad⟩
/-- all that is known of the class Row, by the ways that the law takes -/
structure RowKit (P : Program) (w : World) (K : PySem.W.Frag) (mg : Str → Option Value) (base : Heap) (C CB CM : Addr) : Prop where
  S : RowTxt K mg C
  I : RowIs K C
  mkr : ∃ f fd, L2.Mk K C f ∧ FnOk P w K mg base (L2.CX P w) 4 f fd ["self", "numbers", "period", "step"] (spRowInit K C CB CM) ∧ Binds K fd ["self", "numbers", "period", "step"] [] ∧ KBn K fd ["self", "numbers", "period", "step"] 1 ["numbers", "period", "step"] (fun a b => a ++ b) (fun a b => a ++ b)
  start : ∃ p g fd, PropOf K C "start" p g ∧ FnOk P w K mg base CX0 1 g fd ["self"] (getSp C "_start") ∧ Binds K fd ["self"] []
  period : ∃ p g fd, PropOf K C "period" p g ∧ FnOk P w K mg base CX0 1 g fd ["self"] (getSp C "_period") ∧ Binds K fd ["self"] []
  step : ∃ p g fd, PropOf K C "step" p g ∧ FnOk P w K mg base CX0 1 g fd ["self"] (getSp C "_step") ∧ Binds K fd ["self"] []
  numbers : ∃ p g fd, PropOf K C "numbers" p g ∧ FnOk P w K mg base CX0 1 g fd ["self"] (getSp C "_numbers") ∧ Binds K fd ["self"] []
  get : ∃ f fd, OwnGet K C f ∧ FnOk P w K mg base (L2.CX P w) 3 f fd ["self", "at"] (spRowGet K C CB) ∧ Binds K fd ["self", "at"] []
  eq : ∃ f fd, OwnEq K C f ∧ FnOk P w K mg base CX0 1 f fd ["self", "other"] (spRowEq K C) ∧ Binds K fd ["self", "other"] []
  str : ∃ f fd, OwnStr K C f ∧ FnOk P w K mg base CX0 3 f fd ["self"] (spRowStr K C) ∧ Binds K fd ["self"] []
  nf : ∀ n ∈ kinds, PySem.W.notFirst K C (.type n) = true
theorem RowKit.nfs {P : Program} {w : World} {K : PySem.W.Frag} {mg : Str → Option Value} {base : Heap} {C CB CM : Addr} (_ : RowKit P w K mg base C CB CM) : PySem.W.notFirst K C (.ref C) = true := by
  unfold PySem.W.notFirst
  rw [beq_self_eq_true]
  rfl
theorem ToldOk.end_ {ns : List Int} {span : Nat} {step : Int} (o : ToldOk ns span step) {K : PySem.W.Frag} {C CM : Addr} {ok : Nat → Nat → Prop} {E : XK} {H : Hp} (q : ∀ N d, Can (tellAt ns span step) N d → N + d ≤ ns.length → ok N d) : RowEnd K C CM ns span step ok E H := fun N d cn le => by
  have := o.few
  exact ⟨fun _ => q N d cn le, fun z => absurd z (by omega)⟩
def spRow (K : PySem.W.Frag) (C : Addr) : Sp := fun vs H Q _ => ∃ (p : Addr) (v : V) (b : Bool) (ns : List Int) (span : Nat) (step : Int), vs = [v, .bl b] ∧ ToldV H p v ns span step ∧ ToldOk ns span step ∧
  ∀ (x : Addr) (N d : Nat) (H' : Hp), Can (tellAt ns span step) N d → N + d ≤ ns.length → H x = none → Same H H' → RowAt K C H' x (tellAt ns span step) N d → Q (.ref x) H'
section
variable {P : Program} {w : World} {K : PySem.W.Frag} {mg : Str → Option Value} {base : Heap}
abbrev s_row : Stmt := topS 32
theorem sc_row : FnScope ["told", "is_list"] ["told", "is_list"] (defScope s_row) := ⟨rfl, rfl, rfl, by decide +kernel, rfl, by decide +kernel, by decide +kernel⟩
theorem ok_law_row {f C CB CM : Addr} {fd : FuncData} (T : Txt mg) (RK : RowKit P w K mg base C CB CM) (F : FnP K "_law_row" s_row f fd) : FnOk P w K mg base (L2.CX P w) 6 f fd ["told", "is_list"] (spRow K C) := by
  have sc := sc_row
  obtain ⟨fI, fdI, M, FI, BI, _⟩ := RK.mkr
  refine F.ok sc (fun vs H Q E h => ?_) (fun cdv A outer s H vs Q E hr h => ?_)
  · obtain ⟨p, v, b, ns, span, step, rfl, _⟩ := h
    rfl
  · obtain ⟨p, v, b, ns, span, step, rfl, ⟨t, l, rfl, _, _, ht, hl⟩, o, q⟩ := h
    refine ⟨_, (pss_one (ps_ret (pe_make M FI hr (by rfl) RK.S.g_Row BI .nil passL (pa_cons (pe_ifExp (pt_val (pv 1)) (pe_callTy call_list_of (by rfl) T.n_list (by decide +kernel) (pa_cons (pe_ix ix_list (pv 0) pe_int (fun _ _ => rfl)) pa_nil)) (pe_callTy call_tuple_of (by rfl) T.n_tuple (by decide +kernel) (pa_cons (pe_ix ix_list (pv 0) pe_int (fun _ _ => rfl)) pa_nil))) (pa_cons (pe_ix ix_list (pv 0) pe_int (fun _ _ => rfl)) (pa_cons (pe_ix ix_list (pv 0) pe_int (fun _ _ => rfl)) pa_nil)))))), ?_⟩
    have fin : ∀ {H1 : Hp} {a : V}, Same H H1 → SeqOf K H1 a (ns.map V.int) → ∀ x dx, H1 x = none → H1 dx = none → dx ≠ x → spRowInit K C CB CM [.ref x, a, .int span, .int step] (upd (upd H1 dx (.own x)) x (.ins C dx [])) (fun v H2 => v = .non ∧ Q (.ref x) H2) E0 := fun {H1 a} s1 sq => by
      refine mk_row (o := .ok (ns, span, step)) (.ok sq (by have := o.few; omega) rfl o.s1 o.s2 rfl) ?_
      exact ToldOk.end_ (K := K) (C := C) o fun N d cn le x H' nx s2 ra => q x N d H' cn le (s1.free nx) (s1.trans s2) ra
    cases b with
    | true =>
      refine ⟨.bl true, rfl, true, rfl, iteT ?_⟩
      refine ⟨.ref t, rfl, t, _, 0, .ref l, rfl, rfl, .of ht, rfl, l, _, rfl, .inl (.of hl), fun a na => ?_⟩
      generalize hH1 : upd H a _ = H1
      obtain ⟨s1, e1⟩ := alloc_eq na hH1
      refine ⟨.ref t, rfl, t, _, 1, .int span, rfl, rfl, .of (s1 _ _ ht), rfl, .ref t, rfl, t, _, 2, .int step, rfl, rfl, .of (s1 _ _ ht), rfl, ?_⟩
      exact fin s1 ⟨a, rfl, .inl (.of e1)⟩
    | false =>
      refine ⟨.bl false, rfl, false, rfl, iteF ?_⟩
      refine ⟨.ref t, rfl, t, _, 0, .ref l, rfl, rfl, .of ht, rfl, l, _, rfl, .inl ⟨.of hl, fun a na => ?_⟩⟩
      generalize hH1 : upd H a _ = H1
      obtain ⟨s1, e1⟩ := alloc_eq na hH1
      refine ⟨.ref t, rfl, t, _, 1, .int span, rfl, rfl, .of (s1 _ _ ht), rfl, .ref t, rfl, t, _, 2, .int step, rfl, rfl, .of (s1 _ _ ht), rfl, ?_⟩
      exact fin s1 ⟨a, rfl, .inr (.of e1)⟩
end
end LC
namespace LC
open PySem PySem.Spec PyProof.Rows L2
theorem tell_bound {ns : List Int} {span : Nat} {step : Int} {B : Nat} (h0 : 0 < B) (h : ∀ x ∈ ns, x.natAbs < B) (hq : step.natAbs < B) (n : Nat) : (tellAt ns span step n).natAbs < B + (n + 1) * B := by
  have gd : ∀ i, (ns.getD i 0).natAbs < B := fun i => by
    rw [List.getD_eq_getElem?_getD]
    cases e : ns[i]? with
    | none => exact h0
    | some x => exact h x (List.mem_of_getElem? e)
  unfold tellAt
  split
  · have := gd n
    omega
  · have a := gd (ns.length - span + (n - ns.length) % span)
    generalize ns.getD (ns.length - span + (n - ns.length) % span) 0 = x at a
    have b : ((((n - ns.length) / span + 1 : Nat) : Int) * step).natAbs ≤ (n + 1) * B := by
      rw [Int.natAbs_mul, Int.natAbs_natCast]
      refine Nat.mul_le_mul ?_ (Nat.le_of_lt hq)
      have := Nat.div_le_self (n - ns.length) span
      omega
    have c := Int.natAbs_add_le x ((((n - ns.length) / span + 1 : Nat) : Int) * step)
    omega
/-- a told row of smaller numbers -/
structure ToldSm (ns : List Int) (span : Nat) (step : Int) : Prop where
  s1 : 1 ≤ span
  s2 : span ≤ ns.length
  few : ns.length + 2 * span + 4 ≤ 1300
  n : ∀ x ∈ ns, x.natAbs < 2 ^ 130
  q : step.natAbs < 2 ^ 130
theorem ToldSm.ok {ns : List Int} {span : Nat} {step : Int} (h : ToldSm ns span step) : ToldOk ns span step := by
  have e : (2 : Nat) ^ 130 < 2 ^ 150 := by decide +kernel
  exact ⟨h.s1, h.s2, by have := h.few; omega, fun x hx => Nat.lt_trans (h.n x hx) e, Nat.lt_trans h.q e⟩
theorem ToldSm.at_ {ns : List Int} {span : Nat} {step : Int} (h : ToldSm ns span step) {n : Nat} (hn : n < 10000) : (tellAt ns span step n).natAbs < 2 ^ 150 := by
  have a := tell_bound (B := 2 ^ 130) (by decide +kernel) h.n h.q (span := span) n
  have b : (n + 1) * 2 ^ 130 ≤ 10000 * 2 ^ 130 := Nat.mul_le_mul_right _ hn
  have c : (2 : Nat) ^ 130 + 10000 * 2 ^ 130 < 2 ^ 150 := by decide +kernel
  omega
/-- the same numbers, more of them, told by a longer period -/
theorem tell_other {ns : List Int} {span t m : Nat} {step : Int} (h1 : 1 ≤ span) (h2 : span ≤ ns.length) (ht : 1 ≤ t) (hm : ns.length + (t - 1) * span ≤ m) : ∀ n, tellAt (firsts (tellAt ns span step) m) (t * span) (t * step) n = tellAt ns span step n := by
  have e1 : t * span = (t - 1) * span + span := by
    obtain ⟨k, rfl⟩ := Nat.exists_eq_add_of_le ht
    rw [Nat.add_comm 1 k, Nat.add_sub_cancel, Nat.succ_mul]
  have l1 : 1 ≤ t * span := by omega
  have l2 : t * span ≤ (firsts (tellAt ns span step) m).length := by rw [firsts_len]; omega
  have ea := tell_ev (step := (t : Int) * step) l1 l2
  have eb : EvP (tellAt ns span step) (ns.length - span) (t * span) (t * step) := fun n hn => (tell_ev (step := step) h1 h2).mul t n hn
  have eb2 : EvP (tellAt ns span step) ((firsts (tellAt ns span step) m).length - t * span) (t * span) (t * step) := fun n hn => eb n (by rw [firsts_len] at hn; omega)
  refine seq_ext l1 ea eb2 fun n hn => ?_
  have ln : n < (firsts (tellAt ns span step) m).length := by omega
  rw [tell_lt ln, List.getD_eq_getElem?_getD, firsts_at (by rw [firsts_len] at ln; exact ln)]
  rfl
def spOther : Sp := fun vs H Q _ => ∃ (p c : Addr) (n : Nat) (v : V) (ns : List Int) (span : Nat) (step : Int), vs = [.ref p, v] ∧ Pen H p c n ∧ n ≤ 90000 ∧ ToldV H p v ns span step ∧ ToldSm ns span step ∧
  ∀ (v' : V) (ns' : List Int) (span' : Nat) (step' : Int) (H' : Hp), ToldV H' p v' ns' span' step' → ToldOk ns' span' step' → (∀ i, tellAt ns' span' step' i = tellAt ns span step i) → But p H H' → Pen H' p c (n + 2) → Q v' H'
section
variable {P : Program} {w : World} {K : PySem.W.Frag} {mg : Str → Option Value} {base : Heap}
abbrev s_other : Stmt := topS 31
theorem sc_other : FnScope ["pen", "told", "some", "span", "step", "times", "many", "n"] ["pen", "told"] (defScope s_other) := ⟨rfl, rfl, rfl, by decide +kernel, rfl, by decide +kernel, by decide +kernel⟩
theorem ok_other {f : Addr} {fd : FuncData} (T : Txt mg) (F : FnP K "_law_other" s_other f fd) (c__law_draw : Cal P w K mg base CX0 1 "_law_draw" ["pen", "many"] spDraw) (c__law_at : Cal P w K mg base CX0 1 "_law_at" ["told", "n"] spAt) : FnOk P w K mg base CX0 2 f fd ["pen", "told"] spOther := by
  have sc := sc_other
  refine F.ok sc (fun vs H Q E h => ?_) (fun cdv A outer s H vs Q E hr h => ?_)
  · obtain ⟨p, c, n, v, ns, span, step, rfl, _⟩ := h
    rfl
  · obtain ⟨p, c, n, v, ns, span, step, rfl, hP, hn, hv, o, q⟩ := h
    refine ⟨_, PSs.nox (pss_cons (ps_asg (pv 1) (pg_lst rfl (pgs_cons (pg_name (i := 2) sc.nd rfl (.inl rfl)) (pgs_cons (pg_name (i := 3) sc.nd rfl (.inl rfl)) (pgs_cons (pg_name (i := 4) sc.nd rfl (.inl rfl)) pgs_nil)))))
(pss_cons (ps_set (i := 5) sc.nd rfl (.inl rfl) (pe_op op_add pe_int (pe_cal c__law_draw hr (by rfl) pass0 (pa_cons (pv 0) (pa_cons pe_int pa_nil)))))
(pss_cons (ps_set (i := 6) sc.nd rfl (.inl rfl) (pe_op op_add (pe_op op_add (pe_callB call_len (by rfl) T.n_len (by decide +kernel) (pa_cons (pv 2) pa_nil)) (pe_op op_mul (pe_op op_sub (pv 5) pe_int) (pv 3))) (pe_cal c__law_draw hr (by rfl) pass0 (pa_cons (pv 0) (pa_cons pe_int pa_nil)))))
(pss_one (ps_ret (pe_lst (pa_cons (pe_lc (own := [("n", 7)]) (g := (gName 7)) (te := (tCal spAt E0 (tCons (tVar 1) (tCons (tVar 7) tNil)))) (tt := tYes) rfl sc.nd (pi_range1 rfl T.n_range (pa_cons (pv 6) pa_nil)) (blkOk_by (N := ["pen", "told", "some", "span", "step", "times", "many", "n"]) (sc := defScope s_other) (by decide +kernel)) (fun _ _ _ _ _ => by exact (pg_name (i := 7) sc.nd rfl (.inl rfl))) (fun _ _ _ _ _ => by exact pts_nil) (fun _ _ _ _ _ => by exact (pe_cal c__law_at hr (by rfl) pass0 (pa_cons (pv 1) (pa_cons (pv 7) pa_nil))))) (pa_cons (pe_op op_mul (pv 5) (pv 3)) (pa_cons (pe_op op_mul (pv 5) (pv 4)) pa_nil))))))))), ?_⟩
    obtain ⟨t, l, rfl, tp, lp, ht, hl⟩ := id hv
    have s1 := o.s1
    have s2 := o.s2
    have few := o.few
    refine ⟨.ref t, rfl, t, _, rfl, .of ht, rfl, _, _, rfl, _, _, rfl, _, _, rfl, rfl, ?_⟩
    refine ⟨.ref p, rfl, p, c, n, 3, rfl, hP, by omega, by decide, by decide, fun d1 H1 a0 a1 k1 P1 => ?_⟩
    refine ⟨_, _, rfl, rfl, ?_⟩
    obtain ⟨tm, rfl⟩ : ∃ k : Nat, d1 = (k : Int) := ⟨d1.toNat, (Int.toNat_of_nonneg a0).symm⟩
    have hl1 := k1 _ _ lp hl
    refine ⟨.ref l, rfl, .ref l, _, rfl, .inl ⟨_, .of hl1, rfl⟩, .int (1 + (tm : Int)), rfl, _, _, rfl, rfl, .int span, rfl, _, _, rfl, rfl, .inl ⟨?_, ?_⟩, _, _, rfl, rfl, .ref p, rfl, p, c, n + 1, 5, rfl, P1, by omega, by decide, by decide, fun d2 H2 b0 b1 k2 P2 => ?_⟩
    · show -(2 ^ 64) < (1 + (tm : Int)) - 1
      omega
    · show (1 + (tm : Int)) - 1 < 2 ^ 64
      omega
    refine ⟨_, _, rfl, rfl, ?_⟩
    obtain ⟨e, rfl⟩ : ∃ k : Nat, d2 = (k : Int) := ⟨d2.toNat, (Int.toNat_of_nonneg b0).symm⟩
    have em : ((ns.map V.int).length : Int) + (1 + (tm : Int) - 1) * (span : Int) + (e : Int) = ((ns.length + tm * span + e : Nat) : Int) := by
      rw [List.length_map, show (1 : Int) + (tm : Int) - 1 = (tm : Int) by omega]
      push_cast
      rfl
    have tm3 : tm < 3 := by omega
    have sp3 : tm * span ≤ 2 * span := Nat.mul_le_mul_right _ (by omega)
    generalize hm : ns.length + tm * span + e = m at em
    have m13 : m ≤ 1300 := by omega
    have k12 := k1.trans k2
    have hv2 := hv.but k12
    refine ⟨.int _, rfl, m, congrArg (fun z => [V.int z]) em, by omega, by omega, fun D nD => ?_⟩
    have Dp : D ≠ p := P2.newP nD
    rw [show ((m : Int)).toNat = m from rfl]
    have oo := o.ok
    refine lc_range (lo := 0) (n := m) (fun i H' => Same H2 H' ∧ H' D = some (.lst ((firsts (tellAt ns span step) i).map V.int))) ⟨same_new nD, upd_same⟩ ?_ ?_
    · rintro i H3 hi ⟨s3, hD⟩
      rw [show (0 : Int) + (i : Int) = ((i : Nat) : Int) by omega]
      refine ⟨rfl, tyes_of ?_⟩
      refine ⟨.ref t, rfl, .int i, rfl, p, .ref t, ns, span, step, i, rfl, hv2.same s3, oo, Nat.lt_of_lt_of_le (show i < 10000 by omega) (by decide +kernel), _, hD, ?_, fun b ob e2 => ?_, ?_⟩
      · rw [List.length_map, firsts_len]
        exact sz_lt (by omega)
      · rw [upd_ne (ne_of_none e2 nD)]
        exact s3 _ _ e2
      · rw [upd_same]
        unfold firsts
        rw [List.range_succ, List.map_append, List.map_append]
        rfl
    · rintro H3 ⟨s3, hD⟩
      refine ⟨.int (1 + (tm : Int)), rfl, .int span, rfl, _, _, rfl, rfl, .inl ⟨by omega, by omega⟩, .int (1 + (tm : Int)), rfl, .int step, rfl, _, _, rfl, rfl, .inl ⟨by omega, by omega⟩, szn 3, fun r nr => ?_⟩
      have e1 : (1 + (tm : Int)) * (span : Int) = (((tm + 1) * span : Nat) : Int) := by
        push_cast
        rw [Int.add_comm]
      have e2 : (1 + (tm : Int)) * step = (((tm + 1 : Nat) : Int)) * step := by
        push_cast
        rw [Int.add_comm]
      dsimp only
      rw [e1, e2]
      generalize hH4 : upd H3 r _ = H4
      obtain ⟨s4, e4⟩ := alloc_eq nr hH4
      have s24 := s3.trans s4
      have P4 := P2.same s24
      refine q (.ref r) (firsts (tellAt ns span step) m) ((tm + 1) * span) (((tm + 1 : Nat) : Int) * step) H4 ⟨r, D, rfl, (P2.same s3).newP nr, Dp, e4, s4 _ _ hD⟩ ⟨?_, ?_, ?_, ?_, ?_⟩ (tell_other s1 s2 (by omega) (by rw [Nat.add_sub_cancel]; omega)) (k12.trans (.same s24)) (P4.mono (by omega))
      · exact Nat.le_trans s1 (Nat.le_mul_of_pos_left _ (by omega))
      · rw [firsts_len, Nat.succ_mul]
        omega
      · rw [firsts_len]
        exact m13
      · intro x hx
        obtain ⟨i, hi, rfl⟩ := mem_firsts hx
        exact o.at_ (by omega)
      · rw [Int.natAbs_mul, Int.natAbs_natCast]
        have := Nat.mul_le_mul (show tm + 1 ≤ 4 by omega) (Nat.le_of_lt o.q)
        have : (4 : Nat) * 2 ^ 130 < 2 ^ 150 := by decide +kernel
        omega
end
end LC
namespace LC
open PySem PySem.Spec PyProof.Rows L2
theorem mul_bd {g z : Int} {A : Nat} (h1 : 1 ≤ g) (h2 : g ≤ 10 ^ 29) (hz : z.natAbs ≤ A) : (g * z).natAbs ≤ A * 10 ^ 29 := by
  rw [Int.natAbs_mul, Nat.mul_comm]
  exact Nat.mul_le_mul hz (by omega)
/-- a list of such numbers, apart from the pen -/
def NumsAt (H : Hp) (p a : Addr) (ns : List Int) (A : Nat) : Prop := H a = some (.lst (ns.map V.int)) ∧ a ≠ p ∧ ∀ x ∈ ns, x.natAbs ≤ A * 10 ^ 29
theorem NumsAt.but {H H' : Hp} {p a : Addr} {ns : List Int} {A : Nat} (h : NumsAt H p a ns A) (k : But p H H') : NumsAt H' p a ns A := ⟨k _ _ h.2.1 h.1, h.2.1, h.2.2⟩
theorem NumsAt.mono {H : Hp} {p a : Addr} {ns : List Int} {A B : Nat} (h : NumsAt H p a ns A) (l : A ≤ B) : NumsAt H p a ns B := ⟨h.1, h.2.1, fun x hx => Nat.le_trans (h.2.2 x hx) (Nat.mul_le_mul_right _ l)⟩
theorem draws_lc {p c D : Addr} {g : Int} {n m : Nat} {H1 H0 : Hp} {σ : L2.St} {vs : List Nat} {Qd : Hp → Prop} (h1 : 1 ≤ g) (h2 : g ≤ 10 ^ 29) (hp : (wipe σ vs)[0]? = some (some (.ref p))) (hg : (wipe σ vs)[1]? = some (some (.int g))) (hw : ∀ v, wipe ((wipe σ vs).set 8 v) vs = wipe σ vs)
    (k0 : But p H0 H1) (P1 : Pen H1 p c n) (nD : H1 D = none) (nD0 : H0 D = none) (hn : n + m ≤ 90000) (hm : m ≤ 100) (hd : ∀ (xs : List Int) (H : Hp), xs.length = m → NumsAt H p D xs 4 → But p H0 H → Pen H p c (n + m) → Qd H) :
    ∃ W : Nat → Nat → Hp → Prop, (∃ k, W 0 k (upd H1 D (.lst []))) ∧ ∀ i k H, W i k H →
      ((Itr 0 m).stop i H ∧ Qd H) ∨ ((Itr 0 m).go i H ∧ ∃ Nx : Hp → Prop, (∀ H', Nx H' → ∃ m', m' < k ∧ W (i + 1) m' H') ∧ ∀ x H', (Itr 0 m).yld i H x H' → gName 8 x (wipe σ vs) H' fun σ2 H2 => wipe σ2 vs = wipe σ vs ∧ tYes σ2 H2 fun b H3 =>
        if b = true then (tOp (rI CMul fun i j => .int (i * j)) (tVar 1) (tOp (rI0 fun i j => .int (i - j)) (tCal spDraw E0 (tCons (tVar 0) (tCons (tC (.int 9)) tNil))) (tC (.int 4)))) σ2 H3 fun y H4 => ∃ acc, H4 D = some (.lst acc) ∧ acc.length < sizeLine ∧ Nx (upd H4 D (.lst (acc ++ [y]))) else Nx H3) := by
  have Dp : D ≠ p := P1.newP nD
  have Dc : D ≠ c := P1.newC nD
  refine lc_range (lo := 0) (n := m) (fun i H' => ∃ xs : List Int, xs.length = i ∧ NumsAt H' p D xs 4 ∧ But p H0 H' ∧ Pen H' p c (n + i)) ⟨[], rfl, ⟨upd_same, Dp, fun x hx => nomatch hx⟩, k0.trans (.new nD), P1.new nD⟩ ?_ ?_
  · rintro i H2 hi ⟨xs, lx, ⟨hD, _, hx⟩, k2, P2⟩
    have q0 : ((wipe σ vs).set 8 (some (.int (0 + (i : Int)))))[0]? = some (some (.ref p)) := by rw [List.getElem?_set_ne (by decide)]; exact hp
    have q1 : ((wipe σ vs).set 8 (some (.int (0 + (i : Int)))))[1]? = some (some (.int g)) := by rw [List.getElem?_set_ne (by decide)]; exact hg
    refine ⟨hw _, tyes_of ?_⟩
    refine ⟨.int g, q1, .ref p, q0, p, c, n + i, 9, rfl, P2, by omega, by decide, by decide, fun d H3 d0 d1 k3 P3 => ?_⟩
    refine ⟨_, _, rfl, rfl, _, _, rfl, rfl, .inr ⟨by show -(2 ^ 64) < d - 4; omega, by show d - 4 < 2 ^ 64; omega⟩, _, k3 _ _ Dp hD, ?_, xs ++ [g * (d - 4)], ?_, ⟨?_, Dp, ?_⟩, ?_, ?_⟩
    · rw [List.length_map]
      exact sz_lt (by omega)
    · rw [List.length_append, lx]
      rfl
    · rw [upd_same, List.map_append]
      rfl
    · intro x hx2
      rcases List.mem_append.mp hx2 with h | h
      · exact hx x h
      · rw [List.mem_singleton.mp h]
        exact mul_bd h1 h2 (by omega)
    · exact (k2.trans k3).mut nD0
    · exact (P3.mono (by omega)).mut Dp Dc
  · rintro H2 ⟨xs, lx, hx, k2, P2⟩
    exact hd xs H2 lx hx k2 P2
def spTold : Sp := fun vs H Q _ => ∃ (p c : Addr) (n : Nat), vs = [.ref p] ∧ Pen H p c n ∧ n ≤ 80000 ∧ ∀ (v : V) (ns : List Int) (span : Nat) (step : Int) (H' : Hp), ToldV H' p v ns span step → ToldSm ns span step → ns.length ≤ 24 → But p H H' → Pen H' p c (n + 40) → Q v H'
section
variable {P : Program} {w : World} {K : PySem.W.Frag} {mg : Str → Option Value} {base : Heap}
abbrev s_told : Stmt := topS 28
theorem sc_told : FnScope ["pen", "great", "many", "span", "step", "part", "slow", "head", "k", "number"] ["pen"] (defScope s_told) := ⟨rfl, rfl, rfl, by decide +kernel, rfl, by decide +kernel, by decide +kernel⟩
theorem ok_told {f : Addr} {fd : FuncData} (T : Txt mg) (F : FnP K "_law_told" s_told f fd) (c__law_draw : Cal P w K mg base CX0 2 "_law_draw" ["pen", "many"] spDraw) (c__law_pick : Cal P w K mg base CX0 2 "_law_pick" ["pen", "some"] spPick) : FnOk P w K mg base CX0 3 f fd ["pen"] spTold := by
  have sc := sc_told
  refine F.ok sc (fun vs H Q E h => ?_) (fun cdv A outer s H vs Q E hr h => ?_)
  · obtain ⟨p, c, n, rfl, _⟩ := h
    rfl
  · obtain ⟨p, c, n, rfl, hP, hn, q⟩ := h
    refine ⟨_, PSs.nox (Evl.pss_cut (ps_set (i := 1) sc.nd rfl (.inr rfl) (pe_cal c__law_pick hr (by rfl) pass0 (pa_cons (pv 0) (pa_cons (pe_lst (pa_cons pe_int (pa_cons pe_int (pa_cons pe_int (pa_cons (pe_op op_pow pe_int pe_int) (pa_cons (pe_op op_pow pe_int pe_int) pa_nil)))))) pa_nil))))
(Evl.pss_cut (ps_set (i := 2) sc.nd rfl (.inl rfl) (pe_op op_add pe_int (pe_cal c__law_draw hr (by rfl) pass0 (pa_cons (pv 0) (pa_cons (pe_cal c__law_pick hr (by rfl) pass0 (pa_cons (pv 0) (pa_cons (pe_lst (pa_cons pe_int (pa_cons pe_int (pa_cons pe_int (pa_cons pe_int pa_nil))))) pa_nil))) pa_nil)))))
(Evl.pss_cut (ps_set (i := 3) sc.nd rfl (.inr rfl) (pe_lc (own := [("k", 8)]) (g := (gName 8)) (te := (tOp (rI CMul fun i j => .int (i * j)) (tVar 1) (tOp (rI0 fun i j => .int (i - j)) (tCal spDraw E0 (tCons (tVar 0) (tCons (tC (.int 9)) tNil))) (tC (.int 4))))) (tt := tYes) rfl sc.nd (pi_range1 rfl T.n_range (pa_cons (pv 2) pa_nil)) (blkOk_by (N := ["pen", "great", "many", "span", "step", "part", "slow", "head", "k", "number"]) (sc := defScope s_told) (by decide +kernel)) (fun _ _ _ _ _ => by exact (pg_name (i := 8) sc.nd rfl (.inl rfl))) (fun _ _ _ _ _ => by exact pts_nil) (fun _ _ _ _ _ => by exact (pe_op op_mul (pv 1) (pe_op op_sub (pe_cal c__law_draw hr (by rfl) pass0 (pa_cons (pv 0) (pa_cons pe_int pa_nil))) pe_int)))))
(Evl.pss_cut (ps_set (i := 4) sc.nd rfl (.inr rfl) (pe_op op_mul (pv 1) (pe_cal c__law_pick hr (by rfl) pass0 (pa_cons (pv 0) (pa_cons (pe_lst (pa_cons pe_int (pa_cons pe_int (pa_cons pe_int (pa_cons pe_int (pa_cons pe_int (pa_cons (pv 2) (pa_cons (pe_un un_neg pe_int) (pa_cons (pe_un un_neg pe_int) (pa_cons pe_int pa_nil)))))))))) pa_nil)))))
(Evl.pss_cut (ps_if (pt_cmpR op_eq (pe_cal c__law_draw hr (by rfl) pass0 (pa_cons (pv 0) (pa_cons pe_int pa_nil))) pe_int (nomark _))
  (pss_cons (ps_asg (pe_tup (pa_cons (pe_op op_add pe_int (pe_cal c__law_draw hr (by rfl) pass0 (pa_cons (pv 0) (pa_cons (pv 2) pa_nil)))) (pa_cons (pe_op op_sub (pe_cal c__law_draw hr (by rfl) pass0 (pa_cons (pv 0) (pa_cons pe_int pa_nil))) pe_int) pa_nil))) (pg_tup rfl (pgs_cons (pg_name (i := 5) sc.nd rfl (.inr rfl)) (pgs_cons (pg_name (i := 6) sc.nd rfl (.inr rfl)) pgs_nil))))
  (pss_cons (ps_set (i := 3) sc.nd rfl (.inr rfl) (pe_lc (own := [("k", 8)]) (g := (gName 8)) (te := (tOp (rI0 fun i j => .int (i + j)) (tOp (rIxL K) (tVar 3) (tOp (rI (fun _ j => j ≠ 0) fun i j => .int (i.fmod j)) (tCB (fun xs H Q => (∃ i, xs = [.int i] ∧ Q (.int i) H) ∨ ∃ k, xs = [.bl k] ∧ Q (.int (if k then 1 else 0)) H) (tCons (tVar 8) tNil)) (tVar 5))) (tOp (rI CMul fun i j => .int (i * j)) (tOp (rI CMul fun i j => .int (i * j)) (tOp (rI CDivW fun i j => .int (i / j)) (tVar 8) (tVar 5)) (tVar 6)) (tVar 1)))) (tt := tYes) rfl sc.nd (pi_range1 rfl T.n_range (pa_cons (pe_op op_mul pe_int (pv 5)) pa_nil)) (blkOk_by (N := ["pen", "great", "many", "span", "step", "part", "slow", "head", "k", "number"]) (sc := defScope s_told) (by decide +kernel)) (fun _ _ _ _ _ => by exact (pg_name (i := 8) sc.nd rfl (.inl rfl))) (fun _ _ _ _ _ => by exact pts_nil) (fun _ _ _ _ _ => by exact (pe_op op_add (pe_ix ix_list (pv 3) (pe_op op_modN (pe_callTy call_int1 (by rfl) T.n_int (by decide +kernel) (pa_cons (pv 8) pa_nil)) (pv 5)) (fun _ _ => rfl)) (pe_op op_mul (pe_op op_mul (pe_op op_fdivW (pv 8) (pv 5)) (pv 6)) (pv 1))))))
  (pss_one (ps_set (i := 4) sc.nd rfl (.inr rfl) (pe_op op_mul (pe_op op_mul pe_int (pv 6)) (pv 1))))))
  pss_nil)
(Evl.pss_cut (ps_setLc (i := 7) (own := [("k", 8)]) (g := (gName 8)) (te := (tOp (rI CMul fun i j => .int (i * j)) (tVar 1) (tOp (rI0 fun i j => .int (i - j)) (tCal spDraw E0 (tCons (tVar 0) (tCons (tC (.int 9)) tNil))) (tC (.int 4))))) (tt := tYes) rfl sc.nd rfl rfl (by rfl) (pi_range1 rfl T.n_range (pa_cons (pe_cal c__law_draw hr (by rfl) pass0 (pa_cons (pv 0) (pa_cons pe_int pa_nil))) pa_nil)) (blkOk_by (N := ["pen", "great", "many", "span", "step", "part", "slow", "head", "k", "number"]) (sc := defScope s_told) (by decide +kernel)) (fun _ _ _ _ _ => by exact (pg_name (i := 8) sc.nd rfl (.inl rfl))) (fun _ _ _ _ _ => by exact pts_nil) (fun _ _ _ _ _ => by exact (pe_op op_mul (pv 1) (pe_op op_sub (pe_cal c__law_draw hr (by rfl) pass0 (pa_cons (pv 0) (pa_cons pe_int pa_nil))) pe_int))))
(Evl.pss_cut (ps_if (pt_cmpR op_eq (pe_cal c__law_draw hr (by rfl) pass0 (pa_cons (pv 0) (pa_cons pe_int pa_nil))) pe_int (nomark _))
  (pss_one (ps_setLc (i := 7) (own := [("number", 9)]) (g := (gName 9)) (te := (tOp (rI0 fun i j => .int (i - j)) (tVar 9) (tVar 4))) (tt := tYes) rfl sc.nd rfl rfl (by rfl) (pi_list (pv 3)) (blkOk_by (N := ["pen", "great", "many", "span", "step", "part", "slow", "head", "k", "number"]) (sc := defScope s_told) (by decide +kernel)) (fun _ _ _ _ _ => by exact (pg_name (i := 9) sc.nd rfl (.inl rfl))) (fun _ _ _ _ _ => by exact pts_nil) (fun _ _ _ _ _ => by exact (pe_op op_sub (pv 9) (pv 4)))))
  pss_nil)
(pss_one (ps_ret (pe_lst (pa_cons (pe_op op_cat (pv 7) (pv 3)) (pa_cons (pe_callB call_len (by rfl) T.n_len (by decide +kernel) (pa_cons (pv 3) pa_nil)) (pa_cons (pv 4) pa_nil))))))))))))), ?_⟩
    -- great
    refine ⟨fun σ' H' => ∃ g : Int, 1 ≤ g ∧ g ≤ 10 ^ 29 ∧ But p H H' ∧ Pen H' p c (n + 1) ∧ σ' = [some (.ref p), some (.int g), none, none, none, none, none, none, none, none], ?_, ?_⟩
    · refine ⟨.ref p, rfl, 10, 12, rfl, rfl, ⟨by decide, by decide, by decide⟩, 10, 29, rfl, rfl, ⟨by decide, by decide, by decide⟩, szn 5, alloc_of fun l H1 n1 s1 e1 => ?_⟩
      refine ⟨p, c, n, l, _, rfl, hP.same s1, by omega, e1, hP.newP n1, by show 0 < 5; decide, by show 5 ≤ 1000; decide, fun v H2 hv k2 P2 => ?_⟩
      have K2 : But p H H2 := (But.same s1).trans k2
      have hv' : v ∈ ([.int 1, .int 1, .int 1, .int (10 ^ (12 : Int).toNat), .int (10 ^ (29 : Int).toNat)] : List V) := hv
      simp only [List.mem_cons, List.not_mem_nil, or_false] at hv'
      rcases hv' with e | e | e | e | e <;> subst e
      · exact ⟨1, by decide, by decide +kernel, K2, P2, rfl⟩
      · exact ⟨1, by decide, by decide +kernel, K2, P2, rfl⟩
      · exact ⟨1, by decide, by decide +kernel, K2, P2, rfl⟩
      · exact ⟨_, by decide +kernel, by decide +kernel, K2, P2, rfl⟩
      · exact ⟨_, by decide +kernel, by decide +kernel, K2, P2, rfl⟩
    rintro σ' Ha ⟨g, g1, g2, ka, Pa, rfl⟩
    -- many
    refine ⟨fun σ' H' => ∃ m : Nat, 1 ≤ m ∧ m ≤ 6 ∧ But p H H' ∧ Pen H' p c (n + 3) ∧ σ' = [some (.ref p), some (.int g), some (.int m), none, none, none, none, none, none, none], ?_, ?_⟩
    · refine ⟨.ref p, rfl, .ref p, rfl, szn 4, alloc_of fun l H1 n1 s1 e1 => ?_⟩
      refine ⟨p, c, n + 1, l, _, rfl, Pa.same s1, by omega, e1, Pa.newP n1, by show 0 < 4; decide, by show 4 ≤ 1000; decide, fun v H2 hv k2 P2 => ?_⟩
      have hv' : v ∈ ([.int 1, .int 2, .int 3, .int 6] : List V) := hv
      obtain ⟨z, rfl, z1, z6⟩ : ∃ z : Int, v = .int z ∧ 1 ≤ z ∧ z ≤ 6 := by
        simp only [List.mem_cons, List.not_mem_nil, or_false] at hv'
        rcases hv' with e | e | e | e <;> exact ⟨_, e, by decide, by decide⟩
      refine ⟨p, c, n + 2, z, rfl, P2, by omega, by omega, small_pow (by omega) (by omega), fun d H3 a0 a1 k3 P3 => ?_⟩
      refine ⟨_, _, rfl, rfl, (1 + d).toNat, by omega, by omega, ((ka.trans (.same s1)).trans k2).trans k3, P3, ?_⟩
      rw [Int.toNat_of_nonneg (by omega)]
      rfl
    rintro σ' Hb ⟨m, m1, m6, kb, Pb, rfl⟩
    -- span
    refine ⟨fun σ' H' => ∃ (a : Addr) (sp : List Int), NumsAt H' p a sp 4 ∧ sp.length = m ∧ But p H H' ∧ Pen H' p c (n + 9) ∧ σ' = [some (.ref p), some (.int g), some (.int m), some (.ref a), none, none, none, none, none, none], ?_, ?_⟩
    · refine ⟨.int m, rfl, m, rfl, by omega, by omega, fun D nD => ?_⟩
      rw [show ((m : Int)).toNat = m from rfl]
      refine draws_lc (n := n + 3) (H0 := H) g1 g2 rfl rfl (fun _ => rfl) kb Pb nD (kb.free (Pb.newP nD) nD) (by omega) (by omega) fun xs H' lx hx k' P' => ?_
      exact ⟨D, xs, hx, lx, k', P'.mono (by omega), rfl⟩
    rintro σ' Hc ⟨sa, sp, nsp, lsp, kc, Pc, rfl⟩
    -- step
    refine ⟨fun σ' H' => ∃ st : Int, st.natAbs ≤ 9 * 10 ^ 29 ∧ But p Hc H' ∧ Pen H' p c (n + 10) ∧ σ' = [some (.ref p), some (.int g), some (.int m), some (.ref sa), some (.int st), none, none, none, none, none], ?_, ?_⟩
    · refine ⟨.int g, rfl, .ref p, rfl, .int m, rfl, 1, rfl, 2, rfl, szn 9, alloc_of fun l H1 n1 s1 e1 => ?_⟩
      refine ⟨p, c, n + 9, l, _, rfl, Pc.same s1, by omega, e1, Pc.newP n1, by show 0 < 9; decide, by show 9 ≤ 1000; decide, fun v H2 hv k2 P2 => ?_⟩
      have hv' : v ∈ ([.int 0, .int 1, .int 1, .int 2, .int 3, .int m, .int (-1), .int (-2), .int 7] : List V) := hv
      obtain ⟨z, rfl, z9⟩ : ∃ z : Int, v = .int z ∧ z.natAbs ≤ 9 := by
        simp only [List.mem_cons, List.not_mem_nil, or_false] at hv'
        rcases hv' with e | e | e | e | e | e | e | e | e <;> exact ⟨_, e, by omega⟩
      refine ⟨_, _, rfl, rfl, .inr ⟨by omega, by omega⟩, _, mul_bd g1 g2 z9, (But.same s1).trans k2, P2, rfl⟩
    rintro σ' Hd ⟨st, hst, kd, Pd, rfl⟩
    have nspd := nsp.but kd
    -- if
    refine ⟨fun σ' H' => ∃ (sa : Addr) (sp : List Int) (st : Int) (o5 o6 : Option V), NumsAt H' p sa sp 6 ∧ 1 ≤ sp.length ∧ sp.length ≤ 12 ∧ st.natAbs ≤ 9 * 10 ^ 29 ∧ But p H H' ∧ Pen H' p c (n + 13) ∧ σ' = [some (.ref p), some (.int g), some (.int m), some (.ref sa), some (.int st), o5, o6, none, none, none], ?_, ?_⟩
    · refine ⟨.ref p, rfl, p, c, n + 10, 3, rfl, Pd, by omega, by decide, by decide, fun d H1 d0 d1 k1 P1 => ?_⟩
      refine ⟨rfl, _, rfl, iteD (fun e => ?_) (fun e => ?_)⟩
      · refine ⟨.ref p, rfl, .int m, rfl, p, c, n + 11, m, rfl, P1, by omega, by omega, small_pow (by omega) (by omega), fun d2 H2 b0 b1 k2 P2 => ?_⟩
        refine ⟨_, _, rfl, rfl, .ref p, rfl, p, c, n + 12, 5, rfl, P2, by omega, by decide, by decide, fun d3 H3 c0 c1 k3 P3 => ?_⟩
        refine ⟨_, _, rfl, rfl, szn 2, fun tp ntp => ?_⟩
        generalize hH4 : upd H3 tp _ = H4
        obtain ⟨s4, e4⟩ := alloc_eq ntp hH4
        refine ⟨tp, _, rfl, .of e4, rfl, _, _, rfl, _, _, rfl, rfl, ?_⟩
        obtain ⟨pt, ept⟩ : ∃ pt : Nat, 1 + d2 = (pt : Int) := ⟨(1 + d2).toNat, (Int.toNat_of_nonneg (by omega)).symm⟩
        have pt1 : 1 ≤ pt ∧ pt ≤ m := by omega
        have sl : (d3 - 2).natAbs ≤ 2 := by omega
        generalize hsl : d3 - 2 = slow at sl
        have P4 := P3.same s4
        have kd4 : But p Hd H4 := ((k1.trans k2).trans k3).trans (.same s4)
        have K4 : But p H H4 := (kc.trans kd).trans kd4
        obtain ⟨hsa, sap, hsp⟩ := nspd.but kd4
        dsimp only
        rw [ept, hsl]
        refine ⟨.int pt, rfl, _, _, rfl, rfl, .inl ⟨by decide, by decide⟩, _, rfl, by omega, by omega, fun D nD => ?_⟩
        rw [show (2 * (pt : Int)).toNat = 2 * pt by omega]
        have Dp : D ≠ p := P4.newP nD
        have Dc : D ≠ c := P4.newC nD
        have Da : D ≠ sa := new_ne hsa nD
        have nD0 : H D = none := K4.free Dp nD
        refine lc_range (lo := 0) (n := 2 * pt) (fun i H' => ∃ xs : List Int, xs.length = i ∧ NumsAt H' p D xs 6 ∧ But D H4 H') ⟨[], rfl, ⟨upd_same, Dp, fun x hx => nomatch hx⟩, .set⟩ ?_ ?_
        · rintro i H5 hi ⟨xs, lx, ⟨hD, _, hx⟩, k5⟩
          rw [show (0 : Int) + (i : Int) = ((i : Nat) : Int) by omega]
          have mf : ((i : Int)).fmod (pt : Int) = ((i % pt : Nat) : Int) := by
            rw [Int.fmod_eq_emod_of_nonneg _ (by omega)]
            rfl
          have dv : ((i : Int)) / (pt : Int) = ((i / pt : Nat) : Int) := rfl
          have lt := Nat.mod_lt i pt1.1
          have q1 : i / pt ≤ 1 := by
            have := Nat.div_lt_of_lt_mul (show i < pt * 2 by omega)
            omega
          have lt2 : i % pt < sp.length := by omega
          have ia : atI (sp.map V.int) (((i : Int)).fmod (pt : Int)) = some (.int (sp[i % pt]'lt2)) := by
            rw [mf]
            exact ints_at (List.getElem?_eq_getElem lt2)
          have e1 : (((i / pt : Nat) : Int) * slow).natAbs ≤ 2 := by
            rw [Int.natAbs_mul, Int.natAbs_natCast]
            have := Nat.mul_le_mul q1 sl
            omega
          have e2 : (((i / pt : Nat) : Int) * slow * g).natAbs ≤ 2 * 10 ^ 29 := by
            rw [Int.mul_comm]
            exact mul_bd g1 g2 e1
          have e3 := hsp _ (List.getElem_mem lt2)
          refine ⟨rfl, tyes_of ?_⟩
          refine ⟨.ref sa, rfl, .int i, rfl, .inl ⟨i, rfl, .int pt, rfl, i, pt, rfl, rfl, by omega, sa, _, _, .int (sp[i % pt]'lt2), rfl, rfl, .of (k5 _ _ Da.symm hsa), ia, .int i, rfl, .int pt, rfl, i, pt, rfl, rfl, wide_div (b := 30) (by omega) (by omega) (by decide) (by decide), .int slow, rfl, _, _, rfl, rfl, .inr ⟨by omega, by omega⟩, .int g, rfl, _, _, rfl, rfl, .inl ⟨?_, ?_⟩, _, _, rfl, rfl, _, hD, ?_, xs ++ [sp[i % pt]'lt2 + ((i / pt : Nat) : Int) * slow * g], ?_, ⟨?_, Dp, ?_⟩, ?_⟩⟩
          · show -(2 ^ 64) < ((i / pt : Nat) : Int) * slow
            omega
          · show ((i / pt : Nat) : Int) * slow < 2 ^ 64
            omega
          · rw [List.length_map]
            exact sz_lt (by omega)
          · rw [List.length_append, lx]
            rfl
          · rw [upd_same, List.map_append]
            rfl
          · intro x hx2
            rcases List.mem_append.mp hx2 with h | h
            · exact hx x h
            · rw [List.mem_singleton.mp h]
              have := Int.natAbs_add_le (sp[i % pt]'lt2) (((i / pt : Nat) : Int) * slow * g)
              omega
          · exact k5.trans .set
        · rintro H5 ⟨xs, lx, hx, k5⟩
          refine ⟨.int slow, rfl, _, _, rfl, rfl, .inl ⟨by decide, by decide⟩, .int g, rfl, _, _, rfl, rfl, .inl ⟨by omega, by omega⟩, D, xs, 2 * slow * g, _, _, hx, by omega, by omega, ?_, fun b o n1 e1 => k5 b o (ne_of_none e1 nD0) (K4 b o n1 e1), P4.but k5 Dp Dc, rfl⟩
          have := mul_bd g1 g2 (show (2 * slow).natAbs ≤ 4 by omega)
          rw [Int.mul_comm] at this
          omega
      · exact ⟨sa, sp, st, none, none, (nspd.but k1).mono (by decide), by omega, by omega, hst, (kc.trans kd).trans k1, P1.mono (by omega), rfl⟩
    clear nsp nspd lsp hst
    rintro σ' He ⟨sa, sp, st, o5, o6, nsp, lsp1, lsp12, hst, ke, Pe, rfl⟩
    -- head
    refine ⟨fun σ' H' => ∃ (a : Addr) (hd : List Int), NumsAt H' p a hd 15 ∧ hd.length ≤ 12 ∧ But p He H' ∧ Pen H' p c (n + 18) ∧ σ' = [some (.ref p), some (.int g), some (.int m), some (.ref sa), some (.int st), o5, o6, some (.ref a), none, none], ?_, ?_⟩
    · refine ⟨.ref p, rfl, p, c, n + 13, 5, rfl, Pe, by omega, by decide, by decide, fun d H1 d0 d1 k1 P1 => ?_⟩
      refine ⟨d, rfl, by omega, by omega, fun D nD => ?_⟩
      refine draws_lc (n := n + 14) (m := d.toNat) (H0 := He) g1 g2 rfl rfl (fun _ => rfl) k1 P1 nD (k1.free (P1.newP nD) nD) (by omega) (by omega) fun xs H' lx hx k' P' => ?_
      exact ⟨D, xs, hx.mono (by decide), by omega, k', P'.mono (by omega), rfl⟩
    rintro σ' Hf ⟨ha, hd, nhd, lhd, kf, Pf, rfl⟩
    have nspf := nsp.but kf
    refine ⟨fun σ' H' => ∃ (a : Addr) (hd : List Int), NumsAt H' p a hd 15 ∧ hd.length ≤ 12 ∧ But p Hf H' ∧ Pen H' p c (n + 19) ∧ σ' = [some (.ref p), some (.int g), some (.int m), some (.ref sa), some (.int st), o5, o6, some (.ref a), none, none], ?_, ?_⟩
    · refine ⟨.ref p, rfl, p, c, n + 18, 3, rfl, Pf, by omega, by decide, by decide, fun d H1 d0 d1 k1 P1 => ?_⟩
      refine ⟨rfl, _, rfl, iteD (fun e => ?_) (fun e => ?_)⟩
      · obtain ⟨hsa, sap, hsp⟩ := nspf.but k1
        refine ⟨.ref sa, rfl, sa, rfl, ⟨_, .of hsa⟩, fun D nD => ?_⟩
        have Dp : D ≠ p := P1.newP nD
        have Dc : D ≠ c := P1.newC nD
        have Da : D ≠ sa := new_ne hsa nD
        have nD0 : Hf D = none := k1.free Dp nD
        refine lc_list (K := K) (a := sa) (xs := sp.map V.int) (fun i H' => ∃ xs : List Int, xs.length = i ∧ NumsAt H' p D xs 15 ∧ But D H1 H') ⟨[], rfl, ⟨upd_same, Dp, fun x hx => nomatch hx⟩, .set⟩ (fun i H' _ ⟨_, _, _, k5⟩ => .of (k5 _ _ Da.symm hsa)) ?_ ?_
        · rintro i x H5 hi ⟨xs, lx, ⟨hD, _, hx⟩, k5⟩
          rw [List.getElem?_map] at hi
          obtain ⟨z, hz, rfl⟩ := Option.map_eq_some_iff.mp hi
          have il := (List.getElem?_eq_some_iff.mp hz).1
          have zb := hsp z (List.mem_of_getElem? hz)
          refine ⟨rfl, tyes_of ?_⟩
          refine ⟨.int z, rfl, .int st, rfl, _, _, rfl, rfl, _, hD, ?_, xs ++ [z - st], ?_, ⟨?_, Dp, ?_⟩, ?_⟩
          · rw [List.length_map]
            exact sz_lt (by omega)
          · rw [List.length_append, lx]
            rfl
          · rw [upd_same, List.map_append]
            rfl
          · intro y hy
            rcases List.mem_append.mp hy with h | h
            · exact hx y h
            · rw [List.mem_singleton.mp h]
              omega
          · exact k5.trans .set
        · rintro H5 ⟨xs, lx, hx, k5⟩
          rw [List.length_map] at lx
          exact ⟨D, xs, hx, by omega, fun b o n1 e1 => k5 b o (ne_of_none e1 nD0) (k1 b o n1 e1), P1.but k5 Dp Dc, rfl⟩
      · exact ⟨ha, hd, nhd.but k1, lhd, k1, P1, rfl⟩
    clear nhd lhd
    rintro σ' Hg ⟨ha, hd, nhd, lhd, kg, Pg, rfl⟩
    have nspg := nspf.but kg
    obtain ⟨hsa, sap, hsp⟩ := nspg
    obtain ⟨hha, hap, hhd⟩ := nhd
    refine ⟨.ref ha, rfl, .ref sa, rfl, ha, sa, _, _, rfl, rfl, hha, hsa, sz_le (by rw [List.length_map, List.length_map]; omega), fun r nr => ?_⟩
    generalize hH1 : upd Hg r _ = H1
    obtain ⟨s1, e1⟩ := alloc_eq nr hH1
    refine ⟨.ref sa, rfl, .ref sa, _, rfl, .inl ⟨_, .of (s1 _ _ hsa), rfl⟩, .int st, rfl, szn 3, fun t nt => ?_⟩
    rw [List.length_map]
    generalize hH2 : upd H1 t _ = H2
    obtain ⟨s2, e2⟩ := alloc_eq nt hH2
    have s12 := s1.trans s2
    have P2 := Pg.same s12
    rw [← List.map_append] at e1
    have bd : ∀ x ∈ hd ++ sp, x.natAbs ≤ 15 * 10 ^ 29 := fun x hx => by
      rcases List.mem_append.mp hx with h | h
      · exact hhd x h
      · exact Nat.le_trans (hsp x h) (by decide +kernel)
    have lim : 15 * 10 ^ 29 < 2 ^ 130 := by decide +kernel
    refine q (.ref t) (hd ++ sp) sp.length st H2 ⟨t, r, rfl, (Pg.same s1).newP nt, Pg.newP nr, e2, s2 _ _ e1⟩ ⟨lsp1, by rw [List.length_append]; omega, by rw [List.length_append]; omega, fun x hx => Nat.lt_of_le_of_lt (bd x hx) lim, by omega⟩ (by rw [List.length_append]; omega) ?_ (P2.mono (by omega))
    exact (((ke.trans kf).trans kg).trans (.same s12))
end
end LC
/-! LcAsc: data that can be shown, bound by bound; texts of signs below 128. -/
namespace LC
open PySem PySem.Spec PyProof.Rows L2 TL
abbrev strI (i : Int) : Str := toString i
theorem strI_nat (n : Nat) : tl (strI (n : Int)) = numL n := tl_num n
theorem strI_neg {f : Int} (h : f < 0) : tl (strI f) = 45 :: numL (-f).toNat := by
  cases f with
  | ofNat n => exact absurd h (Int.not_lt.mpr (Int.natCast_nonneg n))
  | negSucc m =>
    have e : (-Int.negSucc m).toNat = m + 1 := rfl
    rw [e]
    show tl (Str.ofString (toString (Int.negSucc m))) = _
    have e2 : toString (Int.negSucc m) = "-" ++ toString (m + 1) := rfl
    have e3 : tl (Str.ofString (toString ((m + 1 : Nat) : Int))) = numL (m + 1) := tl_num (m + 1)
    have e4 : toString ((m + 1 : Nat) : Int) = toString (m + 1) := rfl
    rw [e4] at e3
    rw [e2, ← e3, tl_ofString, tl_ofString, String.toList_append, List.map_append]
    rfl
structure Shw (d : PyData) (dep wt : Nat) : Prop where
  lay : d.canLay0 = true
  sh : d.showable = true
  dp : d.depth ≤ dep
  lv : d.leavesShort 300 = true
  w : d.weight ≤ wt
structure ShwL (ds : List PyData) (dep wt : Nat) : Prop where
  lay : PyData.canLayAll0 ds = true
  sh : PyData.showableAll ds = true
  dp : PyData.depthAll ds ≤ dep
  lv : PyData.leavesShortAll 300 ds = true
  w : PyData.weightAll ds ≤ wt
theorem Shw.mono {d : PyData} {a b c e : Nat} (h : Shw d a b) (h1 : a ≤ c) (h2 : b ≤ e) : Shw d c e := ⟨h.lay, h.sh, Nat.le_trans h.dp h1, h.lv, Nat.le_trans h.w h2⟩
theorem ShwL.mono {d : List PyData} {a b c e : Nat} (h : ShwL d a b) (h1 : a ≤ c) (h2 : b ≤ e) : ShwL d c e := ⟨h.lay, h.sh, Nat.le_trans h.dp h1, h.lv, Nat.le_trans h.w h2⟩
theorem Shw.non : Shw .none 0 0 := ⟨rfl, rfl, Nat.le_refl _, rfl, Nat.le_refl _⟩
theorem Shw.bl (b : Bool) : Shw (.bool b) 0 0 := ⟨rfl, rfl, Nat.le_refl _, rfl, Nat.le_refl _⟩
theorem Shw.int {i : Int} (h : i.natAbs < 2 ^ 250) : Shw (.int i) 0 251 := ⟨rfl, decide_eq_true (by have := log2_small h; omega), Nat.le_refl _, decide_eq_true (int_shown h), int_weight h⟩
def asciiB (z : Str) : Bool := z.cps.toList.all fun c => decide (c < 128)
theorem Shw.str {z : Str} (h : asciiB z = true) : Shw (.str z) 0 z.length := by
  have q : ∀ c ∈ z.cps.toList, c < 128 := fun c hc => of_decide_eq_true (List.all_eq_true.mp h c hc)
  refine ⟨?_, rfl, Nat.le_refl _, ?_, Nat.le_refl _⟩
  · show PyData.strOk z = true
    unfold PyData.strOk
    rw [Array.all_eq_true_iff_forall_mem]
    intro c hc
    have := q c (Array.mem_def.mp hc)
    exact decide_eq_true (by omega)
  · show (z.cps.toList.all fun c => decide (c < 16 ^ 8)) = true
    refine List.all_eq_true.mpr fun c hc => decide_eq_true ?_
    have := q c hc
    have e : (16 : Nat) ^ 8 = 4294967296 := by decide
    omega
theorem ShwL.nil : ShwL [] 0 0 := ⟨rfl, rfl, Nat.le_refl _, rfl, Nat.le_refl _⟩
theorem ShwL.cons {d : PyData} {ds : List PyData} {a b c e : Nat} (h : Shw d a b) (r : ShwL ds c e) : ShwL (d :: ds) (max a c) (b + 1 + e) := by
  refine ⟨?_, ?_, ?_, ?_, ?_⟩
  · show (d.canLay0 && PyData.canLayAll0 ds) = true
    rw [h.lay, r.lay]
    rfl
  · show (d.showable && PyData.showableAll ds) = true
    rw [h.sh, r.sh]
    rfl
  · show max d.depth (PyData.depthAll ds) ≤ _
    have := h.dp
    have := r.dp
    omega
  · show (d.leavesShort 300 && PyData.leavesShortAll 300 ds) = true
    rw [h.lv, r.lv]
    rfl
  · show d.weight + 1 + PyData.weightAll ds ≤ _
    have := h.w
    have := r.w
    omega
theorem ShwL.all {α : Type} {f : α → PyData} {a b : Nat} : ∀ {xs : List α}, (∀ x ∈ xs, Shw (f x) a b) → ShwL (xs.map f) a ((b + 1) * xs.length)
  | [], _ => ShwL.nil.mono (Nat.zero_le _) (Nat.zero_le _)
  | x :: r, h => by
    have z := (h x (List.mem_cons_self ..)).mono (Nat.le_refl _) (Nat.le_refl _)
    refine (ShwL.cons z (ShwL.all fun y hy => h y (List.mem_cons_of_mem _ hy))).mono (by omega) ?_
    rw [List.length_cons, Nat.mul_add]
    omega
theorem Shw.lst {ds : List PyData} {a b : Nat} (h : ShwL ds a b) : Shw (.list ds) (a + 1) b := ⟨h.lay, h.sh, Nat.succ_le_succ h.dp, h.lv, h.w⟩
theorem Shw.tup {ds : List PyData} {a b : Nat} (h : ShwL ds a b) : Shw (.tuple ds) (a + 1) b := ⟨h.lay, h.sh, Nat.succ_le_succ h.dp, h.lv, h.w⟩
theorem Shw.len {d : PyData} {a b : Nat} (h : Shw d a b) (hb : b ≤ 50000) : d.shown.length ≤ sizeLine := by
  have z := PyData.shown_le 300 (by decide) d h.lv
  have c : (300 + 2) * d.weight ≤ 302 * 50000 := Nat.mul_le_mul (by decide) (Nat.le_trans h.w hb)
  rw [sizeLine_eq]
  omega
theorem Shw.shaped {d : PyData} {a b : Nat} (h : Shw d a b) (ha : a ≤ 60) : SeqAt.shaped d = true := by
  unfold SeqAt.shaped
  rw [h.lay, decide_eq_true (show d.depth ≤ 64 by have := h.dp; omega)]
  rfl
theorem joinL_all {p : Nat → Prop} {S : List Nat} (hs : ∀ c ∈ S, p c) : ∀ {ps : List (List Nat)}, (∀ x ∈ ps, ∀ c ∈ x, p c) → ∀ c ∈ joinL S ps, p c
  | [], _, c, hc => nomatch hc
  | [x], h, c, hc => h x (List.mem_cons_self ..) c hc
  | x :: y :: r, h, c, hc => by
    rcases List.mem_append.mp (show c ∈ x ++ (S ++ joinL S (y :: r)) from hc) with hc | hc
    · exact h x (List.mem_cons_self ..) c hc
    · rcases List.mem_append.mp hc with hc | hc
      · exact hs c hc
      · exact joinL_all hs (fun z hz => h z (List.mem_cons_of_mem _ hz)) c hc
theorem num_ascii (f : Int) : ∀ c ∈ tl (strI f), c < 128 := by
  intro c hc
  by_cases n : f < 0
  · rw [strI_neg n] at hc
    rcases List.mem_cons.mp hc with e | hc
    · omega
    · have := numL_digits _ c hc
      omega
  · obtain ⟨k, hk⟩ : ∃ n : Nat, f = (n : Int) := ⟨f.toNat, (Int.toNat_of_nonneg (by omega)).symm⟩
    rw [hk, strI_nat] at hc
    have := numL_digits _ c hc
    omega
theorem log2_b {i : Int} {k : Nat} (hk : 0 < k) (h : i.natAbs < 2 ^ k) : i.natAbs.log2 < k := by
  by_cases e : i.natAbs = 0
  · rw [e]
    exact hk
  · exact (Nat.log2_lt e).mpr h
/-- an int by its own size -/
theorem Shw.intB {i : Int} {k : Nat} (hk : 0 < k) (k2 : k ≤ 250) (h : i.natAbs < 2 ^ k) : Shw (.int i) 0 (k + 1) := by
  have h2 : i.natAbs < 2 ^ 250 := Nat.lt_of_lt_of_le h (Nat.pow_le_pow_right (by decide) k2)
  have z := Shw.int h2
  refine ⟨z.lay, z.sh, z.dp, z.lv, ?_⟩
  show (if (i == 0) = true then 0 else i.natAbs.log2 + 1) ≤ k + 1
  have := log2_b hk h
  split <;> omega
theorem asc_join {y : Str} {ys : List Str} (hy : ∀ c ∈ tl y, c < 128) (h : ∀ z ∈ ys, ∀ c ∈ tl z, c < 128) : ∀ c ∈ tl (Txt.join y ys), c < 128 := by
  intro c hc
  rw [join_eq, tl_join] at hc
  refine joinL_all (p := fun c => c < 128) hy (fun x hx d hd => ?_) c hc
  obtain ⟨z, hz, rfl⟩ := List.mem_map.mp hx
  exact h z hz d hd
theorem asc_b {z : Str} (h : ∀ c ∈ tl z, c < 128) : asciiB z = true := List.all_eq_true.mpr fun c hc => decide_eq_true (h c hc)
end LC
namespace LC
open PySem PySem.Spec PyProof.Rows L2
def spRight : Sp := fun vs H Q _ => ∃ (p c : Addr) (n : Nat) (v : V) (ns : List Int) (span : Nat) (step : Int), vs = [.ref p, v] ∧ Pen H p c n ∧ n ≤ 90000 ∧ ToldV H p v ns span step ∧ ToldSm ns span step ∧ ns.length ≤ 24 ∧ ∀ H', But p H H' → Pen H' p c (n + 3) → Q (.bl true) H'
theorem rowT_asc {a : Nat → Int} {N d : Nat} (h1 : ∀ i, i < N + d → (a i).natAbs < 10 ^ 64) (h2 : (a (N + d) - a N).natAbs < 10 ^ 64) : asciiB (rowT a N d) = true := by
  refine asc_b (asc_join (fun c hc => ?_) fun z hz => ?_)
  · have : TL.tl (" " : Str) = [32] := by decide +kernel
    rw [this] at hc
    rw [List.mem_singleton.mp hc]
    decide
  · unfold rowW at hz
    simp only [List.mem_append, List.mem_cons, List.mem_map, List.not_mem_nil, or_false] at hz
    rcases hz with ⟨x, hx, rfl⟩ | rfl | ⟨x, hx, rfl⟩ | rfl | rfl
    · obtain ⟨i, hi, rfl⟩ := mem_firsts (List.mem_of_mem_take hx)
      rw [decS_small (h1 i hi)]
      exact num_ascii _
    · decide +kernel
    · obtain ⟨i, hi, rfl⟩ := mem_firsts (List.mem_of_mem_drop hx)
      rw [decS_small (h1 i hi)]
      exact num_ascii _
    · decide +kernel
    · rw [decS_small h2]
      exact num_ascii _
theorem decS_300 {i : Int} (h : i.natAbs < 10 ^ 64) : (decS i).length ≤ 300 := by
  rw [decS_small h]
  have e := int_text_length_le (k := 250) (by decide) (log2_small (i := i) (Nat.lt_of_lt_of_le h (by decide)))
  show (Str.ofString (toString i)).length ≤ 300
  rw [PySem.ofString_length]
  omega
theorem rowT_len {a : Nat → Int} {N d : Nat} (h1 : ∀ i, i < N + d → (a i).natAbs < 10 ^ 64) (h2 : (a (N + d) - a N).natAbs < 10 ^ 64) : (rowT a N d).length ≤ 301 * (N + d + 3) := by
  have dj := StrLaws.join_length_le " " (rowW (firsts a (N + d)) N (a (N + d) - a N))
  rw [← StrLaws.glued_eq_join] at dj
  refine Nat.le_trans dj ?_
  have c : (" " : Str).length = 1 := rfl
  rw [c, rowW_len, firsts_len]
  have s := sum_le (l := rowW (firsts a (N + d)) N (a (N + d) - a N)) (b := 300) fun z hz => by
    unfold rowW at hz
    simp only [List.mem_append, List.mem_cons, List.mem_map, List.not_mem_nil, or_false] at hz
    rcases hz with ⟨x, hx, rfl⟩ | rfl | ⟨x, hx, rfl⟩ | rfl | rfl
    · obtain ⟨i, hi, rfl⟩ := mem_firsts (List.mem_of_mem_take hx)
      exact decS_300 (h1 i hi)
    · decide +kernel
    · obtain ⟨i, hi, rfl⟩ := mem_firsts (List.mem_of_mem_drop hx)
      exact decS_300 (h1 i hi)
    · decide +kernel
    · exact decS_300 h2
  rw [rowW_len, firsts_len] at s
  omega
/-- what a row shows of itself -/
def rowD (a : Nat → Int) (N d : Nat) : PyData := .list [.int N, .int d, .int (a (N + d) - a N), .tuple ((firsts a (N + d)).map PyData.int), .str (rowT a N d)]
theorem rowD_shw {a : Nat → Int} {N d k : Nat} (hk : 0 < k) (k2 : k ≤ 250) (hN : N + d < 2 ^ 40) (h1 : ∀ i, i < N + d → (a i).natAbs < 2 ^ k ∧ (a i).natAbs < 10 ^ 64) (h2 : (a (N + d) - a N).natAbs < 10 ^ 64) : Shw (rowD a N d) 2 (2000 + (k + 2) * (N + d) + 301 * (N + d + 3)) := by
  have e40 : (2 : Nat) ^ 40 < 2 ^ 250 := by decide +kernel
  have e64 : (10 : Nat) ^ 64 < 2 ^ 250 := by decide +kernel
  have i1 : Shw (.int (N : Int)) 0 251 := Shw.int (by rw [Int.natAbs_natCast]; omega)
  have i2 : Shw (.int (d : Int)) 0 251 := Shw.int (by rw [Int.natAbs_natCast]; omega)
  have i3 : Shw (.int (a (N + d) - a N)) 0 251 := Shw.int (by omega)
  have i4 : ShwL ((firsts a (N + d)).map PyData.int) 0 ((k + 1 + 1) * (firsts a (N + d)).length) := ShwL.all fun x hx => by
    obtain ⟨i, hi, rfl⟩ := mem_firsts hx
    exact Shw.intB hk k2 (h1 i hi).1
  rw [firsts_len] at i4
  have l5 := rowT_len (fun i hi => (h1 i hi).2) h2
  have i5 : Shw (.str (rowT a N d)) 0 (rowT a N d).length := Shw.str (rowT_asc (fun i hi => (h1 i hi).2) h2)
  have i4 : ShwL ((firsts a (N + d)).map PyData.int) 0 ((k + 2) * (N + d)) := i4
  generalize (k + 2) * (N + d) = W at i4
  exact (Shw.lst (ShwL.cons i1 (ShwL.cons i2 (ShwL.cons i3 (ShwL.cons (Shw.tup i4) (ShwL.cons i5 ShwL.nil)))))).mono (by omega) (by omega)
section
variable {P : Program} {w : World} {K : PySem.W.Frag} {mg : Str → Option Value} {base : Heap}
abbrev s_right : Stmt := topS 33
theorem sc_right : FnScope ["pen", "told", "low", "few", "gain", "made", "due", "words", "text", "far", "n", "number"] ["pen", "told"] (defScope s_right) := ⟨rfl, rfl, rfl, by decide +kernel, rfl, by decide +kernel, by decide +kernel⟩
theorem ok_right {f C CB CM : Addr} {fd : FuncData} (T : Txt mg) (RK : RowKit P w K mg base C CB CM) (F : FnP K "_law_right" s_right f fd) (c__law_draw : Cal P w K mg base CX0 6 "_law_draw" ["pen", "many"] spDraw) (c__law_least : Cal P w K mg base CX0 6 "_law_least" ["told"] (spLeast K)) (c__law_row : Cal P w K mg base (L2.CX P w) 6 "_law_row" ["told", "is_list"] (spRow K C))
    (c__law_at : Cal P w K mg base CX0 6 "_law_at" ["told", "n"] spAt) : GOk P w K mg base CX0 7 f fd ["pen", "told"] spRight := by
  have sc := sc_right
  have S := RK.S
  obtain ⟨pS, gS, fdS, PS, FS, BS⟩ := RK.start
  obtain ⟨pP, gP, fdP, PP, FP, BP⟩ := RK.period
  obtain ⟨pQ, gQ, fdQ, PQ, FQ, BQ⟩ := RK.step
  obtain ⟨pN, gN, fdN, PN, FN, BN⟩ := RK.numbers
  obtain ⟨fG, fdG, OG, FG, BG⟩ := RK.get
  obtain ⟨fT, fdT, OT, FT, BT⟩ := RK.str
  refine g_of F sc (fun vs H Q E h => ?_) (fun cdv A outer s H vs Q E hg hr h => ?_)
  · obtain ⟨p, c, n, v, ns, span, step, rfl, _⟩ := h
    rfl
  · obtain ⟨p, c, n, v, ns, span, step, rfl, hP, hn, hv, o, l24, q⟩ := h
    refine ⟨_, PSs.nox (Evl.pss_cut (ps_asg (pe_cal c__law_least hr (by rfl) pass0 (pa_cons (pv 1) pa_nil)) (pg_tup rfl (pgs_cons (pg_name (i := 2) sc.nd rfl (.inl rfl)) (pgs_cons (pg_name (i := 3) sc.nd rfl (.inl rfl)) (pgs_cons (pg_name (i := 4) sc.nd rfl (.inl rfl)) pgs_nil)))))
(Evl.pss_cut (ps_set (i := 5) sc.nd rfl (.inl rfl) (pe_cal c__law_row hr (by rfl) passL (pa_cons (pv 1) (pa_cons (pe_cmpR op_eq (pe_cal c__law_draw hr (by rfl) pass0 (pa_cons (pv 0) (pa_cons pe_int pa_nil))) pe_int (nomark _)) pa_nil))))
(Evl.pss_cut (ps_set (i := 6) sc.nd rfl (.inl rfl) (pe_callTy call_tuple_of (by rfl) T.n_tuple (by decide +kernel) (pa_cons (pe_lc (own := [("n", 10)]) (g := (gName 10)) (te := (tCal spAt E0 (tCons (tVar 1) (tCons (tVar 10) tNil)))) (tt := tYes) rfl sc.nd (pi_range1 rfl T.n_range (pa_cons (pe_op op_add (pv 2) (pv 3)) pa_nil)) (blkOk_by (N := ["pen", "told", "low", "few", "gain", "made", "due", "words", "text", "far", "n", "number"]) (sc := defScope s_right) (by decide +kernel)) (fun _ _ _ _ _ => by exact (pg_name (i := 10) sc.nd rfl (.inl rfl))) (fun _ _ _ _ _ => by exact pts_nil) (fun _ _ _ _ _ => by exact (pe_cal c__law_at hr (by rfl) pass0 (pa_cons (pv 1) (pa_cons (pv 10) pa_nil))))) pa_nil)))
(Evl.pss_cut (ps_setLc (i := 7) (own := [("number", 11)]) (g := (gName 11)) (te := (tCB (fun xs H Q => ∃ i, xs = [.int i] ∧ i.natAbs.log2 < 1920 ∧ Q (.str (toString i)) H) (tCons (tVar 11) tNil))) (tt := tYes) rfl sc.nd rfl rfl (by rfl) (pi_tup (pv 6)) (blkOk_by (N := ["pen", "told", "low", "few", "gain", "made", "due", "words", "text", "far", "n", "number"]) (sc := defScope s_right) (by decide +kernel)) (fun _ _ _ _ _ => by exact (pg_name (i := 11) sc.nd rfl (.inl rfl))) (fun _ _ _ _ _ => by exact pts_nil) (fun _ _ _ _ _ => by exact (pe_callTy call_str_int (by rfl) T.n_str (by decide +kernel) (pa_cons (pv 11) pa_nil))))
(Evl.pss_cut (ps_set (i := 8) sc.nd rfl (.inl rfl) (pe_bm PySem.F.plainAttrs_str PySem.F.slot_str_join PySem.F.type_str_join mt_join pe_str (pa_cons (pe_op op_cat (pe_op op_cat (pe_op op_cat (pe_slice sl_list (pv 7) po_none (po_some (pv 2))) (pe_lst (pa_cons pe_str pa_nil))) (pe_slice sl_list (pv 7) (po_some (pv 2)) po_none)) (pe_lst (pa_cons pe_str (pa_cons (pe_callTy call_str_int (by rfl) T.n_str (by decide +kernel) (pa_cons (pv 4) pa_nil)) pa_nil)))) pa_nil)))
(Evl.pss_cut (ps_if (pt_cmpR op_ne (pe_callB (call_reprD hg hr.units) (by rfl) T.n_repr (by decide +kernel) (pa_cons (pe_lst (pa_cons (pe_prop (pv 5) S.cl PS FS (hr.mono (by decide)) BS .nil pass0 (by rfl)) (pa_cons (pe_prop (pv 5) S.cl PP FP (hr.mono (by decide)) BP .nil pass0 (by rfl)) (pa_cons (pe_prop (pv 5) S.cl PQ FQ (hr.mono (by decide)) BQ .nil pass0 (by rfl)) (pa_cons (pe_prop (pv 5) S.cl PN FN (hr.mono (by decide)) BN .nil pass0 (by rfl)) (pa_cons (pe_callTy (call_strO OT FT BT (hr.mono (by decide)) pass0) (by rfl) T.n_str (by decide +kernel) (pa_cons (pv 5) pa_nil)) pa_nil)))))) pa_nil)) (pe_callB (call_reprD hg hr.units) (by rfl) T.n_repr (by decide +kernel) (pa_cons (pe_lst (pa_cons (pv 2) (pa_cons (pv 3) (pa_cons (pv 4) (pa_cons (pv 6) (pa_cons (pv 8) pa_nil)))))) pa_nil)) (nomark _))
  (pss_one (ps_ret pe_bl))
  pss_nil)
(Evl.pss_cut (ps_set (i := 9) sc.nd rfl (.inl rfl) (pe_op op_add (pe_op op_mul (pe_op op_pow pe_int pe_int) (pe_cal c__law_draw hr (by rfl) pass0 (pa_cons (pv 0) (pa_cons pe_int pa_nil)))) (pe_cal c__law_draw hr (by rfl) pass0 (pa_cons (pv 0) (pa_cons pe_int pa_nil)))))
(pss_cons (ps_for PassesOwn.never rfl (pi_list (pe_op op_cat (pe_listRg rfl rfl T.n_list (prg_1 (by rfl) T.n_range (pe_op op_add (pe_callB call_len (by rfl) T.n_len (by decide +kernel) (pa_cons (pe_ix ix_list (pv 1) pe_int (fun _ _ => rfl)) pa_nil)) (pe_op op_mul pe_int (pe_ix ix_list (pv 1) pe_int (fun _ _ => rfl)))))) (pe_lst (pa_cons (pv 9) (pa_cons (pe_op op_add (pv 9) pe_int) (pa_cons (pe_op op_add (pe_op op_pow pe_int pe_int) (pv 9)) pa_nil)))))) (pg_name (i := 10) sc.nd rfl (.inl rfl))
  (pss_one (ps_if (pt_cmpR op_ne (pe_callB SkE.call_repr_int (by rfl) T.n_repr (by decide +kernel) (pa_cons (pe_ixO OG FG BG (hr.mono (by decide)) passL (pv 5) (pv 10)) pa_nil)) (pe_callB SkE.call_repr_int (by rfl) T.n_repr (by decide +kernel) (pa_cons (pe_cal c__law_at hr (by rfl) pass0 (pa_cons (pv 1) (pa_cons (pv 10) pa_nil))) pa_nil)) (nomark _))
    (pss_one (ps_ret pe_bl))
    pss_nil)))
(pss_one (ps_ret pe_bl)))))))))), ?_⟩
    obtain ⟨tl0, l0, ev, tp, lp, ht0, hl0⟩ := id hv
    generalize ha : tellAt ns span step = a
    have ok := o.ok
    have few := o.few
    have small : ∀ {i : Nat}, i < 10000 → (a i).natAbs < 2 ^ 150 := fun h => by
      rw [← ha]
      exact o.at_ h
    have e64 : (2 : Nat) ^ 151 < 10 ^ 64 := by decide +kernel
    have e151 : (2 : Nat) ^ 150 + 2 ^ 150 = 2 ^ 151 := by decide +kernel
    -- low, few, gain
    refine ⟨fun σ' H' => ∃ N d : Nat, Can a N d ∧ N + d ≤ ns.length ∧ Same H H' ∧ σ' = [some (.ref p), some v, some (.int N), some (.int d), some (.int (a (N + d) - a N)), none, none, none, none, none, none, none], ?_, ?_⟩
    · refine ⟨v, rfl, p, v, ns, span, step, rfl, hv, ok, fun t N d H1 cn le s1 htt => ?_⟩
      rw [ha] at cn htt
      exact ⟨t, _, rfl, htt, rfl, _, _, rfl, _, _, rfl, _, _, rfl, rfl, N, d, cn, le, s1, rfl⟩
    rintro σ' H1 ⟨N, d, cn, le, s1, rfl⟩
    have gb : (a (N + d) - a N).natAbs < 2 ^ 151 := by
      have := small (i := N + d) (by omega)
      have := small (i := N) (by omega)
      omega
    have d1 : ∀ i, i < N + d → (a i).natAbs < 10 ^ 64 := fun i hi => by
      have := small (i := i) (by omega)
      omega
    have d2 : (a (N + d) - a N).natAbs < 10 ^ 64 := by omega
    -- made
    refine ⟨fun σ' H' => ∃ x : Addr, RowAt K C H' x a N d ∧ But p H H' ∧ Pen H' p c (n + 1) ∧ σ' = [some (.ref p), some v, some (.int N), some (.int d), some (.int (a (N + d) - a N)), some (.ref x), none, none, none, none, none, none], ?_, ?_⟩
    · refine ⟨v, rfl, .ref p, rfl, p, c, n, 2, rfl, hP.same s1, by omega, by decide, by decide, fun dd H2 a0 a1 k2 P2 => ?_⟩
      refine ⟨rfl, p, v, _, ns, span, step, rfl, (hv.same s1).but k2, ok, fun x N' d' H3 cn' le' nx s3 ra => ?_⟩
      rw [ha] at cn' ra
      obtain ⟨rfl, rfl⟩ := cn.uniq cn'
      exact ⟨x, ra, ((But.same s1).trans k2).trans (.same s3), P2.same s3, rfl⟩
    rintro σ' H2 ⟨x, ra, k2, P2, rfl⟩
    have hv2 := hv.but k2
    -- due
    refine ⟨fun σ' H' => ∃ t : Addr, SqT K H' t ((firsts a (N + d)).map V.int) ∧ Same H2 H' ∧ σ' = [some (.ref p), some v, some (.int N), some (.int d), some (.int (a (N + d) - a N)), some (.ref x), some (.ref t), none, none, none, none, none], ?_, ?_⟩
    · refine ⟨.int N, rfl, .int d, rfl, _, _, rfl, rfl, ((N + d : Nat) : Int), rfl, by omega, by omega, fun D nD => ?_⟩
      rw [show (((N + d : Nat) : Int)).toNat = N + d from rfl]
      refine lc_range (lo := 0) (n := N + d) (fun i H' => Same H2 H' ∧ H' D = some (.lst ((firsts a i).map V.int))) ⟨same_new nD, upd_same⟩ ?_ ?_
      · rintro i H3 hi ⟨s3, hD⟩
        rw [show (0 : Int) + (i : Int) = ((i : Nat) : Int) by omega]
        refine ⟨rfl, tyes_of ?_⟩
        refine ⟨v, rfl, .int i, rfl, p, v, ns, span, step, i, rfl, hv2.same s3, ok, Nat.lt_of_lt_of_le (show i < 10000 by omega) (by decide +kernel), _, hD, ?_, fun b ob e2 => ?_, ?_⟩
        · rw [List.length_map, firsts_len]
          exact sz_lt (by omega)
        · rw [upd_ne (ne_of_none e2 nD)]
          exact s3 _ _ e2
        · rw [upd_same, ha]
          unfold firsts
          rw [List.range_succ, List.map_append, List.map_append]
          rfl
      · rintro H3 ⟨s3, hD⟩
        refine ⟨D, _, rfl, .inl ⟨.of hD, fun t nt => ?_⟩⟩
        generalize hH4 : upd H3 t _ = H4
        obtain ⟨s4, e4⟩ := alloc_eq nt hH4
        exact ⟨t, .of e4, s3.trans s4, rfl⟩
    rintro σ' H3 ⟨t, htd, s3, rfl⟩
    -- words
    refine ⟨fun σ' H' => ∃ wl : Addr, H' wl = some (.lst (((firsts a (N + d)).map decS).map V.str)) ∧ Same H3 H' ∧ σ' = [some (.ref p), some v, some (.int N), some (.int d), some (.int (a (N + d) - a N)), some (.ref x), some (.ref t), some (.ref wl), none, none, none, none], ?_, ?_⟩
    · refine ⟨.ref t, rfl, t, rfl, ⟨_, htd⟩, fun D nD => ?_⟩
      refine lc_tup (K := K) (a := t) (xs := (firsts a (N + d)).map V.int) (fun i H' => Same H3 H' ∧ H' D = some (.lst ((((firsts a (N + d)).take i).map decS).map V.str))) ⟨same_new nD, upd_same⟩ (fun i H' _ h => sqt_same h.1 htd) ?_ ?_
      · rintro i y H4 hi ⟨s4, hD⟩
        rw [List.getElem?_map] at hi
        obtain ⟨z, hz, rfl⟩ := Option.map_eq_some_iff.mp hi
        have il := (List.getElem?_eq_some_iff.mp hz).1
        rw [firsts_len] at il
        obtain ⟨j, hj, ez⟩ := mem_firsts (List.mem_of_getElem? hz)
        have zb : z.natAbs < 10 ^ 64 := by rw [ez]; exact d1 j hj
        refine ⟨rfl, tyes_of ?_⟩
        refine ⟨.int z, rfl, z, rfl, log2_64 zb, _, hD, ?_, fun b ob e2 => ?_, ?_⟩
        · rw [List.length_map, List.length_map, List.length_take, firsts_len]
          exact sz_lt (by omega)
        · rw [upd_ne (ne_of_none e2 nD)]
          exact s4 _ _ e2
        · rw [upd_same, take_next hz, List.map_append, List.map_append, ← decS_small zb]
          rfl
      · rintro H4 ⟨s4, hD⟩
        rw [List.length_map, List.take_length] at hD
        exact ⟨D, hD, s4, rfl⟩
    rintro σ' H4 ⟨wl, hwl, s4, rfl⟩
    -- text
    refine ⟨fun σ' H' => Same H4 H' ∧ σ' = [some (.ref p), some v, some (.int N), some (.int d), some (.int (a (N + d) - a N)), some (.ref x), some (.ref t), some (.ref wl), some (.str (rowT a N d)), none, none, none], ?_, ?_⟩
    · have lw : ((firsts a (N + d)).map decS).length = N + d := by rw [List.length_map, firsts_len]
      refine ⟨rfl, .ref wl, rfl, .int N, rfl, N, rfl, wl, _, rfl, .of hwl, fun a1 n1 => ?_⟩
      rw [cut_to, ← List.map_take]
      generalize hB1 : upd H4 a1 _ = B1
      obtain ⟨t1, e1⟩ := alloc_eq n1 hB1
      refine ⟨szn 1, fun a2 n2 => ?_⟩
      generalize hB2 : upd B1 a2 _ = B2
      obtain ⟨t2, e2⟩ := alloc_eq n2 hB2
      refine ⟨a1, a2, _, _, rfl, rfl, t2 _ _ e1, e2, sz_le (by simp only [List.length_append, List.length_map, List.length_take, List.length_drop, List.length_cons, List.length_nil, firsts_len]; omega), fun a3 n3 => ?_⟩
      generalize hB3 : upd B2 a3 _ = B3
      obtain ⟨t3, e3⟩ := alloc_eq n3 hB3
      have t03 := (t1.trans t2).trans t3
      refine ⟨.ref wl, rfl, .int N, rfl, N, rfl, wl, _, rfl, .of (t03 _ _ hwl), fun a4 n4 => ?_⟩
      rw [cut_from, ← List.map_drop]
      generalize hB4 : upd B3 a4 _ = B4
      obtain ⟨t4, e4⟩ := alloc_eq n4 hB4
      refine ⟨a3, a4, _, _, rfl, rfl, t4 _ _ e3, e4, sz_le (by simp only [List.length_append, List.length_map, List.length_take, List.length_drop, List.length_cons, List.length_nil, firsts_len]; omega), fun a5 n5 => ?_⟩
      generalize hB5 : upd B4 a5 _ = B5
      obtain ⟨t5, e5⟩ := alloc_eq n5 hB5
      refine ⟨.int _, rfl, _, rfl, log2_64 d2, szn 2, fun a6 n6 => ?_⟩
      generalize hB6 : upd B5 a6 _ = B6
      obtain ⟨t6, e6⟩ := alloc_eq n6 hB6
      refine ⟨a5, a6, _, _, rfl, rfl, t6 _ _ e5, e6, sz_le (by simp only [List.length_append, List.length_map, List.length_take, List.length_drop, List.length_cons, List.length_nil, firsts_len]; omega), fun a7 n7 => ?_⟩
      generalize hB7 : upd B6 a7 _ = B7
      obtain ⟨t7, e7⟩ := alloc_eq n7 hB7
      have t07 := (((t03.trans t4).trans t5).trans t6).trans t7
      have hd2 : ∀ n ∈ firsts a (N + d), DecOk n := fun n hn => by
        obtain ⟨i, hi, rfl⟩ := mem_firsts hn
        exact .inl (d1 i hi)
      refine ⟨" ", a7, rowW (firsts a (N + d)) N (a (N + d) - a N), rfl, rfl, .inl (.of ?_), ?_, t07, rfl⟩
      · rw [e7]
        unfold rowW
        rw [decS_small d2]
        simp only [List.map_append, List.map_cons, List.map_nil, List.map_take, List.map_drop, List.append_assoc, List.cons_append, List.nil_append]
      · have z1 := sum_le (rowW_mem (N := N) hd2 (.inl d2))
        rw [rowW_len, firsts_len] at z1
        rw [rowW_len, firsts_len]
        have c : (" " : Str).length = 1 := rfl
        rw [c]
        omega
    rintro σ' H5 ⟨s5, rfl⟩
    have s25 := (s3.trans s4).trans s5
    have ra5 := ra.same s25
    have htd5 := sqt_same (s4.trans s5) htd
    -- the look
    refine ⟨fun σ' H' => Same H5 H' ∧ σ' = [some (.ref p), some v, some (.int N), some (.int d), some (.int (a (N + d) - a N)), some (.ref x), some (.ref t), some (.ref wl), some (.str (rowT a N d)), none, none, none], ?_, ?_⟩
    · obtain ⟨_, few2, dx, T1, hx1, ht1⟩ := id ra5
      have sh : Shw (rowD a N d) 2 _ := rowD_shw (k := 150) (by decide) (by decide) (by omega) (fun i hi => ⟨small (by omega), d1 i hi⟩) d2
      have shl : (rowD a N d).shown.length ≤ sizeLine := sh.len (by omega)
      refine ⟨.ref x, rfl, x, dx, _, rfl, hx1, x, dx, _, _, rfl, hx1, rflds_start _ _ _ _, ?_⟩
      refine ⟨.ref x, rfl, x, dx, _, rfl, hx1, x, dx, _, _, rfl, hx1, rflds_period _ _ _ _, ?_⟩
      refine ⟨.ref x, rfl, x, dx, _, rfl, hx1, x, dx, _, _, rfl, hx1, rflds_step _ _ _ _, ?_⟩
      refine ⟨.ref x, rfl, x, dx, _, rfl, hx1, x, dx, _, _, rfl, hx1, rflds_numbers _ _ _ _, ?_⟩
      refine ⟨.ref x, rfl, x, dx, _, rfl, hx1, x, a, N, d, rfl, ra5, fun i hi => .inl (d1 i hi), .inl d2, fun B1 t1 => ⟨_, rfl, ?_⟩⟩
      refine ⟨szn 5, fun l1 n1 => ?_⟩
      generalize hB2 : upd B1 l1 _ = B2
      obtain ⟨t2, e2⟩ := alloc_eq n1 hB2
      have t12 := t1.trans t2
      refine ⟨l1, rowD a N d, rfl, .lst (.of e2) (.cons (.int _) (.cons (.int _) (.cons (.int _) (.cons (.tup (sqt_same t12 ht1) (dpAll_ints _)) (.cons (.str _) .nil))))), sh.lay, sh.sh, Nat.le_trans sh.dp (by decide), shl, ?_⟩
      refine ⟨.int N, rfl, .int d, rfl, .int _, rfl, .ref t, rfl, .str _, rfl, szn 5, fun l2 n2 => ?_⟩
      generalize hB3 : upd B2 l2 _ = B3
      obtain ⟨t3, e3⟩ := alloc_eq n2 hB3
      have t13 := t12.trans t3
      refine ⟨l2, rowD a N d, rfl, .lst (.of e3) (.cons (.int _) (.cons (.int _) (.cons (.int _) (.cons (.tup (sqt_same t13 htd5) (dpAll_ints _)) (.cons (.str _) .nil))))), sh.lay, sh.sh, Nat.le_trans sh.dp (by decide), shl, rfl, _, rfl, ?_⟩
      rw [decide_eq_true rfl]
      exact iteF ⟨t13, rfl⟩
    rintro σ' H6 ⟨s6, rfl⟩
    have ra6 := ra5.same s6
    have P6 := (P2.same s25).same s6
    have k6 : But p H H6 := (k2.trans (.same s25)).trans (.same s6)
    -- far
    refine ⟨fun σ' H' => ∃ far : Nat, far < 2 ^ 80 ∧ But p H6 H' ∧ Pen H' p c (n + 3) ∧ σ' = [some (.ref p), some v, some (.int N), some (.int d), some (.int (a (N + d) - a N)), some (.ref x), some (.ref t), some (.ref wl), some (.str (rowT a N d)), some (.int far), none, none], ?_, ?_⟩
    · refine ⟨10, 18, rfl, rfl, ⟨by decide, by decide, by decide⟩, .ref p, rfl, p, c, n + 1, 1000, rfl, P6, by omega, by decide, by decide, fun f1 B1 a0 a1 k1 Q1 => ?_⟩
      refine ⟨_, _, rfl, rfl, .inl ⟨by decide +kernel, by decide +kernel⟩, .ref p, rfl, p, c, n + 2, 1000, rfl, Q1, by omega, by decide, by decide, fun f2 B2 b0 b1 k2' Q2 => ?_⟩
      refine ⟨_, _, rfl, rfl, (10 ^ 18 * f1 + f2).toNat, by omega, k1.trans k2', Q2, ?_⟩
      rw [Int.toNat_of_nonneg (by omega)]
      rfl
    rintro σ' H7 ⟨far, hfar, k7, P7, rfl⟩
    have k07 := k6.trans k7
    have ht7 := k07 _ _ tp ht0
    have hl7 := k07 _ _ lp hl0
    have s1 := o.s1
    have s2 := o.s2
    obtain ⟨px6, hp6⟩ := P6.at_
    have ra7 := ra6.but k7 hp6
    obtain ⟨_, few2, dx, T1, hx1, ht1⟩ := id ra7
    have hv7 := hv.but k07
    have ln : ((ns.map V.int).length : Int) = (ns.length : Int) := by rw [List.length_map]
    refine ⟨v, rfl, tl0, _, 0, .ref l0, ev, rfl, .of ht7, rfl, .ref l0, _, rfl, .inl ⟨_, .of hl7, rfl⟩, v, rfl, tl0, _, 1, .int span, ev, rfl, .of ht7, rfl, _, _, rfl, rfl, .inl ⟨by decide, by decide⟩, _, _, rfl, rfl, _, rfl, ?_, fun r1 n1 => ?_⟩
    · rw [ln]
      exact RgOk.of_le (by omega) (by omega) (by omega) (by omega)
    rw [ln]
    generalize hB1 : upd H7 r1 _ = B1
    obtain ⟨t1, e1⟩ := alloc_eq n1 hB1
    refine ⟨.int far, rfl, .int far, rfl, _, _, rfl, rfl, 10, 59, rfl, rfl, ⟨by decide, by decide, by decide⟩, .int far, rfl, _, _, rfl, rfl, szn 3, fun r2 n2 => ?_⟩
    generalize hB2 : upd B1 r2 _ = B2
    obtain ⟨t2, e2⟩ := alloc_eq n2 hB2
    refine ⟨r1, r2, _, _, rfl, rfl, t2 _ _ e1, e2, sz_le (by rw [rgV_length]; show _ + 3 ≤ 100000; omega), fun r3 n3 => ?_⟩
    generalize hB3 : upd B2 r3 _ = B3
    obtain ⟨t3, e3⟩ := alloc_eq n3 hB3
    have t13 := (t1.trans t2).trans t3
    have e59 : (10 : Nat) ^ 59 + 2 ^ 80 < 2 ^ 198 := by decide +kernel
    have e198 : (2 : Nat) ^ 198 < 2 ^ 256 := by decide +kernel
    have e4 : (2 : Nat) ^ 256 < 2 ^ 400000 := Nat.pow_lt_pow_right (by decide) (by decide)
    have e80 : 10000 < (2 : Nat) ^ 198 := by decide +kernel
    have e151' : (2 : Nat) ^ 151 < 2 ^ 256 := by decide +kernel
    have items : ∀ y ∈ rgV 0 ((ns.length : Int) + 2 * (span : Int)) ++ [V.int far, V.int ((far : Int) + 1), V.int ((10 : Int) ^ (59 : Int).toNat + (far : Int))], ∃ m : Nat, y = .int (m : Int) ∧ m < 2 ^ 198 := by
      intro y hy
      rcases List.mem_append.mp hy with h | h
      · unfold rgV at h
        obtain ⟨j, hj, rfl⟩ := List.mem_map.mp h
        have := List.mem_range.mp hj
        exact ⟨j, congrArg V.int (by omega), by omega⟩
      · simp only [List.mem_cons, List.not_mem_nil, or_false] at h
        rcases h with rfl | rfl | rfl
        · exact ⟨far, rfl, by omega⟩
        · exact ⟨far + 1, rfl, by omega⟩
        · refine ⟨10 ^ 59 + far, congrArg V.int ?_, by omega⟩
          show (10 : Int) ^ 59 + (far : Int) = ((10 ^ 59 + far : Nat) : Int)
          omega
    generalize hxs : rgV 0 ((ns.length : Int) + 2 * (span : Int)) ++ [V.int far, V.int ((far : Int) + 1), V.int ((10 : Int) ^ (59 : Int).toNat + (far : Int))] = xs at items
    have e3' : B3 r3 = some (.lst xs) := by
      rw [← hxs]
      exact e3
    refine ⟨r3, rfl, ⟨_, .of e3'⟩, ?_⟩
    refine for_list (K := K) (a := r3) (xs := xs) (fun i σ H' => Same B3 H' ∧ ∃ o10 : Option V, σ = [some (.ref p), some v, some (.int N), some (.int d), some (.int (a (N + d) - a N)), some (.ref x), some (.ref t), some (.ref wl), some (.str (rowT a N d)), some (.int far), o10, none]) ⟨Same.refl _, none, rfl⟩ (fun i σ H' _ h => .of (h.1 _ _ e3')) ?_ ?_
    · rintro i y σ B4 hi ⟨t4, o10, rfl⟩
      obtain ⟨m, rfl, hm⟩ := items y (List.mem_of_getElem? hi)
      have t74 := t13.trans t4
      have am : (a m).natAbs.log2 < 1920 := by
        have z := tell_256 ok (n := m) (by omega)
        rw [ha] at z
        have := log2_b (k := 407) (by decide) z
        omega
      refine ⟨.ref x, rfl, .int m, rfl, x, dx, _, rfl, t74 _ _ hx1, x, a, N, d, .int m, rfl, ra7.same t74, .inl ⟨m, rfl, by omega, by omega, fun B5 t5 => ⟨a m, rfl, am, ?_⟩⟩⟩
      refine ⟨v, rfl, .int m, rfl, p, v, ns, span, step, m, rfl, hv7.same (t74.trans t5), ok, by omega, ?_⟩
      rw [ha]
      refine ⟨a m, rfl, am, rfl, _, rfl, ?_⟩
      rw [decide_eq_true rfl]
      exact iteF ⟨t4.trans t5, _, rfl⟩
    · rintro σ B4 ⟨t4, o10, rfl⟩
      have t74 := t13.trans t4
      exact q B4 (k07.trans (.same t74)) (P7.same t74)
end
end LC
namespace LC
open PySem PySem.Spec PyProof.Rows L2
theorem rowEnd_few {K : PySem.W.Frag} {C CM : Addr} {ns : List Int} {span : Nat} {step : Int} {ok : Nat → Nat → Prop} {E : XK} {H : Hp} (few : ns.length ≤ 2000) (q : ∀ N d, Can (tellAt ns span step) N d → N + d ≤ ns.length → ok N d) : RowEnd K C CM ns span step ok E H := fun N d cn le =>
  ⟨fun _ => q N d cn le, fun z => absurd z (by omega)⟩
/-- a row of other numbers -/
def NotA (K : PySem.W.Frag) (C : Addr) (H : Hp) (a : Nat → Int) (u : Addr) : Prop := ∃ (b : Nat → Int) (N d : Nat), RowAt K C H u b N d ∧ ¬ ∀ n, a n = b n
theorem NotA.same {K : PySem.W.Frag} {C : Addr} {H H' : Hp} {a : Nat → Int} {u : Addr} (h : NotA K C H a u) (s : Same H H') : NotA K C H' a u := by
  obtain ⟨b, N, d, r, n⟩ := h
  exact ⟨b, N, d, r.same s, n⟩
theorem NotA.but {K : PySem.W.Frag} {C q : Addr} {H H' : Hp} {a : Nat → Int} {u : Addr} {xs : List V} (h : NotA K C H a u) (k : But q H H') (hq : H q = some (.lst xs)) : NotA K C H' a u := by
  obtain ⟨b, N, d, r, n⟩ := h
  exact ⟨b, N, d, r.but k hq, n⟩
theorem bent_ne {ns : List Int} {span at_ : Nat} {step : Int} (h : at_ < ns.length) : ¬ ∀ n, tellAt ns span step n = tellAt (ns.set at_ (ns.getD at_ 0 + 1)) span step n := fun z => by
  have e := z at_
  rw [tell_lt h, tell_lt (by rw [List.length_set]; exact h), List.getD_eq_getElem?_getD, List.getD_eq_getElem?_getD, List.getElem?_set_self h, List.getElem?_eq_getElem h] at e
  simp at e
  omega
theorem step_ne {ns : List Int} {span : Nat} {step st2 : Int} (hs : st2 ≠ step) : ¬ ∀ n, tellAt ns span step n = tellAt ns span st2 n := fun z => by
  have e := z ns.length
  rw [tell_ge (Nat.le_refl _), tell_ge (Nat.le_refl _), Nat.sub_self, Nat.zero_mod, Nat.zero_div] at e
  simp at e
  exact hs e.symm
def spEqualRight : Sp := fun vs H Q _ => ∃ (p c : Addr) (n : Nat) (v : V) (ns : List Int) (span : Nat) (step : Int), vs = [.ref p, v] ∧ Pen H p c n ∧ n ≤ 80000 ∧ ToldV H p v ns span step ∧ ToldSm ns span step ∧ ns.length ≤ 24 ∧ ∀ H', But p H H' → Pen H' p c (n + 3) → Q (.bl true) H'
section
variable {P : Program} {w : World} {K : PySem.W.Frag} {mg : Str → Option Value} {base : Heap}
abbrev s_equal_right : Stmt := topS 34
theorem sc_equal_right : FnScope ["pen", "told", "made", "other", "bent", "at", "near", "rest", "handed", "kept", "n", "one", "thing"] ["pen", "told"] (defScope s_equal_right) := ⟨rfl, rfl, rfl, by decide +kernel, rfl, by decide +kernel, by decide +kernel⟩
theorem ok_equal_right {f C CB CM : Addr} {fd : FuncData} (T : Txt mg) (RK : RowKit P w K mg base C CB CM) (F : FnP K "_law_equal_right" s_equal_right f fd) (c__law_draw : Cal P w K mg base CX0 6 "_law_draw" ["pen", "many"] spDraw) (c__law_other : Cal P w K mg base CX0 6 "_law_other" ["pen", "told"] spOther) (c__law_row : Cal P w K mg base (L2.CX P w) 6 "_law_row" ["told", "is_list"] (spRow K C))
    (c__law_at : Cal P w K mg base CX0 6 "_law_at" ["told", "n"] spAt) : GOk P w K mg base CX0 7 f fd ["pen", "told"] spEqualRight := by
  have sc := sc_equal_right
  have S := RK.S
  obtain ⟨pN, gN, fdN, PN, FN, BN⟩ := RK.numbers
  obtain ⟨fE, fdE, OE, FE, BE⟩ := RK.eq
  obtain ⟨fT, fdT, OT, FT, BT⟩ := RK.str
  obtain ⟨fI, fdI, M, FI, BI, KI⟩ := RK.mkr
  refine g_of F sc (fun vs H Q E h => ?_) (fun cdv A outer s H vs Q E hg hr h => ?_)
  · obtain ⟨p, c, n, v, ns, span, step, rfl, _⟩ := h
    rfl
  · obtain ⟨p, c, n, v, ns, span, step, rfl, hP, hn, hv, o, l24, q⟩ := h
    refine ⟨_, PSs.nox (Evl.pss_cut (ps_asg (pe_tup (pa_cons (pe_cal c__law_row hr (by rfl) passL (pa_cons (pv 1) (pa_cons pe_bl pa_nil))) (pa_cons (pe_cal c__law_row hr (by rfl) passL (pa_cons (pe_cal c__law_other hr (by rfl) pass0 (pa_cons (pv 0) (pa_cons (pv 1) pa_nil))) (pa_cons pe_bl pa_nil))) pa_nil))) (pg_tup rfl (pgs_cons (pg_name (i := 2) sc.nd rfl (.inr rfl)) (pgs_cons (pg_name (i := 3) sc.nd rfl (.inl rfl)) pgs_nil))))
(Evl.pss_cut (ps_if (pt_cmpR op_ne (pe_callB (call_reprD hg hr.units) (by rfl) T.n_repr (by decide +kernel) (pa_cons (pe_lst (pa_cons (pe_cmpR (op_eqO OE FE BE (hr.mono (by decide)) pass0) (pv 2) (pv 3) (nomark _)) (pa_cons (pe_cmpR (op_eqO OE FE BE (hr.mono (by decide)) pass0) (pv 3) (pv 2) (nomark _)) (pa_cons (pe_cmpR (op_neO OE FE BE (hr.mono (by decide)) pass0) (pv 2) (pv 3) (nomark _)) (pa_cons (pe_cmpR op_eq (pe_callTy (call_strO OT FT BT (hr.mono (by decide)) pass0) (by rfl) T.n_str (by decide +kernel) (pa_cons (pv 2) pa_nil)) (pe_callTy (call_strO OT FT BT (hr.mono (by decide)) pass0) (by rfl) T.n_str (by decide +kernel) (pa_cons (pv 3) pa_nil)) (nomark _)) pa_nil))))) pa_nil)) (pe_callB (call_reprD hg hr.units) (by rfl) T.n_repr (by decide +kernel) (pa_cons (pe_lst (pa_cons pe_bl (pa_cons pe_bl (pa_cons pe_bl (pa_cons pe_bl pa_nil))))) pa_nil)) (nomark _))
  (pss_one (ps_ret pe_bl))
  pss_nil)
(Evl.pss_cut (ps_par (i := 4) (j := 5) (by rfl) sc.nd rfl rfl (by decide) rfl rfl (pa_cons (pe_callTy call_list_of (by rfl) T.n_list (by decide +kernel) (pa_cons (pe_ix ix_list (pv 1) pe_int (fun _ _ => rfl)) pa_nil)) (pa_cons (pe_cal c__law_draw hr (by rfl) pass0 (pa_cons (pv 0) (pa_cons (pe_callB call_len (by rfl) T.n_len (by decide +kernel) (pa_cons (pe_ix ix_list (pv 1) pe_int (fun _ _ => rfl)) pa_nil)) pa_nil))) pa_nil)) (by rfl))
(Evl.pss_cut (ps_asg (pe_op op_add (pe_ix ix_list (pv 4) (pv 5) (fun _ _ => rfl)) pe_int) (pg_sub (pv 4) (pv 5) set_list))
(Evl.pss_cut (ps_set (i := 6) sc.nd rfl (.inl rfl) (pe_lst (pa_cons (pe_make M FI (hr.mono (by decide)) (by rfl) RK.S.g_Row BI .nil passL (pa_cons (pv 4) (pa_cons (pe_ix ix_list (pv 1) pe_int (fun _ _ => rfl)) (pa_cons (pe_ix ix_list (pv 1) pe_int (fun _ _ => rfl)) pa_nil)))) (pa_cons (pe_make M FI (hr.mono (by decide)) (by rfl) RK.S.g_Row BI .nil passL (pa_cons (pe_ix ix_list (pv 1) pe_int (fun _ _ => rfl)) (pa_cons (pe_ix ix_list (pv 1) pe_int (fun _ _ => rfl)) (pa_cons (pe_op op_add (pe_ix ix_list (pv 1) pe_int (fun _ _ => rfl)) pe_int) pa_nil)))) pa_nil))))
(Evl.pss_cut (ps_setLc (i := 7) (own := [("n", 10)]) (g := (gName 10)) (te := (tCal spAt E0 (tCons (tVar 1) (tCons (tVar 10) tNil)))) (tt := tYes) rfl sc.nd rfl rfl (by rfl) (pi_range2 rfl T.n_range (pa_cons pe_int (pa_cons (pe_op op_add (pe_op op_add (pe_callB call_len (by rfl) T.n_len (by decide +kernel) (pa_cons (pe_ix ix_list (pv 1) pe_int (fun _ _ => rfl)) pa_nil)) (pe_ix ix_list (pv 1) pe_int (fun _ _ => rfl))) pe_int) pa_nil))) (blkOk_by (N := ["pen", "told", "made", "other", "bent", "at", "near", "rest", "handed", "kept", "n", "one", "thing"]) (sc := defScope s_equal_right) (by decide +kernel)) (fun _ _ _ _ _ => by exact (pg_name (i := 10) sc.nd rfl (.inl rfl))) (fun _ _ _ _ _ => by exact pts_nil) (fun _ _ _ _ _ => by exact (pe_cal c__law_at hr (by rfl) pass0 (pa_cons (pv 1) (pa_cons (pv 10) pa_nil)))))
(Evl.pss_cut (ps_expr (pe_bm PySem.F.plainAttrs_list PySem.F.slot_list_append PySem.F.type_list_append mt_append (pv 6) (pa_cons (pe_make M FI (hr.mono (by decide)) (by rfl) RK.S.g_Row BI .nil passL (pa_cons (pe_op op_cat (pe_lst (pa_cons (pe_op op_add (pe_cal c__law_at hr (by rfl) pass0 (pa_cons (pv 1) (pa_cons pe_int pa_nil))) pe_int) pa_nil)) (pv 7)) (pa_cons (pe_ix ix_list (pv 1) pe_int (fun _ _ => rfl)) (pa_cons (pe_ix ix_list (pv 1) pe_int (fun _ _ => rfl)) pa_nil)))) pa_nil)))
(Evl.pss_cut (ps_if (pt_cmpR (op_neD hr.units) (pe_lc (own := [("one", 11)]) (g := (gName 11)) (te := (tC (.int 1))) (tt := (tOr (tTest (tOp (rOwnEq K C (spRowEq K C) E0) (tVar 2) (tVar 11))) (tNot (tTest (tOp (rOwnNe K C (spRowEq K C) E0) (tVar 2) (tVar 11)))))) rfl sc.nd (pi_list (pv 6)) (blkOk_by (N := ["pen", "told", "made", "other", "bent", "at", "near", "rest", "handed", "kept", "n", "one", "thing"]) (sc := defScope s_equal_right) (by decide +kernel)) (fun _ _ _ _ _ => by exact (pg_name (i := 11) sc.nd rfl (.inl rfl))) (fun _ _ _ _ _ => by exact (pts_one (PW.pt (pw_or (pt_cmpR (op_eqO OE FE BE (hr.mono (by decide)) pass0) (pv 2) (pv 11) (nomark _)) (pw_or1 (pt_not (pt_cmpR (op_neO OE FE BE (hr.mono (by decide)) pass0) (pv 2) (pv 11) (nomark _)))))))) (fun _ _ _ _ _ => by exact pe_int)) (pe_lst pa_nil) (nomark _))
  (pss_one (ps_ret pe_bl))
  pss_nil)
(Evl.pss_cut (ps_if (pt_cmpR (op_neD hr.units) (pe_lc (own := [("thing", 12)]) (g := (gName 12)) (te := (tC (.int 1))) (tt := (tTest (tOp (rOwnEq K C (spRowEq K C) E0) (tVar 2) (tVar 12)))) rfl sc.nd (pi_list (pe_lst (pa_cons pe_non (pa_cons pe_bl (pa_cons pe_int (pa_cons pe_str (pa_cons (pe_ix ix_list (pv 1) pe_int (fun _ _ => rfl)) (pa_cons (pe_prop (pv 2) S.cl PN FN (hr.mono (by decide)) BN .nil pass0 (by rfl)) (pa_cons (pe_callTy (call_strO OT FT BT (hr.mono (by decide)) pass0) (by rfl) T.n_str (by decide +kernel) (pa_cons (pv 2) pa_nil)) pa_nil))))))))) (blkOk_by (N := ["pen", "told", "made", "other", "bent", "at", "near", "rest", "handed", "kept", "n", "one", "thing"]) (sc := defScope s_equal_right) (by decide +kernel)) (fun _ _ _ _ _ => by exact (pg_name (i := 12) sc.nd rfl (.inl rfl))) (fun _ _ _ _ _ => by exact (pts_one (pt_cmpR (op_eqO OE FE BE (hr.mono (by decide)) pass0) (pv 2) (pv 12) (nomark _)))) (fun _ _ _ _ _ => by exact pe_int)) (pe_lst pa_nil) (nomark _))
  (pss_one (ps_ret pe_bl))
  pss_nil)
(Evl.pss_cut (ps_set (i := 8) sc.nd rfl (.inl rfl) (pe_callTy call_list_of (by rfl) T.n_list (by decide +kernel) (pa_cons (pe_ix ix_list (pv 1) pe_int (fun _ _ => rfl)) pa_nil)))
(Evl.pss_cut (ps_set (i := 9) sc.nd rfl (.inl rfl) (pe_makeK0 M FI (hr.mono (by decide)) (by rfl) RK.S.g_Row KI passL (pk_cons (pv 8) (pk_cons (pe_ix ix_list (pv 1) pe_int (fun _ _ => rfl)) (pk_cons (pe_ix ix_list (pv 1) pe_int (fun _ _ => rfl)) pk_nil)))))
(Evl.pss_cut (ps_asg (pe_op op_add (pe_ix ix_list (pv 8) pe_int (fun _ _ => rfl)) pe_int) (pg_sub (pv 8) pe_int set_list))
(Evl.pss_cut (ps_expr (pe_bm PySem.F.plainAttrs_list PySem.F.slot_list_append PySem.F.type_list_append mt_append (pv 8) (pa_cons pe_int pa_nil)))
(pss_one (ps_ret (pe_and (pe_cmpR (op_eqO OE FE BE (hr.mono (by decide)) pass0) (pv 9) (pv 2) (nomark _)) (pe_one (pe_cmpR op_eq (pe_callB (call_reprD hg hr.units) (by rfl) T.n_repr (by decide +kernel) (pa_cons (pe_prop (pv 9) S.cl PN FN (hr.mono (by decide)) BN .nil pass0 (by rfl)) pa_nil)) (pe_callB (call_reprD hg hr.units) (by rfl) T.n_repr (by decide +kernel) (pa_cons (pe_prop (pv 2) S.cl PN FN (hr.mono (by decide)) BN .nil pass0 (by rfl)) pa_nil)) (nomark _))))))))))))))))))), ?_⟩
    obtain ⟨tl0, l0, ev, tp, lp, ht0, hl0⟩ := id hv
    generalize ha : tellAt ns span step = a
    have ok := o.ok
    have few := o.few
    have s1 := o.s1
    have s2 := o.s2
    have small : ∀ {i : Nat}, i < 10000 → (a i).natAbs < 2 ^ 150 := fun h => by
      rw [← ha]
      exact o.at_ h
    have e64 : (2 : Nat) ^ 151 < 10 ^ 64 := by decide +kernel
    have e151 : (2 : Nat) ^ 150 + 2 ^ 150 = 2 ^ 151 := by decide +kernel
    obtain ⟨px, hp0⟩ := hP.at_
    -- made, other
    refine ⟨fun σ' H' => ∃ (x y : Addr) (N d : Nat), N + d ≤ ns.length ∧ RowAt K C H' x a N d ∧ RowAt K C H' y a N d ∧ But p H H' ∧ Pen H' p c (n + 2) ∧ σ' = [some (.ref p), some v, some (.ref x), some (.ref y), none, none, none, none, none, none, none, none, none], ?_, ?_⟩
    · refine ⟨v, rfl, p, v, true, ns, span, step, rfl, hv, ok, fun x N d H1 cn le nx t1 ra => ?_⟩
      rw [ha] at cn ra
      have P1 := hP.same t1
      refine ⟨.ref p, rfl, v, rfl, p, c, n, v, ns, span, step, rfl, P1, by omega, hv.same t1, o, fun v' ns' span' step' H2 hv2 ok2 eqa k2 P2 => ?_⟩
      obtain ⟨px1, hp1⟩ := P1.at_
      refine ⟨p, v', false, ns', span', step', rfl, hv2, ok2, fun y N' d' H3 cn' le' ny t3 rb => ?_⟩
      have ea : tellAt ns' span' step' = a := by
        rw [← ha]
        exact funext eqa
      rw [ea] at cn' rb
      obtain ⟨rfl, rfl⟩ := cn.uniq cn'
      refine ⟨szn 2, fun tp ntp => ?_⟩
      generalize hH4 : upd H3 tp _ = H4
      obtain ⟨t4, e4⟩ := alloc_eq ntp hH4
      have t34 := t3.trans t4
      exact ⟨tp, _, rfl, .of e4, rfl, _, _, rfl, _, _, rfl, rfl, x, y, N, d, le, (ra.but k2 hp1).same t34, rb.same t4, ((But.same t1).trans k2).trans (.same t34), P2.same t34, rfl⟩
    rintro σ' H1 ⟨x, y, N, d, le, rx, ry, k1, P1, rfl⟩
    have d1 : ∀ i, i < N + d → (a i).natAbs < 10 ^ 64 := fun i hi => by
      have := small (i := i) (by omega)
      omega
    have d2 : (a (N + d) - a N).natAbs < 10 ^ 64 := by
      have := small (i := N + d) (by omega)
      have := small (i := N) (by omega)
      omega
    have nfs := RK.nfs
    -- the first look
    refine ⟨fun σ' H' => Same H1 H' ∧ σ' = [some (.ref p), some v, some (.ref x), some (.ref y), none, none, none, none, none, none, none, none, none], ?_, ?_⟩
    · obtain ⟨_, _, dx, Tx, hx1, _⟩ := id rx
      obtain ⟨_, _, dy, Ty, hy1, _⟩ := id ry
      refine ⟨.ref x, rfl, .ref y, rfl, x, dx, _, .ref C, rfl, hx1, row_ty S RK.I ry, nfs, x, a, N, d, .ref y, rfl, rx, .inr ⟨y, a, N, d, rfl, ry, fun r1 h1 => ⟨r1, rfl, ?_⟩⟩⟩
      cases h1.mpr fun _ => rfl
      refine ⟨.ref y, rfl, .ref x, rfl, y, dy, _, .ref C, rfl, hy1, row_ty S RK.I rx, nfs, y, a, N, d, .ref x, rfl, ry, .inr ⟨x, a, N, d, rfl, rx, fun r2 h2 => ⟨r2, rfl, ?_⟩⟩⟩
      cases h2.mpr fun _ => rfl
      refine ⟨.ref x, rfl, .ref y, rfl, x, dx, _, .ref C, rfl, hx1, row_ty S RK.I ry, nfs, x, a, N, d, .ref y, rfl, rx, .inr ⟨y, a, N, d, rfl, ry, fun r3 h3 => ⟨r3, rfl, ?_⟩⟩⟩
      cases h3.mpr fun _ => rfl
      refine ⟨.ref x, rfl, x, dx, _, rfl, hx1, x, a, N, d, rfl, rx, fun i hi => .inl (d1 i hi), .inl d2, fun B1 t1 => ⟨_, rfl, ?_⟩⟩
      refine ⟨.ref y, rfl, y, dy, _, rfl, t1 _ _ hy1, y, a, N, d, rfl, ry.same t1, fun i hi => .inl (d1 i hi), .inl d2, fun B2 t2 => ⟨_, rfl, rfl, ?_⟩⟩
      rw [decide_eq_true rfl]
      refine ⟨szn 4, fun l1 n1 => ?_⟩
      generalize hB3 : upd B2 l1 _ = B3
      obtain ⟨t3, e3⟩ := alloc_eq n1 hB3
      have sh : Shw (.list [.bool true, .bool true, .bool false, .bool true]) 1 4 := (Shw.lst (ShwL.cons (Shw.bl _) (ShwL.cons (Shw.bl _) (ShwL.cons (Shw.bl _) (ShwL.cons (Shw.bl _) ShwL.nil))))).mono (by decide) (by decide)
      refine ⟨l1, .list [.bool true, .bool true, .bool false, .bool true], rfl, .lst (.of e3) (.cons (.bl true) (.cons (.bl true) (.cons (.bl false) (.cons (.bl true) .nil)))), sh.lay, sh.sh, Nat.le_trans sh.dp (by decide), sh.len (by decide), ?_⟩
      refine ⟨szn 4, fun l2 n2 => ?_⟩
      generalize hB4 : upd B3 l2 _ = B4
      obtain ⟨t4, e4⟩ := alloc_eq n2 hB4
      refine ⟨l2, .list [.bool true, .bool true, .bool false, .bool true], rfl, .lst (.of e4) (.cons (.bl true) (.cons (.bl true) (.cons (.bl false) (.cons (.bl true) .nil)))), sh.lay, sh.sh, Nat.le_trans sh.dp (by decide), sh.len (by decide), rfl, _, rfl, ?_⟩
      rw [decide_eq_true rfl]
      exact iteF ⟨((t1.trans t2).trans t3).trans t4, rfl⟩
    rintro σ' H2 ⟨t2, rfl⟩
    have rx2 := rx.same t2
    have k2 := k1.trans (.same t2)
    have P2 := P1.same t2
    have ht2 := k2 _ _ tp ht0
    have hl2 := k2 _ _ lp hl0
    clear rx ry
    -- bent, at
    refine ⟨fun σ' H' => ∃ (b : Addr) (at_ : Nat), at_ < ns.length ∧ H b = none ∧ b ≠ p ∧ b ≠ c ∧ H' b = some (.lst (ns.map V.int)) ∧ RowAt K C H' x a N d ∧ But p H H' ∧ Pen H' p c (n + 3) ∧ σ' = [some (.ref p), some v, some (.ref x), some (.ref y), some (.ref b), some (.int at_), none, none, none, none, none, none, none], ?_, ?_⟩
    · refine ⟨v, rfl, tl0, _, 0, .ref l0, ev, rfl, .of ht2, rfl, l0, _, rfl, .inl (.of hl2), fun b nb => ?_⟩
      generalize hB1 : upd H2 b _ = B1
      obtain ⟨t3, e3⟩ := alloc_eq nb hB1
      have P3 := P2.same t3
      have bp := P2.newP nb
      refine ⟨.ref p, rfl, v, rfl, tl0, _, 0, .ref l0, ev, rfl, .of (t3 _ _ ht2), rfl, .ref l0, _, rfl, .inl ⟨_, .of (t3 _ _ hl2), rfl⟩, p, c, n + 2, _, rfl, P3, by omega, ?_, ?_, fun dd B2 a0 a1 k3 P4 => ?_⟩
      · rw [List.length_map]
        omega
      · rw [List.length_map]
        exact small_pow (by omega) (by omega)
      rw [List.length_map] at a1
      obtain ⟨at_, rfl⟩ : ∃ k : Nat, dd = (k : Int) := ⟨dd.toNat, (Int.toNat_of_nonneg a0).symm⟩
      obtain ⟨px3, hp3⟩ := P3.at_
      exact ⟨_, _, rfl, b, at_, by omega, k2.free bp nb, bp, P2.newC nb, k3 _ _ bp e3, (rx2.same t3).but k3 hp3, (k2.trans (.same t3)).trans k3, P4, rfl⟩
    rintro σ' H3 ⟨b, at_, hat, nb, bp, bc, eb, rx3, k3, P3, rfl⟩
    -- bent[at]
    refine ⟨fun σ' H' => H' b = some (.lst ((ns.set at_ (ns.getD at_ 0 + 1)).map V.int)) ∧ RowAt K C H' x a N d ∧ But p H H' ∧ Pen H' p c (n + 3) ∧ σ' = [some (.ref p), some v, some (.ref x), some (.ref y), some (.ref b), some (.int at_), none, none, none, none, none, none, none], ?_, ?_⟩
    · refine ⟨.ref b, rfl, .int at_, rfl, b, _, _, .int (ns.getD at_ 0), rfl, rfl, .of eb, ints_at (by rw [List.getD_eq_getElem?_getD, List.getElem?_eq_getElem hat]; rfl), _, _, rfl, rfl, .ref b, rfl, .int at_, rfl, b, _, _, at_, rfl, rfl, eb, ?_, ?_⟩
      · unfold ixN
        rw [List.length_map, if_pos (by omega), if_pos (by omega)]
        rfl
      · refine ⟨?_, rx3.but .set eb, fun z ob n1 e1 => ?_, P3.mut bp bc, rfl⟩
        · rw [upd_same, List.map_set]
        · rw [upd_ne (ne_of_none e1 nb)]
          exact k3 z ob n1 e1
    clear eb rx3 k3 P3
    rintro σ' H4 ⟨eb, rx4, k4, P4, rfl⟩
    generalize hbn : ns.set at_ (ns.getD at_ 0 + 1) = bn at eb
    have lbn : bn.length = ns.length := by rw [← hbn, List.length_set]
    have ht4 := k4 _ _ tp ht0
    have hl4 := k4 _ _ lp hl0
    -- near
    refine ⟨fun σ' H' => ∃ (l r1 r2 : Addr), H l = none ∧ l ≠ p ∧ l ≠ c ∧ H' l = some (.lst [.ref r1, .ref r2]) ∧ NotA K C H' a r1 ∧ NotA K C H' a r2 ∧ Same H4 H' ∧ σ' = [some (.ref p), some v, some (.ref x), some (.ref y), some (.ref b), some (.int at_), some (.ref l), none, none, none, none, none, none], ?_, ?_⟩
    · refine ⟨.ref b, rfl, v, rfl, tl0, _, 1, .int span, ev, rfl, .of ht4, rfl, v, rfl, tl0, _, 2, .int step, ev, rfl, .of ht4, rfl, ?_⟩
      refine mk_row (o := .ok (bn, span, step)) (.ok ⟨b, rfl, .inl (.of eb)⟩ (by omega) rfl s1 (by omega) rfl) ?_
      refine rowEnd_few (K := K) (C := C) (by omega) fun N1 d1 cn1 le1 r1 B1 n1 t1 ra1 => ?_
      refine ⟨v, rfl, tl0, _, 0, .ref l0, ev, rfl, .of (t1 _ _ ht4), rfl, v, rfl, tl0, _, 1, .int span, ev, rfl, .of (t1 _ _ ht4), rfl, v, rfl, tl0, _, 2, .int step, ev, rfl, .of (t1 _ _ ht4), rfl, _, _, rfl, rfl, ?_⟩
      refine mk_row (o := .ok (ns, span, step + 1)) (.ok ⟨l0, rfl, .inl (.of (t1 _ _ hl4))⟩ (by omega) rfl s1 s2 rfl) ?_
      refine rowEnd_few (K := K) (C := C) (by omega) fun N2 d2 cn2 le2 r2 B2 n2 t2 ra2 => ?_
      refine ⟨szn 2, fun l nl => ?_⟩
      generalize hB3 : upd B2 l _ = B3
      obtain ⟨t3, e3⟩ := alloc_eq nl hB3
      have t12 := t1.trans t2
      have P2' := P4.same t12
      refine ⟨l, r1, r2, (k4.trans (.same t12)).free (P2'.newP nl) nl, P2'.newP nl, P2'.newC nl, e3, ⟨_, N1, d1, ra1.same (t2.trans t3), ?_⟩, ⟨_, N2, d2, ra2.same t3, ?_⟩, t12.trans t3, rfl⟩
      · rw [← ha, ← hbn]
        exact bent_ne hat
      · rw [← ha]
        exact step_ne (by omega)
    rintro σ' H5 ⟨l, r1, r2, nl, lpp, lc, el, na1, na2, t5, rfl⟩
    have k5 := k4.trans (.same t5)
    have hv5 := hv.but k5
    have ht5 := t5 _ _ ht4
    have hl5 := t5 _ _ hl4
    -- rest
    refine ⟨fun σ' H' => ∃ r : Addr, H' r = some (.lst (((List.range (ns.length + span)).map fun i => a (1 + i)).map V.int)) ∧ Same H5 H' ∧ σ' = [some (.ref p), some v, some (.ref x), some (.ref y), some (.ref b), some (.int at_), some (.ref l), some (.ref r), none, none, none, none, none], ?_, ?_⟩
    · refine ⟨v, rfl, tl0, _, 0, .ref l0, ev, rfl, .of ht5, rfl, .ref l0, _, rfl, .inl ⟨_, .of hl5, rfl⟩, v, rfl, tl0, _, 1, .int span, ev, rfl, .of ht5, rfl, _, _, rfl, rfl, _, _, rfl, rfl, _, _, rfl, ?_, fun D nD => ?_⟩
      · rw [List.length_map]
        omega
      rw [List.length_map]
      rw [show ((ns.length : Int) + (span : Int) + 1 - 1).toNat = ns.length + span by omega]
      refine lc_range (lo := 1) (n := ns.length + span) (fun i H' => Same H5 H' ∧ H' D = some (.lst (((List.range i).map fun i => a (1 + i)).map V.int))) ⟨same_new nD, upd_same⟩ ?_ ?_
      · rintro i B1 hi ⟨t1, hD⟩
        rw [show (1 : Int) + (i : Int) = ((1 + i : Nat) : Int) by omega]
        refine ⟨rfl, tyes_of ?_⟩
        refine ⟨v, rfl, .int ((1 + i : Nat) : Int), rfl, p, v, ns, span, step, 1 + i, rfl, hv5.same t1, ok, Nat.lt_of_lt_of_le (show 1 + i < 10000 by omega) (by decide +kernel), _, hD, ?_, fun z ob e2 => ?_, ?_⟩
        · rw [List.length_map, List.length_map, List.length_range]
          exact sz_lt (by omega)
        · rw [upd_ne (ne_of_none e2 nD)]
          exact t1 _ _ e2
        · rw [upd_same, ha, List.range_succ, List.map_append, List.map_append]
          rfl
      · rintro B1 ⟨t1, hD⟩
        exact ⟨D, hD, t1, rfl⟩
    rintro σ' H6 ⟨rr, er, t6, rfl⟩
    have k6 := k5.trans (.same t6)
    have el6 := t6 _ _ el
    have ht6 := t6 _ _ ht5
    have rx6 := (rx4.same t5).same t6
    have P6 := (P4.same t5).same t6
    have na1' := na1.same t6
    have na2' := na2.same t6
    generalize hrs : ((List.range (ns.length + span)).map fun i => a (1 + i)) = rs at er
    have lrs : rs.length = ns.length + span := by rw [← hrs, List.length_map, List.length_range]
    -- near.append
    refine ⟨fun σ' H' => ∃ r3 : Addr, H' l = some (.lst [.ref r1, .ref r2, .ref r3]) ∧ NotA K C H' a r1 ∧ NotA K C H' a r2 ∧ NotA K C H' a r3 ∧ RowAt K C H' x a N d ∧ But p H H' ∧ Pen H' p c (n + 3) ∧ σ' = [some (.ref p), some v, some (.ref x), some (.ref y), some (.ref b), some (.int at_), some (.ref l), some (.ref rr), none, none, none, none, none], ?_, ?_⟩
    · refine ⟨.ref l, rfl, .inl ⟨rfl, _, .inl (.inl el6)⟩, v, rfl, p, v, ns, span, step, 0, rfl, hv5.same t6, ok, by decide +kernel, _, _, rfl, rfl, szn 1, fun q1 nq1 => ?_⟩
      rw [ha]
      generalize hB1 : upd H6 q1 _ = B1
      obtain ⟨t1, e1⟩ := alloc_eq nq1 hB1
      refine ⟨.ref rr, rfl, q1, rr, _, _, rfl, rfl, e1, t1 _ _ er, sz_le (by rw [List.length_map]; show 1 + _ ≤ 100000; omega), fun q2 nq2 => ?_⟩
      generalize hB2 : upd B1 q2 _ = B2
      obtain ⟨t2, e2⟩ := alloc_eq nq2 hB2
      have t12 := t1.trans t2
      refine ⟨v, rfl, tl0, _, 1, .int span, ev, rfl, .of (t12 _ _ ht6), rfl, v, rfl, tl0, _, 2, .int step, ev, rfl, .of (t12 _ _ ht6), rfl, ?_⟩
      have e2' : B2 q2 = some (.lst (((a 0 + 1) :: rs).map V.int)) := e2
      refine mk_row (o := .ok ((a 0 + 1) :: rs, span, step)) (.ok ⟨q2, rfl, .inl (.of e2')⟩ (by rw [List.length_cons]; omega) rfl s1 (by rw [List.length_cons]; omega) rfl) ?_
      refine rowEnd_few (K := K) (C := C) (by rw [List.length_cons]; omega) fun N3 d3 cn3 le3 r3 B3 n3 t3 ra3 => ?_
      have t13 := t12.trans t3
      have el3 := t13 _ _ el6
      refine ⟨l, _, _, rfl, rfl, el3, by show 2 < sizeLine; decide, r3, upd_same, ?_, ?_, ?_, ?_, ?_, ?_, rfl⟩
      · exact (na1'.same t13).but .set el3
      · exact (na2'.same t13).but .set el3
      · refine NotA.but ⟨_, N3, d3, ra3, fun z => ?_⟩ .set el3
        have w := z 0
        rw [tell_lt (by show 0 < rs.length + 1; omega)] at w
        have w2 : a 0 = a 0 + 1 := w
        omega
      · exact (rx6.same t13).but .set el3
      · exact fun z ob n1 e1 => by
          rw [upd_ne (ne_of_none e1 nl)]
          exact t13 _ _ (k6 z ob n1 e1)
      · exact (P6.same t13).mut lpp lc
    clear el el6 na1 na2 na1' na2' rx6 P6 k6
    rintro σ' H7 ⟨r3, el7, na1, na2, na3, rx7, k7, P7, rfl⟩
    obtain ⟨_, _, dx, Tx, hx7, ht7⟩ := id rx7
    -- none of them
    refine ⟨fun σ' H' => Same H7 H' ∧ σ' = [some (.ref p), some v, some (.ref x), some (.ref y), some (.ref b), some (.int at_), some (.ref l), some (.ref rr), none, none, none, none, none], ?_, ?_⟩
    · refine ⟨.ref l, rfl, l, rfl, ⟨_, .of el7⟩, fun D nD => ?_⟩
      refine lc_list (K := K) (a := l) (xs := [.ref r1, .ref r2, .ref r3]) (fun i H' => Same H7 H' ∧ H' D = some (.lst [])) ⟨same_new nD, upd_same⟩ (fun i H' _ h => .of (h.1 _ _ el7)) ?_ ?_
      · rintro i u B1 hi ⟨t1, hD⟩
        obtain ⟨ru, rfl, nu⟩ : ∃ ru, u = .ref ru ∧ NotA K C H7 a ru := by
          match i, hi with
          | 0, hi => cases hi; exact ⟨_, rfl, na1⟩
          | 1, hi => cases hi; exact ⟨_, rfl, na2⟩
          | 2, hi => cases hi; exact ⟨_, rfl, na3⟩
          | i + 3, hi => cases hi
        obtain ⟨bu, Nu, du, rau, neu⟩ := nu.same t1
        have rx1 := rx7.same t1
        refine ⟨rfl, ?_⟩
        refine ⟨.ref x, rfl, .ref ru, rfl, x, dx, _, .ref C, rfl, t1 _ _ hx7, row_ty S RK.I rau, nfs, x, a, N, d, .ref ru, rfl, rx1, .inr ⟨ru, bu, Nu, du, rfl, rau, fun r1 h1 => ⟨r1, rfl, r1, rfl, ?_⟩⟩⟩
        have e1 : r1 = false := by
          cases r1 with
          | false => rfl
          | true => exact absurd (h1.mp rfl) neu
        subst e1
        refine iteF ?_
        refine ⟨.ref x, rfl, .ref ru, rfl, x, dx, _, .ref C, rfl, t1 _ _ hx7, row_ty S RK.I rau, nfs, x, a, N, d, .ref ru, rfl, rx1, .inr ⟨ru, bu, Nu, du, rfl, rau, fun r2 h2 => ⟨r2, rfl, _, rfl, ?_⟩⟩⟩
        have e2 : r2 = false := by
          cases r2 with
          | false => rfl
          | true => exact absurd (h2.mp rfl) neu
        subst e2
        exact iteF ⟨t1, hD⟩
      · rintro B1 ⟨t1, hD⟩
        refine ⟨szn 0, fun en nen => ?_⟩
        generalize hB2 : upd B1 en _ = B2
        obtain ⟨t2, e2⟩ := alloc_eq nen hB2
        refine ⟨.list [], .list [], .lst (.of (t2 _ _ hD)) .nil, .lst (.of e2) .nil, rfl, rfl, _, rfl, iteF ?_⟩
        exact ⟨t1.trans t2, rfl⟩
    rintro σ' H8 ⟨t8, rfl⟩
    have rx8 := rx7.same t8
    have k8 := k7.trans (.same t8)
    have ht8 := k8 _ _ tp ht0
    have hl8 := k8 _ _ lp hl0
    have hx8 := t8 _ _ hx7
    have nf := RK.nf
    -- none of the things
    refine ⟨fun σ' H' => Same H8 H' ∧ σ' = [some (.ref p), some v, some (.ref x), some (.ref y), some (.ref b), some (.int at_), some (.ref l), some (.ref rr), none, none, none, none, none], ?_, ?_⟩
    · refine ⟨v, rfl, tl0, _, 0, .ref l0, ev, rfl, .of ht8, rfl, ?_⟩
      refine ⟨.ref x, rfl, x, dx, _, rfl, hx8, x, dx, _, _, rfl, hx8, rflds_numbers _ _ _ _, ?_⟩
      refine ⟨.ref x, rfl, x, dx, _, rfl, hx8, x, a, N, d, rfl, rx8, fun i hi => .inl (d1 i hi), .inl d2, fun B1 t1 => ⟨_, rfl, ?_⟩⟩
      refine ⟨szn 7, fun th nth => ?_⟩
      generalize hB2 : upd B1 th _ = B2
      obtain ⟨t2, e2⟩ := alloc_eq nth hB2
      have t12 := t1.trans t2
      refine ⟨th, rfl, ⟨_, .of e2⟩, fun D nD => ?_⟩
      have tlen := rowT_len d1 d2
      have items : ∀ u ∈ ([.non, .bl true, .int 0, .str "", .ref l0, .ref Tx, .str (rowT a N d)] : List V), ∃ m, ValOk K H8 u m := by
        intro u hu
        simp only [List.mem_cons, List.not_mem_nil, or_false] at hu
        rcases hu with rfl | rfl | rfl | rfl | rfl | rfl | rfl
        · exact ⟨"NoneType", by decide, .base .non, fun z e => nomatch e⟩
        · exact ⟨"bool", by decide, .base (.bl _), fun z e => nomatch e⟩
        · exact ⟨"int", by decide, .base (.int _), fun z e => nomatch e⟩
        · exact ⟨"str", by decide, .base (.str _), fun z e => by cases e; exact Nat.zero_le _⟩
        · exact ⟨"list", by decide, sql_ty (.of hl8), fun z e => nomatch e⟩
        · exact ⟨"tuple", by decide, sqt_ty (sqt_same t8 ht7), fun z e => nomatch e⟩
        · exact ⟨"str", by decide, .base (.str _), fun z e => by cases e; omega⟩
      generalize hxs : ([.non, .bl true, .int 0, .str "", .ref l0, .ref Tx, .str (rowT a N d)] : List V) = xs at items
      have e2' : B2 th = some (.lst xs) := by
        rw [← hxs]
        exact e2
      refine lc_list (K := K) (a := th) (xs := xs) (fun i H' => Same B2 H' ∧ H' D = some (.lst [])) ⟨same_new nD, upd_same⟩ (fun i H' _ h => .of (h.1 _ _ e2')) ?_ ?_
      · rintro i u B3 hi ⟨t3, hD⟩
        obtain ⟨m, oku⟩ := items u (List.mem_of_getElem? hi)
        have t83 := t12.trans t3
        have oku3 := oku.same t83
        refine ⟨rfl, ?_⟩
        refine ⟨.ref x, rfl, u, rfl, x, dx, _, .type m, rfl, t83 _ _ hx8, oku3.t, nf m oku3.k, x, a, N, d, u, rfl, rx8.same t83, .inl ⟨m, oku3, false, rfl, _, rfl, iteF ⟨t3, hD⟩⟩⟩
      · rintro B3 ⟨t3, hD⟩
        refine ⟨szn 0, fun en nen => ?_⟩
        generalize hB4 : upd B3 en _ = B4
        obtain ⟨t4, e4⟩ := alloc_eq nen hB4
        refine ⟨.list [], .list [], .lst (.of (t4 _ _ hD)) .nil, .lst (.of e4) .nil, rfl, rfl, _, rfl, iteF ?_⟩
        exact ⟨(t12.trans t3).trans t4, rfl⟩
    rintro σ' H9 ⟨t9, rfl⟩
    have rx9 := rx8.same t9
    have k9 := k8.trans (.same t9)
    have P9 := (P7.same t8).same t9
    have ht9 := t9 _ _ ht8
    have hl9 := t9 _ _ hl8
    -- handed
    refine ⟨fun σ' H' => ∃ h : Addr, H h = none ∧ h ≠ p ∧ h ≠ c ∧ H' h = some (.lst (ns.map V.int)) ∧ Same H9 H' ∧ σ' = [some (.ref p), some v, some (.ref x), some (.ref y), some (.ref b), some (.int at_), some (.ref l), some (.ref rr), some (.ref h), none, none, none, none], ?_, ?_⟩
    · refine ⟨v, rfl, tl0, _, 0, .ref l0, ev, rfl, .of ht9, rfl, l0, _, rfl, .inl (.of hl9), fun h nh => ?_⟩
      generalize hB1 : upd H9 h _ = B1
      obtain ⟨t1, e1⟩ := alloc_eq nh hB1
      exact ⟨h, k9.free (P9.newP nh) nh, P9.newP nh, P9.newC nh, e1, t1, rfl⟩
    rintro σ' HA ⟨h, nh, hp, hc, eh, tA, rfl⟩
    have htA := tA _ _ ht9
    have hlA := tA _ _ hl9
    -- kept
    refine ⟨fun σ' H' => ∃ r : Addr, RowAt K C H' r a N d ∧ Same HA H' ∧ σ' = [some (.ref p), some v, some (.ref x), some (.ref y), some (.ref b), some (.int at_), some (.ref l), some (.ref rr), some (.ref h), some (.ref r), none, none, none], ?_, ?_⟩
    · refine ⟨.ref h, rfl, v, rfl, tl0, _, 1, .int span, ev, rfl, .of htA, rfl, v, rfl, tl0, _, 2, .int step, ev, rfl, .of htA, rfl, rfl, rfl, ?_⟩
      refine mk_row (o := .ok (ns, span, step)) (.ok ⟨h, rfl, .inl (.of eh)⟩ (by omega) rfl s1 s2 rfl) ?_
      refine rowEnd_few (K := K) (C := C) (by omega) fun N1 d1 cn1 le1 r B1 n1 t1 ra1 => ?_
      rw [ha] at cn1 ra1
      obtain ⟨rfl, rfl⟩ := rx9.can.uniq cn1
      exact ⟨r, ra1, t1, rfl⟩
    rintro σ' HB ⟨r, rr1, tB, rfl⟩
    have ehB := tB _ _ eh
    have rxB := (rx9.same tA).same tB
    have kB := (k9.trans (.same tA)).trans (.same tB)
    have PB := (P9.same tA).same tB
    obtain ⟨z0, zs, ens⟩ : ∃ z0 zs, ns = z0 :: zs := by
      cases ns with
      | nil => exact absurd s2 (by show ¬ span ≤ 0; omega)
      | cons z0 zs => exact ⟨z0, zs, rfl⟩
    -- handed[0]
    refine ⟨fun σ' H' => H' h = some (.lst (((z0 + 5) :: zs).map V.int)) ∧ RowAt K C H' x a N d ∧ RowAt K C H' r a N d ∧ But p H H' ∧ Pen H' p c (n + 3) ∧ σ' = [some (.ref p), some v, some (.ref x), some (.ref y), some (.ref b), some (.int at_), some (.ref l), some (.ref rr), some (.ref h), some (.ref r), none, none, none], ?_, ?_⟩
    · rw [ens] at ehB
      have ix0 : ixN ((z0 :: zs).map V.int).length 0 = some 0 := by
        unfold ixN
        rw [if_pos (by decide), if_pos (by rw [List.length_map, List.length_cons]; omega)]
        rfl
      refine ⟨.ref h, rfl, h, _, 0, .int z0, rfl, rfl, .of ehB, ints_at (i := 0) rfl, _, _, rfl, rfl, .ref h, rfl, h, _, 0, 0, rfl, rfl, ehB, ix0, upd_same, rxB.but .set ehB, rr1.but .set ehB, fun z ob n1 e1 => ?_, PB.mut hp hc, rfl⟩
      rw [upd_ne (ne_of_none e1 nh)]
      exact kB z ob n1 e1
    rintro σ' HC ⟨ehC, rxC, rrC, kC, PC, rfl⟩
    -- handed.append
    refine ⟨fun σ' H' => RowAt K C H' x a N d ∧ RowAt K C H' r a N d ∧ But p H H' ∧ Pen H' p c (n + 3) ∧ σ' = [some (.ref p), some v, some (.ref x), some (.ref y), some (.ref b), some (.int at_), some (.ref l), some (.ref rr), some (.ref h), some (.ref r), none, none, none], ?_, ?_⟩
    · refine ⟨.ref h, rfl, .inl ⟨rfl, _, .inl (.inl ehC)⟩, h, _, _, rfl, rfl, ehC, sz_lt ?_, rxC.but .set ehC, rrC.but .set ehC, fun z ob n1 e1 => ?_, PC.mut hp hc, rfl⟩
      · rw [List.length_map, List.length_cons]
        rw [ens, List.length_cons] at few
        omega
      · rw [upd_ne (ne_of_none e1 nh)]
        exact kC z ob n1 e1
    rintro σ' HD ⟨rxD, rrD, kD, PD, rfl⟩
    obtain ⟨_, _, dr, Tr, hr1, htr⟩ := id rrD
    obtain ⟨_, _, dx2, Tx2, hx2, htx2⟩ := id rxD
    refine ⟨.ref r, rfl, .ref x, rfl, r, dr, _, .ref C, rfl, hr1, row_ty S RK.I rxD, nfs, r, a, N, d, .ref x, rfl, rrD, .inr ⟨x, a, N, d, rfl, rxD, fun r1 h1 => ⟨r1, rfl, ?_⟩⟩⟩
    cases h1.mpr fun _ => rfl
    refine ⟨true, rfl, iteT ?_⟩
    have sh : Shw (.tuple ((firsts a (N + d)).map PyData.int)) 1 (152 * (firsts a (N + d)).length) := Shw.tup (ShwL.all fun z hz => by
      obtain ⟨i, hi, rfl⟩ := mem_firsts hz
      exact Shw.intB (k := 150) (by decide) (by decide) (small (by omega)))
    rw [firsts_len] at sh
    have shl : (PyData.tuple ((firsts a (N + d)).map PyData.int)).shown.length ≤ sizeLine := sh.len (by omega)
    refine ⟨.ref r, rfl, r, dr, _, rfl, hr1, r, dr, _, _, rfl, hr1, rflds_numbers _ _ _ _, Tr, _, rfl, .tup htr (dpAll_ints _), sh.lay, sh.sh, Nat.le_trans sh.dp (by decide), shl, ?_⟩
    refine ⟨.ref x, rfl, x, dx2, _, rfl, hx2, x, dx2, _, _, rfl, hx2, rflds_numbers _ _ _ _, Tx2, _, rfl, .tup htx2 (dpAll_ints _), sh.lay, sh.sh, Nat.le_trans sh.dp (by decide), shl, rfl, ?_⟩
    rw [decide_eq_true rfl]
    exact q HD kD PD
end
end LC
/-! LcReprX: repr of lists and tuples with dicts of plain values in them. -/
namespace LC
open PySem PySem.Spec PyProof.Rows L2
mutual
inductive DpX (K : PySem.W.Frag) (H : Hp) : V → PyData → Prop
  | non : DpX K H .non .none
  | bl (b : Bool) : DpX K H (.bl b) (.bool b)
  | int (i : Int) : DpX K H (.int i) (.int i)
  | str (x : Str) : DpX K H (.str x) (.str x)
  | lst {a : Addr} {xs : List V} {ds : List PyData} : SqL K H a xs → DpXAll K H xs ds → DpX K H (.ref a) (.list ds)
  | tup {a : Addr} {xs : List V} {ds : List PyData} : SqT K H a xs → DpXAll K H xs ds → DpX K H (.ref a) (.tuple ds)
  | dct {a : Addr} {kvs : List (Key × V)} {ds : List (PyData × PyData)} : H a = some (.dK kvs) → KvD kvs ds → DpX K H (.ref a) (.dict ds)
inductive DpXAll (K : PySem.W.Frag) (H : Hp) : List V → List PyData → Prop
  | nil : DpXAll K H [] []
  | cons {v : V} {vs : List V} {d : PyData} {ds : List PyData} : DpX K H v d → DpXAll K H vs ds → DpXAll K H (v :: vs) (d :: ds)
end
/-- the modules' table is no list -/
def SysD (K : PySem.W.Frag) : Prop := ∃ o, K.lookup sysModules = some o ∧ o.cls = .type "dict"
def sysB (K : PySem.W.Frag) : Bool := match K.lookup sysModules with
  | some o => decide (o.cls = .type "dict")
  | none => false
theorem sysD_of {K : PySem.W.Frag} (h : sysB K = true) : SysD K := by
  unfold sysB at h
  split at h
  · rename_i o e
    exact ⟨o, e, of_decide_eq_true h⟩
  · cases h
section
variable {X : Cx} {pins : List (Addr × Obj)} {σ : L2.St} {H : Hp} {s : Shared}
mutual
theorem DpX.reads (I : Inv X pins σ H s) (hs : SysD X.K) : ∀ (d : PyData) (v : V) (u : Value), DpX X.K H v d → RelV v u → ∃ as, Reads s.heap u d as ∧ sysModules ∉ as
  | .none, _, _, h, r => by
    cases h
    cases r
    exact ⟨_, Reads.none, fun z => nomatch z⟩
  | .bool b, _, _, h, r => by
    cases h
    cases r
    exact ⟨_, Reads.bool b, fun z => nomatch z⟩
  | .int i, _, _, h, r => by
    cases h
    obtain ⟨t, rfl⟩ := r
    exact ⟨_, Reads.int i t, fun z => nomatch z⟩
  | .str x, _, _, h, r => by
    cases h
    obtain ⟨t, rfl⟩ := r
    exact ⟨_, Reads.str x t, fun z => nomatch z⟩
  | .list ds, _, _, h, r => by
    cases h with
    | lst hsq ha =>
      cases r
      obtain ⟨its, rv, ⟨o, n, ho, hc, _, hd⟩, _⟩ := I.list hsq
      obtain ⟨as, hr, na⟩ := DpX.readsAll I hs ds _ its ha rv
      refine ⟨_, Reads.list ho hc hd hr, fun m => ?_⟩
      rcases List.mem_cons.mp m with e | m
      · obtain ⟨o2, l2, c2⟩ := hs
        have g := I.kIn _ _ l2
        rw [e, ho] at g
        cases g
        rw [hc] at c2
        exact absurd c2 (by decide)
      · exact na m
  | .tuple ds, _, _, h, r => by
    cases h with
    | tup hsq ha =>
      cases r
      obtain ⟨its, rv, ⟨o, ho, hc, n, hd⟩, _⟩ := I.tuple hsq
      obtain ⟨as, hr, na⟩ := DpX.readsAll I hs ds _ its ha rv
      exact ⟨_, Reads.tuple ho hc hd hr, na⟩
  | .dict ds, _, _, h, r => by
    cases h with
    | @dct a kvs _ hd hk =>
      cases r
      obtain ⟨_, hne, vs, kv, o, es, ep, ho, hx, hdat, _, hp, _⟩ := I.hok a _ hd
      obtain ⟨r1, r2⟩ := reads_kv (h := s.heap) hp kv hk
      refine ⟨_, .dict ho hx.1 hdat r1 r2, fun m => ?_⟩
      simp at m
      rw [← m] at hne
      simp at hne
theorem DpX.readsAll (I : Inv X pins σ H s) (hs : SysD X.K) : ∀ (ds : List PyData) (vs : List V) (us : List Value), DpXAll X.K H vs ds → Vals vs us → ∃ as, ReadsAll s.heap us ds as ∧ sysModules ∉ as
  | [], _, _, h, r => by
    cases h
    cases r
    exact ⟨_, ReadsAll.nil, fun z => nomatch z⟩
  | d :: ds, _, _, h, r => by
    cases h with
    | cons h1 h2 =>
      cases r with
      | cons r1 r2 =>
        obtain ⟨as, q1, n1⟩ := DpX.reads I hs d _ _ h1 r1
        obtain ⟨bs, q2, n2⟩ := DpX.readsAll I hs ds _ _ h2 r2
        exact ⟨_, ReadsAll.cons q1 q2, fun m => (List.mem_append.mp m).elim n1 n2⟩
end
end
section
variable {X : Cx}
theorem call_reprX (hs : SysD X.K) (hg : X.A.guards = some []) (hu : X.A.units + 64 < cLine) : CallR X (.builtin "repr") (fun xs H Q => ∃ a d, xs = [.ref a] ∧ DpX X.K H (.ref a) d ∧ d.showable = true ∧ d.depth ≤ 60 ∧ d.shown.length ≤ sizeLine ∧ Q (.str d.shown) H) := by
  rintro pins s σ H xs us Q I r ⟨a, d, rfl, hd, hsh, hdp, hz, q⟩
  obtain ⟨u, rfl, ru⟩ := vals1 r
  obtain rfl : u = Value.ref a := ru
  obtain ⟨as, rd, na⟩ := DpX.reads I hs d _ _ hd (show L2.RelV (.ref a) (Value.ref a) from rfl)
  exact repr_of_reads' rd hsh (fun _ => na) hg (by omega) (fun _ _ e => e) (fun h' t tk k => ⟨.str _, H, I.kept k, ⟨_, rfl⟩, q⟩) hz
end
end LC
/-! LcLit: values that are written out. -/
namespace LC
open PySem PySem.Spec PyProof.Rows L2
/-- data, written out -/
inductive Lit
  | non | bl (b : Bool) | int (i : Int) | str (z : Str) | lst (xs : List Lit) | tup (xs : List Lit)
mutual
def Lit.t : Lit → TE
  | .non => tC .non
  | .bl b => tC (.bl b)
  | .int i => tC (.int i)
  | .str z => tC (.str z)
  | .lst xs => tLst (Lit.ts xs)
  | .tup xs => tTup (Lit.ts xs)
def Lit.ts : List Lit → TA
  | [] => tNil
  | x :: xs => tCons (Lit.t x) (Lit.ts xs)
end
theorem But.sqlN {K : PySem.W.Frag} {p a : Addr} {H H' : Hp} {xs : List V} (e : But p H H') (n : a ≠ p) (h : SqL K H a xs) : SqL K H' a xs := by
  rcases h with (h | ⟨o, h⟩) | h
  · exact .inl (.inl (e _ _ n h))
  · exact .inl (.inr ⟨o, e _ _ n h⟩)
  · exact .inr h
mutual
/-- a value is this data; lists were not there in H0 -/
inductive Is (K : PySem.W.Frag) (H0 H : Hp) : V → Lit → Prop
  | non : Is K H0 H .non .non
  | bl (b : Bool) : Is K H0 H (.bl b) (.bl b)
  | int (i : Int) : Is K H0 H (.int i) (.int i)
  | str (z : Str) : Is K H0 H (.str z) (.str z)
  | lst {a : Addr} {vs : List V} {ds : List Lit} : H0 a = none → SqL K H a vs → IsAll K H0 H vs ds → Is K H0 H (.ref a) (.lst ds)
  | tup {a : Addr} {vs : List V} {ds : List Lit} : SqT K H a vs → IsAll K H0 H vs ds → Is K H0 H (.ref a) (.tup ds)
inductive IsAll (K : PySem.W.Frag) (H0 H : Hp) : List V → List Lit → Prop
  | nil : IsAll K H0 H [] []
  | cons {v : V} {vs : List V} {d : Lit} {ds : List Lit} : Is K H0 H v d → IsAll K H0 H vs ds → IsAll K H0 H (v :: vs) (d :: ds)
end
mutual
theorem Is.same {K : PySem.W.Frag} {H0 H H' : Hp} (s : Same H H') : ∀ {d : Lit} {v : V}, Is K H0 H v d → Is K H0 H' v d
  | .non, _, .non => .non
  | .bl b, _, .bl _ => .bl b
  | .int i, _, .int _ => .int i
  | .str z, _, .str _ => .str z
  | .lst ds, _, .lst n q r => .lst n (sql_same s q) (IsAll.same s r)
  | .tup ds, _, .tup q r => .tup (sqt_same s q) (IsAll.same s r)
theorem IsAll.same {K : PySem.W.Frag} {H0 H H' : Hp} (s : Same H H') : ∀ {ds : List Lit} {vs : List V}, IsAll K H0 H vs ds → IsAll K H0 H' vs ds
  | [], _, .nil => .nil
  | _ :: _, _, .cons a r => .cons (Is.same s a) (IsAll.same s r)
end
mutual
theorem Is.but {K : PySem.W.Frag} {H0 H H' : Hp} {p : Addr} {u : HO} (k : But p H H') (hp : H p = some u) (nt : NT u) (n0 : H0 p ≠ none) : ∀ {d : Lit} {v : V}, Is K H0 H v d → Is K H0 H' v d
  | .non, _, .non => .non
  | .bl b, _, .bl _ => .bl b
  | .int i, _, .int _ => .int i
  | .str z, _, .str _ => .str z
  | .lst ds, _, .lst (a := a) n q r => .lst n (k.sqlN (fun e => n0 (by rw [← e]; exact n)) q) (IsAll.but k hp nt n0 r)
  | .tup ds, _, .tup q r => .tup (k.sqtN hp nt q) (IsAll.but k hp nt n0 r)
theorem IsAll.but {K : PySem.W.Frag} {H0 H H' : Hp} {p : Addr} {u : HO} (k : But p H H') (hp : H p = some u) (nt : NT u) (n0 : H0 p ≠ none) : ∀ {ds : List Lit} {vs : List V}, IsAll K H0 H vs ds → IsAll K H0 H' vs ds
  | [], _, .nil => .nil
  | _ :: _, _, .cons a r => .cons (Is.but k hp nt n0 a) (IsAll.but k hp nt n0 r)
end
theorem IsAll.len {K : PySem.W.Frag} {H0 H : Hp} : ∀ {ds : List Lit} {vs : List V}, IsAll K H0 H vs ds → vs.length = ds.length
  | [], _, .nil => rfl
  | _ :: _, _, .cons _ r => congrArg Nat.succ r.len
mutual
/-- few in each row -/
def Lit.few : Lit → Bool
  | .lst xs => decide (xs.length ≤ 1000) && Lit.fews xs
  | .tup xs => decide (xs.length ≤ 1000) && Lit.fews xs
  | .str z => decide (z.length ≤ 100000)
  | _ => true
def Lit.fews : List Lit → Bool
  | [] => true
  | x :: xs => Lit.few x && Lit.fews xs
end
theorem fresh_of {H0 H1 : Hp} {p : Addr} (s : Same H0 H1) (n : H1 p = none) : H0 p = none := by
  cases z : H0 p with
  | none => rfl
  | some o =>
    rw [s _ _ z] at n
    cases n
mutual
/-- what the writing leaves -/
theorem lit_t {K : PySem.W.Frag} {H0 : Hp} : ∀ (d : Lit), d.few = true → ∀ {σ : L2.St} {H : Hp} {Q : VK}, Same H0 H → (∀ (v : V) (H' : Hp), Same H H' → Is K H0 H' v d → Q v H') → d.t σ H Q
  | .non, _, σ, H, Q, _, q => q _ H (Same.refl H) .non
  | .bl b, _, σ, H, Q, _, q => q _ H (Same.refl H) (.bl b)
  | .int i, _, σ, H, Q, _, q => q _ H (Same.refl H) (.int i)
  | .str z, _, σ, H, Q, _, q => q _ H (Same.refl H) (.str z)
  | .lst xs, f, σ, H, Q, s0, q => by
    have f : (decide (xs.length ≤ 1000) && Lit.fews xs) = true := f
    rw [Bool.and_eq_true, decide_eq_true_eq] at f
    show Lit.ts xs σ H _
    refine lit_ts (K := K) (H0 := H0) xs f.2 s0 fun vs H1 s1 h1 => ⟨sz_le (by rw [h1.len]; omega), fun p np => ?_⟩
    exact q _ _ (s1.trans (same_new np)) (.lst (fresh_of (s0.trans s1) np) (.of upd_same) (h1.same (same_new np)))
  | .tup xs, f, σ, H, Q, s0, q => by
    have f : (decide (xs.length ≤ 1000) && Lit.fews xs) = true := f
    rw [Bool.and_eq_true, decide_eq_true_eq] at f
    show Lit.ts xs σ H _
    refine lit_ts (K := K) (H0 := H0) xs f.2 s0 fun vs H1 s1 h1 => ⟨sz_le (by rw [h1.len]; omega), fun p np => ?_⟩
    exact q _ _ (s1.trans (same_new np)) (.tup (.of upd_same) (h1.same (same_new np)))
theorem lit_ts {K : PySem.W.Frag} {H0 : Hp} : ∀ (ds : List Lit), Lit.fews ds = true → ∀ {σ : L2.St} {H : Hp} {Q : List V → Hp → Prop}, Same H0 H → (∀ (vs : List V) (H' : Hp), Same H H' → IsAll K H0 H' vs ds → Q vs H') → Lit.ts ds σ H Q
  | [], _, σ, H, Q, _, q => q _ H (Same.refl H) .nil
  | d :: ds, f, σ, H, Q, s0, q => by
    have f : (Lit.few d && Lit.fews ds) = true := f
    rw [Bool.and_eq_true] at f
    show Lit.t d σ H _
    refine lit_t (K := K) (H0 := H0) d f.1 s0 fun v H1 s1 h1 => ?_
    show Lit.ts ds σ H1 _
    refine lit_ts (K := K) (H0 := H0) ds f.2 (s0.trans s1) fun vs H2 s2 h2 => q _ H2 (s1.trans s2) (.cons (h1.same s2) h2)
end
/-- a new list of such -/
theorem lit_lst {K : PySem.W.Frag} {H0 : Hp} (ds : List Lit) (f : Lit.fews ds = true) (few : ds.length ≤ 1000) {σ : L2.St} {H : Hp} {Q : VK} (s0 : Same H0 H) (q : ∀ (l : Addr) (vs : List V) (H' : Hp), H l = none → Same H H' → H' l = some (.lst vs) → IsAll K H0 H' vs ds → Q (.ref l) H') : (Lit.lst ds).t σ H Q := by
  show Lit.ts ds σ H _
  refine lit_ts (K := K) (H0 := H0) ds f s0 fun vs H1 s1 h1 => ⟨sz_le (by rw [h1.len]; omega), fun p np => ?_⟩
  refine q p vs _ ?_ (s1.trans (same_new np)) upd_same (h1.same (same_new np))
  cases z : H p with
  | none => rfl
  | some o =>
    rw [s1 _ _ z] at np
    cases np
/-! ### kinds -/
def Lit.kind : Lit → String
  | .non => "NoneType"
  | .bl _ => "bool"
  | .int _ => "int"
  | .str _ => "str"
  | .lst _ => "list"
  | .tup _ => "tuple"
theorem Is.ok {K : PySem.W.Frag} {H0 H : Hp} {v : V} {d : Lit} (h : Is K H0 H v d) (f : d.few = true) : ValOk K H v d.kind := by
  cases h with
  | non => exact ⟨(by decide : "NoneType" ∈ kinds), .base .non, fun z e => nomatch e⟩
  | bl b => exact ⟨(by decide : "bool" ∈ kinds), .base (.bl b), fun z e => nomatch e⟩
  | int i => exact ⟨(by decide : "int" ∈ kinds), .base (.int i), fun z e => nomatch e⟩
  | str z => exact ⟨(by decide : "str" ∈ kinds), .base (.str z), fun y e => by cases e; exact of_decide_eq_true f⟩
  | lst _ q _ => exact ⟨(by decide : "list" ∈ kinds), sql_ty q, fun z e => nomatch e⟩
  | tup q _ => exact ⟨(by decide : "tuple" ∈ kinds), sqt_ty q, fun z e => nomatch e⟩
def Lit.seq : Lit → Option (List Lit)
  | .lst xs => some xs
  | .tup xs => some xs
  | _ => none
theorem Is.seq {K : PySem.W.Frag} {H0 H : Hp} {v : V} {d : Lit} {xs : List Lit} (h : Is K H0 H v d) (e : d.seq = some xs) : ∃ vs, SeqOf K H v vs ∧ IsAll K H0 H vs xs := by
  cases h with
  | lst _ q r => cases e; exact ⟨_, ⟨_, rfl, .inl q⟩, r⟩
  | tup q r => cases e; exact ⟨_, ⟨_, rfl, .inr q⟩, r⟩
  | _ => cases e
theorem kind_seq {d : Lit} (h : d.seq = none) : (d.kind == "tuple" || d.kind == "list") = false := by
  cases d with
  | lst _ => cases h
  | tup _ => cases h
  | non => exact (by decide : (("NoneType" : String) == "tuple" || ("NoneType" : String) == "list") = false)
  | bl _ => exact (by decide : (("bool" : String) == "tuple" || ("bool" : String) == "list") = false)
  | int _ => exact (by decide : (("int" : String) == "tuple" || ("int" : String) == "list") = false)
  | str _ => exact (by decide : (("str" : String) == "tuple" || ("str" : String) == "list") = false)
/-! ### terms -/
def Lit.nameB : Lit → Bool
  | .str z => LC.nameB z
  | _ => false
def Lit.within : Lit → Bool
  | .int i => decide (-999999 ≤ i) && decide (i ≤ 999999)
  | _ => false
theorem Is.within {K : PySem.W.Frag} {H0 H : Hp} {v : V} {d : Lit} (h : Is K H0 H v d) : withinB (-999999) 999999 v = d.within := by
  cases h <;> rfl
theorem Is.nameB {K : PySem.W.Frag} {H0 H : Hp} {v : V} {d : Lit} (h : Is K H0 H v d) : isNameB v = d.nameB := by
  cases h <;> rfl
theorem IsAll.names {K : PySem.W.Frag} {H0 H : Hp} : ∀ {ds : List Lit} {vs : List V}, IsAll K H0 H vs ds → vs.all isNameB = ds.all Lit.nameB
  | [], _, .nil => rfl
  | _ :: _, _, .cons a r => by
    rw [List.all_cons, List.all_cons, a.nameB, r.names]
/-- whether it is a term -/
def Lit.term (d : Lit) : Bool := match d.seq with
  | some [x, y] => x.within && match y.seq with
    | some zs => decide (zs.length ≤ 3) && zs.all Lit.nameB
    | none => false
  | _ => false
theorem IsAll.oks {K : PySem.W.Frag} {H0 H : Hp} : ∀ {ds : List Lit} {vs : List V}, IsAll K H0 H vs ds → Lit.fews ds = true → ∀ v ∈ vs, ∃ m, ValOk K H v m
  | [], _, .nil, _, v, hv => nomatch hv
  | d :: ds, _, .cons a r, f, v, hv => by
    have f : (Lit.few d && Lit.fews ds) = true := f
    rw [Bool.and_eq_true] at f
    rcases List.mem_cons.mp hv with e | hv
    · rw [e]
      exact ⟨_, a.ok f.1⟩
    · exact IsAll.oks r f.2 v hv
theorem fews_seq {d : Lit} {xs : List Lit} (f : d.few = true) (e : d.seq = some xs) : Lit.fews xs = true := by
  cases d with
  | lst ys =>
    cases e
    have f : (decide (xs.length ≤ 1000) && Lit.fews xs) = true := f
    rw [Bool.and_eq_true] at f
    exact f.2
  | tup ys =>
    cases e
    have f : (decide (xs.length ≤ 1000) && Lit.fews xs) = true := f
    rw [Bool.and_eq_true] at f
    exact f.2
  | _ => cases e
def Lit.inner (y : Lit) : Bool := match y.seq with
  | some zs => decide (zs.length ≤ 3) && zs.all Lit.nameB
  | none => false
theorem term_two {x y : Lit} {d : Lit} (e : d.seq = some [x, y]) : d.term = (x.within && y.inner) := by
  unfold Lit.term
  rw [e]
  rfl
theorem term_none {d : Lit} (e : d.seq = none) : d.term = false := by
  unfold Lit.term
  rw [e]
theorem term_other {d : Lit} {xs : List Lit} (e : d.seq = some xs) (n : xs.length ≠ 2) : d.term = false := by
  unfold Lit.term
  rw [e]
  rcases xs with _ | ⟨a, _ | ⟨b, _ | ⟨c, r⟩⟩⟩
  · rfl
  · rfl
  · exact absurd rfl n
  · rfl
theorem inner_none {y : Lit} (e : y.seq = none) : y.inner = false := by
  unfold Lit.inner
  rw [e]
theorem inner_some {y : Lit} {zs : List Lit} (e : y.seq = some zs) : y.inner = (decide (zs.length ≤ 3) && zs.all Lit.nameB) := by
  unfold Lit.inner
  rw [e]
theorem IsAll.two {K : PySem.W.Frag} {H0 H : Hp} {vs : List V} {x y : Lit} (h : IsAll K H0 H vs [x, y]) : ∃ a b, vs = [a, b] ∧ Is K H0 H a x ∧ Is K H0 H b y := by
  cases h with
  | cons h1 r =>
    cases r with
    | cons h2 r =>
      cases r
      exact ⟨_, _, rfl, h1, h2⟩
theorem fews_two {x y : Lit} (f : Lit.fews [x, y] = true) : x.few = true ∧ y.few = true := by
  have f : (x.few && (y.few && true)) = true := f
  rw [Bool.and_true, Bool.and_eq_true] at f
  exact f
theorem Is.arg {K : PySem.W.Frag} {H0 H : Hp} {v : V} {d : Lit} (h : Is K H0 H v d) (f : d.few = true) : ArgT K H v d.term := by
  cases e : d.seq with
  | none =>
    rw [term_none e]
    exact .other (h.ok f) (kind_seq e)
  | some xs =>
    obtain ⟨vs, sq, al⟩ := h.seq e
    have fx := fews_seq f e
    have hl := al.len
    by_cases l2 : xs.length = 2
    · obtain ⟨x, y, rfl⟩ : ∃ x y, xs = [x, y] := by
        rcases xs with _ | ⟨a, _ | ⟨b, _ | ⟨c, r⟩⟩⟩
        · cases l2
        · cases l2
        · exact ⟨_, _, rfl⟩
        · simp at l2
      obtain ⟨vx, vy, rfl, hx, hy⟩ := al.two
      obtain ⟨f1, f2⟩ := fews_two fx
      rw [term_two e]
      cases ew : x.within with
      | false => exact .factor sq (hx.ok f1) (by rw [hx.within, ew])
      | true =>
        have w : withinB (-999999) 999999 vx = true := by rw [hx.within, ew]
        rw [Bool.true_and]
        cases es : y.seq with
        | none =>
          rw [inner_none es]
          exact .parts sq (hx.ok f1) w (hy.ok f2) (kind_seq es)
        | some zs =>
          obtain ⟨ws, sq2, al2⟩ := hy.seq es
          rw [inner_some es]
          by_cases l3 : zs.length ≤ 3
          · rw [decide_eq_true l3, Bool.true_and, ← al2.names]
            exact .names sq (hx.ok f1) w sq2 (by rw [al2.len]; exact l3) (al2.oks (fews_seq f2 es))
          · rw [decide_eq_false l3, Bool.false_and]
            exact .long sq (hx.ok f1) w sq2 (by rw [al2.len]; omega)
    · rw [term_other e l2]
      exact .size sq (by rw [hl]; exact l2)
theorem IsAll.get {K : PySem.W.Frag} {H0 H : Hp} : ∀ {ds : List Lit} {vs : List V}, IsAll K H0 H vs ds → ∀ v ∈ vs, ∃ d ∈ ds, Is K H0 H v d
  | [], _, .nil, v, hv => nomatch hv
  | d :: ds, _, .cons a r, v, hv => by
    rcases List.mem_cons.mp hv with e | hv
    · exact ⟨d, List.mem_cons_self .., by rw [e]; exact a⟩
    · obtain ⟨x, hx, q⟩ := r.get v hv
      exact ⟨x, List.mem_cons_of_mem _ hx, q⟩
/-- none of them is a term -/
theorem IsAll.none {K : PySem.W.Frag} {H0 H : Hp} {ds : List Lit} {vs : List V} (h : IsAll K H0 H vs ds) (f : Lit.fews ds = true) (n : ds.all (fun d => !d.term) = true) : ∀ v ∈ vs, ArgT K H v false := by
  have key : ∀ {ds : List Lit} {d : Lit}, Lit.fews ds = true → d ∈ ds → d.few = true := by
    intro ds
    induction ds with
    | nil => intro d _ h; cases h
    | cons x r ih =>
      intro d f hd
      have f : (Lit.few x && Lit.fews r) = true := f
      rw [Bool.and_eq_true] at f
      rcases List.mem_cons.mp hd with e | hd
      · rw [e]
        exact f.1
      · exact ih f.2 hd
  intro v hv
  obtain ⟨d, hd, q⟩ := h.get v hv
  have z := q.arg (key f hd)
  have e : d.term = false := by
    have := List.all_eq_true.mp n d hd
    simpa using this
  rw [e] at z
  exact z
end LC
/-! LcTab: heaps with tables of code objects, which lambdas write. -/
namespace LC
open PySem PySem.Spec PyProof.Rows L2 LamX
/-- all but p and the tables are kept -/
def ButT (p : Addr) (H H' : Hp) : Prop := ∀ b o, b ≠ p → H b = some o → (∀ ps, o ≠ .tbl ps) → H' b = some o
theorem But.t {p : Addr} {H H' : Hp} (k : But p H H') : ButT p H H' := fun b o n e _ => k b o n e
theorem ButT.of {p : Addr} {H H' : Hp} (s : Same H H') : ButT p H H' := fun b o _ e _ => s b o e
theorem ButT.ext {p : Addr} {H H' : Hp} (s : ExtN H H') : ButT p H H' := fun b o _ e n => s b o e n
theorem ButT.trans {p : Addr} {H H1 H2 : Hp} (a : ButT p H H1) (b : ButT p H1 H2) : ButT p H H2 := fun c o n e t => b c o n (a c o n e t) t
theorem ButT.refl {p : Addr} {H : Hp} : ButT p H H := fun _ _ _ e _ => e
theorem ButT.lst {p a : Addr} {H H' : Hp} {xs : List V} (k : ButT p H H') (n : a ≠ p) (h : H a = some (.lst xs)) : H' a = some (.lst xs) := k _ _ n h fun _ z => nomatch z
theorem ButT.sqtN {K : PySem.W.Frag} {p a : Addr} {H H' : Hp} {xs : List V} {u : HO} (e : ButT p H H') (hp : H p = some u) (nt : NT u) (h : SqT K H a xs) : SqT K H' a xs := by
  rcases h with (h | ⟨o, h⟩) | h
  · exact .inl (.inl (e _ _ (ne_of h hp (fun z => by rw [← z] at nt; exact nt)) h fun _ z => nomatch z))
  · exact .inl (.inr ⟨o, e _ _ (ne_of h hp (fun z => by rw [← z] at nt; exact nt)) h fun _ z => nomatch z⟩)
  · exact .inr h
theorem ButT.sqlN {K : PySem.W.Frag} {p a : Addr} {H H' : Hp} {xs : List V} (e : ButT p H H') (n : a ≠ p) (h : SqL K H a xs) : SqL K H' a xs := by
  rcases h with (h | ⟨o, h⟩) | h
  · exact .inl (.inl (e _ _ n h fun _ z => nomatch z))
  · exact .inl (.inr ⟨o, e _ _ n h fun _ z => nomatch z⟩)
  · exact .inr h
theorem TermV.butT {K : PySem.W.Frag} {H H' : Hp} {q : Addr} {xs : List V} {v : V} {t : Term} (h : TermV K H v t) (k : ButT q H H') (hq : H q = some (.lst xs)) : TermV K H' v t := by
  obtain ⟨a, b, e, h1, h2⟩ := h
  exact ⟨a, b, e, k.sqtN hq trivial h1, k.sqtN hq trivial h2⟩
theorem TermsV.butT {K : PySem.W.Frag} {H H' : Hp} {q : Addr} {xs : List V} : ∀ {vs : List V} {ts : List Term}, TermsV K H vs ts → ButT q H H' → H q = some (.lst xs) → TermsV K H' vs ts
  | _, _, .nil, _, _ => .nil
  | _, _, .cons a r, k, h => .cons (a.butT k h) (TermsV.butT r k h)
mutual
theorem Is.butT {K : PySem.W.Frag} {H0 H H' : Hp} {p : Addr} {u : HO} (k : ButT p H H') (hp : H p = some u) (nt : NT u) (n0 : H0 p ≠ none) : ∀ {d : Lit} {v : V}, Is K H0 H v d → Is K H0 H' v d
  | .non, _, .non => .non
  | .bl b, _, .bl _ => .bl b
  | .int i, _, .int _ => .int i
  | .str z, _, .str _ => .str z
  | .lst ds, _, .lst (a := a) n q r => .lst n (k.sqlN (fun e => n0 (by rw [← e]; exact n)) q) (IsAll.butT k hp nt n0 r)
  | .tup ds, _, .tup q r => .tup (k.sqtN hp nt q) (IsAll.butT k hp nt n0 r)
theorem IsAll.butT {K : PySem.W.Frag} {H0 H H' : Hp} {p : Addr} {u : HO} (k : ButT p H H') (hp : H p = some u) (nt : NT u) (n0 : H0 p ≠ none) : ∀ {ds : List Lit} {vs : List V}, IsAll K H0 H vs ds → IsAll K H0 H' vs ds
  | [], _, .nil => .nil
  | _ :: _, _, .cons a r => .cons (Is.butT k hp nt n0 a) (IsAll.butT k hp nt n0 r)
end
theorem Pen.ext {H H' : Hp} {p c : Addr} {n : Nat} (h : Pen H p c n) (s : ExtN H H') : Pen H' p c n := by
  obtain ⟨ns, i, g, h1, h2, h3, h4, h5⟩ := h.ex
  exact ⟨ns, i, g, s _ _ h1 (fun _ z => nomatch z), s _ _ h2 (fun _ z => nomatch z), h3, h4, h5⟩
theorem Tabs.but {T : List (Addr × Str)} {H H' : Hp} {p : Addr} {xs : List V} (t : Tabs T H) (k : But p H H') (hp : H p = some (.lst xs)) : Tabs T H' := fun q hq => by
  obtain ⟨ps, h1, h2, h3⟩ := t q hq
  refine ⟨ps, k _ _ (ne_of h1 hp (fun z => nomatch z)) h1, h2, fun pos cv hc => ?_⟩
  obtain ⟨c, e1, e2⟩ := h3 pos cv hc
  refine ⟨c, e1, k _ _ (ne_of e2 hp (fun z => ?_)) e2⟩
  unfold CodeO at z
  cases z
theorem Tabs.same {T : List (Addr × Str)} {H H' : Hp} (t : Tabs T H) (s : Same H H') : Tabs T H' := t.ext s
/-- a promise of a def whose code object is known -/
theorem g_ofC {P : Program} {w : World} {K : PySem.W.Frag} {mg : Str → Option Value} {base : Heap} {CX : CXT} {k : Nat} {f : Addr} {fd : FuncData} {x qual : Str} {params : Arguments} {body : List Stmt} {scope : Scope} {dvs : List V} {kws : List (Str × V)} {N ps : List Str} {sp : Sp} {cd : Value}
    (F : FunD K x qual params body scope dvs kws f fd) (hcode : fd.code = cd) (S : FnScope N ps scope) (ar : ∀ vs H Q E, sp vs H Q E → vs.length = ps.length)
    (hb : ∀ (A : Around) (out : List Env) (s : Shared) (H : Hp) (vs : List V) (Q : VK) (E : XK), A.guards = some [] → Room k (A.deeper (envOfC qual scope s.heap.objs.size f cd)) → sp vs H Q E →
      ∃ t, PSs (cxOf CX P w K mg base N qual scope f cd A out s H E) body t ∧ t { nx := fun _ H' => Q .non H', rt := Q } (start N vs) H) : GOk P w K mg base CX (k + 1) f fd ps sp := by
  refine g_ofE F S ar fun cdv A out s H vs Q E hc hg hr h => ?_
  rw [hcode] at hc
  subst hc
  exact hb A out s H vs Q E hg hr h
end LC
namespace LC
open PySem PySem.Spec PyProof.Rows L2
/-! ### data with dicts that can be shown -/
structure ShX (d : PyData) (dep wt : Nat) : Prop where
  sh : d.showable = true
  dp : d.depth ≤ dep
  lv : d.leavesShort 300 = true
  w : d.weight ≤ wt
structure ShXL (ds : List PyData) (dep wt : Nat) : Prop where
  sh : PyData.showableAll ds = true
  dp : PyData.depthAll ds ≤ dep
  lv : PyData.leavesShortAll 300 ds = true
  w : PyData.weightAll ds ≤ wt
theorem Shw.x {d : PyData} {a b : Nat} (h : Shw d a b) : ShX d a b := ⟨h.sh, h.dp, h.lv, h.w⟩
theorem ShX.mono {d : PyData} {a b c e : Nat} (h : ShX d a b) (h1 : a ≤ c) (h2 : b ≤ e) : ShX d c e := ⟨h.sh, Nat.le_trans h.dp h1, h.lv, Nat.le_trans h.w h2⟩
theorem ShXL.nil : ShXL [] 0 0 := ⟨rfl, Nat.le_refl _, rfl, Nat.le_refl _⟩
theorem ShXL.cons {d : PyData} {ds : List PyData} {a b c e : Nat} (h : ShX d a b) (r : ShXL ds c e) : ShXL (d :: ds) (max a c) (b + 1 + e) := by
  refine ⟨?_, ?_, ?_, ?_⟩
  · show (d.showable && PyData.showableAll ds) = true
    rw [h.sh, r.sh]
    rfl
  · show max d.depth (PyData.depthAll ds) ≤ _
    have := h.dp
    have := r.dp
    omega
  · show (d.leavesShort 300 && PyData.leavesShortAll 300 ds) = true
    rw [h.lv, r.lv]
    rfl
  · show d.weight + 1 + PyData.weightAll ds ≤ _
    have := h.w
    have := r.w
    omega
theorem ShXL.mono' {ds : List PyData} {a b c e : Nat} (h : ShXL ds a b) (h1 : a ≤ c) (h2 : b ≤ e) : ShXL ds c e := ⟨h.sh, Nat.le_trans h.dp h1, h.lv, Nat.le_trans h.w h2⟩
theorem ShX.lst {ds : List PyData} {a b : Nat} (h : ShXL ds a b) : ShX (.list ds) (a + 1) b := ⟨h.sh, Nat.succ_le_succ h.dp, h.lv, h.w⟩
theorem ShX.tup {ds : List PyData} {a b : Nat} (h : ShXL ds a b) : ShX (.tuple ds) (a + 1) b := ⟨h.sh, Nat.succ_le_succ h.dp, h.lv, h.w⟩
theorem ShX.len {d : PyData} {a b : Nat} (h : ShX d a b) (hb : b ≤ 50000) : d.shown.length ≤ sizeLine := by
  have z := PyData.shown_le 300 (by decide) d h.lv
  have c : (300 + 2) * d.weight ≤ 302 * 50000 := Nat.mul_le_mul (by decide) (Nat.le_trans h.w hb)
  rw [sizeLine_eq]
  omega
/-- a value of a plain kind with its data -/
structure ValD (K : PySem.W.Frag) (H : Hp) (v : V) (d : PyData) : Prop where
  x : DpX K H v d
  ok : ∃ m, ValOk K H v m
  sh : ShX d 2 300
/-- no integer -/
def NoInt (K : PySem.W.Frag) (H : Hp) (v : V) (d : PyData) : Prop := ValD K H v d ∧ intB v = false
/-- what is new since H is there still -/
def NewT (H H' H2 : Hp) : Prop := ∀ b o, H' b = some o → H b = none → (∀ ps, o ≠ .tbl ps) → H2 b = some o
theorem NewT.butT {p : Addr} {H H' H2 : Hp} (k : ButT p H' H2) {px : HO} (hp : H p = some px) : NewT H H' H2 := fun b o e n t => k b o (fun z => by rw [z, hp] at n; cases n) e t
def spNoInteger (K : PySem.W.Frag) : Sp := fun vs H Q _ => ∃ (p c : Addr) (n : Nat), vs = [.ref p] ∧ Pen H p c n ∧ n ≤ 90000 ∧ ∀ (v : V) (d : PyData) (H' : Hp), (∀ H2, NewT H H' H2 → NoInt K H2 v d) → But p H H' → Pen H' p c (n + 1) → Q v H'
theorem ButT.tupX {K : PySem.W.Frag} {p a : Addr} {H H' : Hp} {xs : List V} (e : ButT p H H') (n : a ≠ p) (h : H a = some (.tup xs)) : SqT K H' a xs := .of (e _ _ n h fun _ z => nomatch z)
theorem ButT.lstX {K : PySem.W.Frag} {p a : Addr} {H H' : Hp} {xs : List V} (e : ButT p H H') (n : a ≠ p) (h : H a = some (.lst xs)) : SqL K H' a xs := .of (e _ _ n h fun _ z => nomatch z)
theorem ButT.dctX {p a : Addr} {H H' : Hp} {xs : List (Key × V)} (e : ButT p H H') (n : a ≠ p) (h : H a = some (.dK xs)) : H' a = some (.dK xs) := e _ _ n h fun _ z => nomatch z
theorem valD_non {K : PySem.W.Frag} {H : Hp} : ValD K H .non .none := ⟨.non, ⟨"NoneType", by decide, .base .non, fun z e => nomatch e⟩, ⟨rfl, by decide, rfl, by decide⟩⟩
theorem valD_bl {K : PySem.W.Frag} {H : Hp} (b : Bool) : ValD K H (.bl b) (.bool b) := ⟨.bl b, ⟨"bool", by decide, .base (.bl b), fun z e => nomatch e⟩, ⟨rfl, by decide +revert, rfl, by decide +revert⟩⟩
theorem valD_str {K : PySem.W.Frag} {H : Hp} {z : Str} (h : Shw (.str z) 0 200) : ValD K H (.str z) (.str z) := ⟨.str z, ⟨"str", by decide, .base (.str z), fun y e => by
  cases e
  have := h.w
  exact Nat.le_trans this (by decide)⟩, h.x.mono (by decide) (by decide)⟩
theorem valD_tup {K : PySem.W.Frag} {H : Hp} {a : Addr} {xs : List V} {ds : List PyData} (h : SqT K H a xs) (r : DpXAll K H xs ds) (s : ShXL ds 1 300) : ValD K H (.ref a) (.tuple ds) := ⟨.tup h r, ⟨"tuple", by decide, sqt_ty h, fun z e => nomatch e⟩, ShX.tup s⟩
theorem valD_lst {K : PySem.W.Frag} {H : Hp} {a : Addr} {xs : List V} {ds : List PyData} (h : SqL K H a xs) (r : DpXAll K H xs ds) (s : ShXL ds 1 300) : ValD K H (.ref a) (.list ds) := ⟨.lst h r, ⟨"list", by decide, sql_ty h, fun z e => nomatch e⟩, ShX.lst s⟩
theorem valD_dct {K : PySem.W.Frag} {H : Hp} {a : Addr} {kvs : List (Key × V)} {ds : List (PyData × PyData)} (h : H a = some (.dK kvs)) (r : KvD kvs ds) (s : ShX (.dict ds) 2 300) : ValD K H (.ref a) (.dict ds) := ⟨.dct h r, ⟨"dict", by decide, .base (.dK h), fun z e => nomatch e⟩, s⟩
section
variable {P : Program} {w : World} {K : PySem.W.Frag} {mg : Str → Option Value} {base : Heap}
abbrev s_no_integer : Stmt := topS 36
theorem sc_no_integer : FnScope ["pen"] ["pen"] (defScope s_no_integer) := ⟨rfl, rfl, rfl, by decide +kernel, rfl, by decide +kernel, by decide +kernel⟩
theorem ok_no_integer {f : Addr} {fd : FuncData} (T : Txt mg) (F : FnP K "_law_no_integer" s_no_integer f fd) (c__law_pick : Cal P w K mg base CX0 2 "_law_pick" ["pen", "some"] spPick) : FnOk P w K mg base CX0 3 f fd ["pen"] (spNoInteger K) := by
  have sc := sc_no_integer
  refine F.ok sc (fun vs H Q E h => ?_) (fun cdv A outer s H vs Q E hr h => ?_)
  · obtain ⟨p, c, n, rfl, _⟩ := h
    rfl
  · obtain ⟨p, c, n, rfl, hP, hn, q⟩ := h
    refine ⟨_, PSs.nox (pss_one (ps_ret (pe_cal c__law_pick hr (by rfl) pass0 (pa_cons (pv 0) (pa_cons (pe_lst (pa_cons pe_non (pa_cons pe_bl (pa_cons pe_bl (pa_cons pe_str (pa_cons pe_str (pa_cons (pe_tup (pa_cons pe_int pa_nil)) (pa_cons (pe_tup pa_nil) (pa_cons (pe_lst (pa_cons pe_int pa_nil)) (pa_cons (pe_lst pa_nil) (pa_cons pe_dnewK (pa_cons (pe_disp (pps_cons pe_int pe_int pps_nil) rfl rfl (List.cons_ne_nil _ _) (Nat.le_of_ble_eq_true rfl)) pa_nil)))))))))))) pa_nil))))), ?_⟩
    refine ⟨.ref p, rfl, szn 1, fun a1 n1 => ?_⟩
    generalize hH1 : upd H a1 _ = H1
    obtain ⟨s1, e1⟩ := alloc_eq n1 hH1
    refine ⟨szn 0, fun a2 n2 => ?_⟩
    generalize hH2 : upd H1 a2 _ = H2
    obtain ⟨s2, e2⟩ := alloc_eq n2 hH2
    refine ⟨szn 1, fun a3 n3 => ?_⟩
    generalize hH3 : upd H2 a3 _ = H3
    obtain ⟨s3, e3⟩ := alloc_eq n3 hH3
    refine ⟨szn 0, fun a4 n4 => ?_⟩
    generalize hH4 : upd H3 a4 _ = H4
    obtain ⟨s4, e4⟩ := alloc_eq n4 hH4
    refine fun a5 n5 => ?_
    generalize hH5 : upd H4 a5 _ = H5
    obtain ⟨s5, e5⟩ := alloc_eq n5 hH5
    refine fun a6 n6 => ⟨upd_same, [(.inl 1, .int 2)], rfl, by decide, ?_⟩
    generalize hH6 : upd (upd H5 a6 _) a6 _ = H6
    have s6 : Same H5 H6 := fun b o e => by
      rw [← hH6, upd_ne (ne_of_none e n6), upd_ne (ne_of_none e n6)]
      exact e
    have e6 : H6 a6 = some (.dK [(.inl 1, .int 2)]) := by
      rw [← hH6]
      exact upd_same
    refine ⟨szn 11, fun l nl => ?_⟩
    generalize hH7 : upd H6 l _ = H7
    obtain ⟨s7, e7⟩ := alloc_eq nl hH7
    have t27 := ((((s3.trans s4).trans s5).trans s6).trans s7)
    have P1 := hP.same s1
    have P2 := P1.same s2
    have P3 := P2.same s3
    have P4 := P3.same s4
    have P5 := P4.same s5
    have P6 := P5.same s6
    have f1 := t27 _ _ (s2 _ _ e1)
    have f2 := t27 _ _ e2
    have f3 := s7 _ _ (s6 _ _ (s5 _ _ (s4 _ _ e3)))
    have f4 := s7 _ _ (s6 _ _ (s5 _ _ e4))
    have f5 := s7 _ _ (s6 _ _ e5)
    have f6 := s7 _ _ e6
    have b1 := hP.newP n1
    have b2 := P1.newP n2
    have b3 := P2.newP n3
    have b4 := P3.newP n4
    have b5 := P4.newP n5
    have b6 := P5.newP n6
    refine ⟨p, c, n, l, _, rfl, P6.same s7, by omega, e7, P6.newP nl, by show 0 < 11; decide, by show 11 ≤ 1000; decide, fun v H8 hv k8 P8 => ?_⟩
    have K8 : But p H H8 := (But.same ((s1.trans s2).trans t27)).trans k8
    have hv' : v ∈ ([.non, .bl true, .bl false, .str "3", .str "", .ref a1, .ref a2, .ref a3, .ref a4, .ref a5, .ref a6] : List V) := hv
    have g2 := s1.free n2
    have g3 := s1.free (s2.free n3)
    have g4 := s1.free (s2.free (s3.free n4))
    have g5 := s1.free (s2.free (s3.free (s4.free n5)))
    have g6 := s1.free (s2.free (s3.free (s4.free (s5.free n6))))
    have tu : ∀ {a : Addr} {xs : List V} {H2 : Hp}, NewT H H8 H2 → H a = none → a ≠ p → H7 a = some (.tup xs) → SqT K H2 a xs := fun k g b f => .of (k _ _ (k8 _ _ b f) g fun _ z => nomatch z)
    have ls : ∀ {a : Addr} {xs : List V} {H2 : Hp}, NewT H H8 H2 → H a = none → a ≠ p → H7 a = some (.lst xs) → SqL K H2 a xs := fun k g b f => .of (k _ _ (k8 _ _ b f) g fun _ z => nomatch z)
    have dc : ∀ {a : Addr} {xs : List (Key × V)} {H2 : Hp}, NewT H H8 H2 → H a = none → a ≠ p → H7 a = some (.dK xs) → H2 a = some (.dK xs) := fun k g b f => k _ _ (k8 _ _ b f) g fun _ z => nomatch z
    have i1 : ShX (.int 1) 0 251 := (Shw.int (by decide)).x
    have i2 : ShX (.int 2) 0 251 := (Shw.int (by decide)).x
    have fin : ∀ d, (∀ H2, NewT H H8 H2 → NoInt K H2 v d) → Q v H8 := fun d h => q v d H8 h K8 P8
    simp only [List.mem_cons, List.not_mem_nil, or_false] at hv'
    rcases hv' with rfl | rfl | rfl | rfl | rfl | rfl | rfl | rfl | rfl | rfl | rfl
    · exact fin .none fun H2 k => ⟨valD_non, rfl⟩
    · exact fin (.bool true) fun H2 k => ⟨valD_bl _, rfl⟩
    · exact fin (.bool false) fun H2 k => ⟨valD_bl _, rfl⟩
    · exact fin (.str "3") fun H2 k => ⟨valD_str ((Shw.str (by decide +kernel)).mono (by decide) (by decide +kernel)), rfl⟩
    · exact fin (.str "") fun H2 k => ⟨valD_str ((Shw.str (by decide +kernel)).mono (by decide) (by decide +kernel)), rfl⟩
    · exact fin (.tuple [.int 1]) fun H2 k => ⟨valD_tup (tu k n1 b1 f1) (.cons (.int 1) .nil) ((ShXL.cons i1 .nil).mono' (by decide) (by decide)), rfl⟩
    · exact fin (.tuple []) fun H2 k => ⟨valD_tup (tu k g2 b2 f2) .nil ⟨rfl, by decide, rfl, by decide⟩, rfl⟩
    · exact fin (.list [.int 2]) fun H2 k => ⟨valD_lst (ls k g3 b3 f3) (.cons (.int 2) .nil) ((ShXL.cons i2 .nil).mono' (by decide) (by decide)), rfl⟩
    · exact fin (.list []) fun H2 k => ⟨valD_lst (ls k g4 b4 f4) .nil ⟨rfl, by decide, rfl, by decide⟩, rfl⟩
    · exact fin (.dict []) fun H2 k => ⟨valD_dct (dc k g5 b5 f5) .nil ⟨rfl, by decide, rfl, by decide⟩, rfl⟩
    · exact fin (.dict [(.int 1, .int 2)]) fun H2 k => ⟨valD_dct (dc k g6 b6 f6) (.cons (k := .inl 1) rfl .nil) ⟨rfl, by decide, by decide +kernel, by decide +kernel⟩, rfl⟩
end
end LC
/-! LcAct: f(lambda: ..), where what f does behind an exception hangs on its own names (HandS.Lambda's pe_act, pe_lamcall wish it for every standing of these). -/
namespace LC
open PySem PySem.Spec PyProof.Rows L2 LamX
section
variable {X : Cx} {pins : List (Addr × Obj)} {σ : L2.St} {H : Hp} {s : Shared}
theorem act_at {CXg : CXT} {Eg : XK} {Ng : List Str} {qg : Str} {sg : Scope} {g f cc : Addr} {cdg pm ctv : Value} {params : Arguments} {body : Expr} {scope : Scope} {k i : Nat} {a : Str} {pn : List (Addr × Obj)} {xe : Value → Shared → Prop} {W : WX} {E : XK} {tb : TE} {p1 p2 : Pos} {σ0 : L2.St}
    (In : Inv X pins σ H s) (L : LamS X.env.scope scope) (at_ : s.heap.get? f = some (PySem.W.kla_obj "<lambda>" (X.env.qual ++ "<lambda>") params body scope (cloFrom X.env.cells scope.names []) pm cc ctv)) (nf : H f = none) (nfr : f ∉ frs X.stack)
    (binds : bindArgs (PySem.W.kla_fn "<lambda>" (X.env.qual ++ "<lambda>") params body scope (cloFrom X.env.cells scope.names []) pm (.ref cc) ctv) ⟨[], []⟩ = pure [])
    (tk : Takes ((cxOf CXg X.prog X.w X.K X.mg X.base Ng qg sg g cdg X.A X.stack s H Eg).tr pn xe) W) (hW : ∀ cls d H', E cls d H' → W cls d σ0 H') (hr : Room (k + 1) (X.A.deeper (envOfC qg sg s.heap.objs.size g cdg)))
    (does : ∀ (A : Around) (outer : List Env) (s : Shared) (H : Hp), Room k (A.deeper (lamEnv X scope s.heap.objs.size f cc)) → PE (lamCx X A outer s H E scope f cc) body tb)
    (hN : Ng[i]? = some a) (hv : Vis sg a) (hd : (a == ("__debug__" : Str)) = false := by decide) (hcd : (a == ("__classdict__" : Str)) = false := by decide) :
    PE ((cxOf CXg X.prog X.w X.K X.mg X.base Ng qg sg g cdg X.A X.stack s H Eg).tr pn xe) (.Call (.Name a p1) [] [] p2)
      (fun σZ HZ Q => σZ = σ0 ∧ σZ[i]? = some (some (.ref f)) ∧ HZ cc = some (CodeO cc (X.env.qual ++ "<lambda>")) ∧ tb σ HZ Q) := by
  constructor
  rintro pinsZ sZ σZ HZ Q InZ ⟨rfl, slot, code, told⟩
  refine wpAny_Call_Name_kw (thn ((pe_var (pos := p1) (i := i) hN hv hd hcd).run pinsZ sZ σZ HZ (fun v H1 => v = .ref f ∧ H1 = HZ) InZ ⟨.ref f, slot, rfl, rfl⟩) fun u s1 ⟨v, H1, In1, rel, ev, eH⟩ => ?_)
  subst ev eH
  obtain rfl : u = Value.ref f := rel
  have still := In1.base.keep f _ at_ nf nfr (fun z => nomatch (show f ∈ ([] : List Addr) from z))
  have unc : Un (frs X.stack) [] H H1 s.heap s1.heap := In1.base
  obtain ⟨⟨oc, vs, t, g1, g2, g3⟩, _, _⟩ := In1.hok cc _ code
  refine PySem.W.callWith_F0 ⟨_, _, _, _, still⟩ ?_
  have ran : codeAny (model X.prog X.w) (X.A.deeper (envOfC qg sg s.heap.objs.size g cdg)) (.call (.ref f) ⟨[], []⟩) (CR (L2.CX X.prog X.w) (envOfC qg sg s.heap.objs.size g cdg :: X.stack) X.prog X.w H1 s1 Q E) s1 := by
    refine PySem.W.kla_callFunE hr.depth still rfl L.co L.gen rfl ⟨cc, oc, vs, t, rfl, g1, g2, g3⟩ ?_
    rw [binds]
    refine wpAny_pure (wpAny_newFunctionEnv (fun y hy => (L.own y hy).2) (fun y hy => absurd hy (by simp)) (fun h₁ hns hsb => ⟨In1.nolimit.fresh _ hsb, ?_⟩) L.kind)
    have kept : ∀ b o, s1.heap.get? b = some o → h₁.get? b = some o := fun b o e => hsb.extBut b o (Nat.ne_of_lt (Heap.lt_size e)) (Heap.get?_push_of_some _ e)
    have InL : Inv (lamCx X (X.A.deeper (envOfC qg sg s.heap.objs.size g cdg)) (envOfC qg sg s.heap.objs.size g cdg :: X.stack) s1 H1 E scope f cc) [] σ H1 { s1 with heap := h₁, toks := s1.toks + ([] : List (Str × Value)).length } :=
      lam_start2 In L In1.env0 hr.hd unc hns kept
    show codeAny _ _ (.expr body (lamEnv X scope s1.heap.objs.size f cc)) _ _
    refine PySem.W.kla_codeExpr (wpAny_mono ((does _ _ s1 H1 (hr.deeper _)).run [] _ _ H1 Q InL told) (fun v s2 out => ?_) fun _ _ bad => bad)
    obtain ⟨y, H2, In2, rel2, q2⟩ := out
    exact ⟨y, H2, In2.os, In2.bare, In2.base, In2.hok, rel2, q2⟩
  refine wpAny_call (codeAny_mono ran fun r s2 out => ?_)
  cases r with
  | error e => exact tk e s2 (XE.of_call (X := (cxOf CXg X.prog X.w X.K X.mg X.base Ng qg sg g cdg X.A X.stack s H Eg).tr pn xe) In1 hW out)
  | ok fl =>
    cases fl with
    | ret u => exact In1.after out
    | next => exact False.elim out
    | brk => exact False.elim out
    | cont => exact False.elim out
end
/-- the def that calls what it got, and looks at its own names behind an exception -/
def GivesAt (X : Cx) (Ng : List Str) (x : Str) (sg : Scope) (g : Addr) (cdg : Value) (bg : List Stmt) (a : Str) (q : Str) (TT : (XK → Hp → VK → Prop) → Hp → VK → Prop) : Prop :=
  ∀ (f cc : Addr) (s : Shared) (H : Hp) (Q : VK) (tl : XK → Hp → VK → Prop),
    (∀ (W : WX) (pn : List (Addr × Obj)) (xe : Value → Shared → Prop) (E : XK) (p1 p2 : Pos) (σ0 : L2.St), Takes ((cxOf C8.CX0 X.prog X.w X.K X.mg X.base Ng x sg g cdg X.A X.stack s H C8.E0).tr pn xe) W → (∀ cls d H', E cls d H' → W cls d σ0 H') →
      PE ((cxOf C8.CX0 X.prog X.w X.K X.mg X.base Ng x sg g cdg X.A X.stack s H C8.E0).tr pn xe) (.Call (.Name a p1) [] [] p2) (fun σZ HZ Q => σZ = σ0 ∧ σZ[0]? = some (some (.ref f)) ∧ HZ cc = some (CodeO cc q) ∧ tl E HZ Q)) →
    H cc = some (CodeO cc q) → TT tl H Q →
    ∃ t, PSs (cxOf C8.CX0 X.prog X.w X.K X.mg X.base Ng x sg g cdg X.A X.stack s H C8.E0).nox bg t ∧ t { nx := fun _ H' => Q .non H', rt := Q } (L2.start Ng [.ref f]) H
theorem pe_lamcallAt {X : Cx} {T : List (Addr × Str)} {TT : (XK → Hp → VK → Prop) → Hp → VK → Prop} {x a : Str} {g c P : Addr} {k : Nat} {pg : Arguments} {bg : List Stmt} {sg : Scope} {dV kV doc pm cdv ct oc : Value} {an od : Option Addr} {osl : Array (Option Value)} {Ng : List Str}
    {params : Arguments} {body : Expr} {scope : Scope} {t : XK → TE} {p lpos pos : Pos} (hg : Gl X x) (hm : X.mg x = some (.ref g)) (hk : PySem.W.keepIn X.K (.ref g) = true)
    (lk : X.K.lookup g = some ⟨oc, od, .func (PySem.W.fnOf x x pg bg sg dV kV doc pm an cdv ct), osl⟩) (hcg : PySem.W.codeIn X.K cdv x = true) (hb : L2.Binds X.K (PySem.W.fnOf x x pg bg sg dV kV doc pm an cdv ct) [a] []) (Sg : FnScope Ng [a] sg) (hNg : Ng[0]? = some a) (hva : Vis sg a)
    (hG : GivesAt X Ng x sg g cdv bg a (X.env.qual ++ "<lambda>") TT)
    (TB : TabB X.base X.mg c P) (hcode : X.env.code = .ref c) (hmT : (P, X.env.qual ++ "<lambda>") ∈ T) (hu : ∀ p ∈ T, p.1 = P → p.2 = X.env.qual ++ "<lambda>") (hr : Room (k + 2) X.A) (L : LamS X.env.scope scope) (hdef : defaultsOf params X.env = ([], []))
    (hbind : ∀ (q : Str) (cl : List (Str × Addr)) (pm cv ctv : Value), bindArgs (PySem.W.kla_fn "<lambda>" q params body scope cl pm cv ctv) ⟨[], []⟩ = pure [])
    (hbody : ∀ (A : Around) (outer : List Env) (s : Shared) (H : Hp) (E : XK) (f cc : Addr), Room k (A.deeper (lamEnv X scope s.heap.objs.size f cc)) → PE (lamCx X A outer s H E scope f cc) body (t E))
    (hdb : (x == ("__debug__" : Str)) = false := by decide) (hd : (a == ("__debug__" : Str)) = false := by decide) (hcd : (a == ("__classdict__" : Str)) = false := by decide) :
    PE X (.Call (.Name x p) [.Lambda params body scope lpos] [] pos) (tLam T TT t) := by
  constructor
  rintro pins s σ H Q In ⟨hT, want⟩
  refine wpAny_Call_Name_kw (ld_glob In hg hm (PySem.W.callWith_K (h₀ := X.base) In.ok.mod.kin hk ?_ (by rfl) (by rfl)) hdb)
  show wpAny _ _ (spliced ((false, eval (.Lambda params body scope lpos) X.env) :: backTo pos (starEach [] X.env))) _ _ s
  refine Calls.spliced_cons (lam_make2 In TB hcode hmT hu hT hdef (L.has In.ok) fun f cc pm' ctv H1 s1 In1 eN T1 at1 nf nfr code => Calls.spliced_nil ⟨In1.kIn, ?_⟩)
  have ran : codeAny (model X.prog X.w) X.A (.call (.ref g) ⟨[.ref f], []⟩) (CR C8.CX0 X.stack X.prog X.w H1 s1 Q C8.E0) s1 := by
    refine run_ofS (N := Ng) (ps := [a]) (us := [.ref f]) (vs := [.ref f]) lk hcg Sg hr In1.env0 (hb s1 [.ref f] In1.kIn rfl) (.cons rfl .nil) rfl fun room => ?_
    obtain ⟨t1, ht1, q1⟩ := hG f cc s1 H1 Q (fun E H' Q' => t E σ H' Q') (fun W pn xe E p1 p2 σ0 tk hW => act_at (i := 0) In1 L at1 nf nfr (hbind _ _ _ _ _) tk hW room (fun A outer s H room2 => hbody A outer s H E f cc room2) hNg hva hd hcd) code (want H1 eN T1)
    exact ⟨t1, ht1.nox, q1⟩
  refine wpAny_call (codeAny_mono ran fun r s2 out => ?_)
  cases r with
  | error e => exact (show False from out).elim
  | ok fl =>
    cases fl with
    | ret u => exact In1.after out
    | next => exact False.elim out
    | brk => exact False.elim out
    | cont => exact False.elim out
end LC
namespace LC
open PySem PySem.Spec PyProof.Rows L2 LamX
theorem pe_gcls {X : Cx} {x : Str} {pos : Pos} {C : Addr} (h : X.mg x = some (.ref C)) (hg : Gl X x := by rfl) (hd : (x == ("__debug__" : Str)) = false := by decide) : PE X (.Name x pos) (tC (.ref C)) := pe_glob hg h (show RelV (.ref C) (.ref C) from rfl) hd
/-- an exception of one of the two classes, with its field -/
def BadH (CB CM : Addr) (word : Str) (v : V) (cls : Value) (d : Option Addr) (H : Hp) : Prop := ∃ dd : Addr, d = some dd ∧ ((cls = .ref CB ∧ word = "number" ∧ H dd = some (.xd [("value", v)])) ∨ (cls = .ref CM ∧ word = "many" ∧ H dd = some (.xd [("most", v)])))
/-- what the head says of the exception classes that are heard of -/
structure HeardF (K : PySem.W.Frag) (mg : Str → Option Value) (CL CB CM C1 C2 C3 C4 C5 : Addr) : Prop where
  n_ValueError : mg "ValueError" = none
  g_LeastError : mg "LeastError" = some (.ref CL)
  g_BadNumber : mg "BadNumber" = some (.ref CB)
  g_TooMany : mg "TooMany" = some (.ref CM)
  g_BadCode : mg "BadCode" = some (.ref C1)
  g_BadInput : mg "BadInput" = some (.ref C2)
  g_BadPrice : mg "BadPrice" = some (.ref C3)
  g_BadSlots : mg "BadSlots" = some (.ref C4)
  g_BadWork : mg "BadWork" = some (.ref C5)
  hB : HeldC K CB
  hM : HeldC K CM
  eB : PySem.W.exmOne K (.ref CB) (.ref CL) = some true
  eM : PySem.W.exmOne K (.ref CM) (.ref CL) = some true
  aB : PySem.W.kitAny K (.ref CB) [.ref C1, .ref C2, .ref C3, .ref C4, .ref C5] = some false
  aM : PySem.W.kitAny K (.ref CM) [.ref C1, .ref C2, .ref C3, .ref C4, .ref C5] = some false
  vB : PySem.W.kitOne K (.ref CB) (.type "ValueError") = some true
  vM : PySem.W.kitOne K (.ref CM) (.type "ValueError") = some true
  kBB : PySem.W.kitOne K (.ref CB) (.ref CB) = some true
  kBM : PySem.W.kitOne K (.ref CB) (.ref CM) = some false
  kMB : PySem.W.kitOne K (.ref CM) (.ref CB) = some false
  kMM : PySem.W.kitOne K (.ref CM) (.ref CM) = some true
  nB : PySem.W.findIn K (.ref CB) "value" = some none
  nM : PySem.W.findIn K (.ref CM) "most" = some none
/-- what is heard: an exception's word and field, a value in a list -/
def Eh (CB CM : Addr) (Q : VK) : XK := fun cls d H' => ∃ (word : Str) (v : V), BadH CB CM word v cls d H' ∧ ∀ (t : Addr) (H2 : Hp), Same H' H2 → H2 t = some (.tup [.str word, v]) → Q (.ref t) H2
def Qh (Q : VK) : VK := fun v H' => ∀ (l : Addr) (H2 : Hp), Same H' H2 → H2 l = some (.lst [v]) → Q (.ref l) H2
def TTh (CB CM : Addr) : (XK → Hp → VK → Prop) → Hp → VK → Prop := fun tl H Q => ∀ (H0 : Hp) (E' : XK) (Q' : VK), Same H H0 → (∀ cls d H', Eh CB CM Q cls d H' → E' cls d H') → (∀ v H', Qh Q v H' → Q' v H') → tl E' H0 Q'
abbrev s_heard : Stmt := topS 35
theorem sc_heard : FnScope ["ask", "caught", "found", "error"] ["ask"] (defScope s_heard) := ⟨rfl, rfl, rfl, by decide +kernel, rfl, by decide +kernel, by decide +kernel⟩
theorem heard_gives {X : Cx} {CL CB CM C1 C2 C3 C4 C5 g : Addr} {cdg : Value} {q : Str} (T : Txt X.mg) (F : HeardF X.K X.mg CL CB CM C1 C2 C3 C4 C5) : GivesAt X ["ask", "caught", "found", "error"] "_law_heard" (defScope s_heard) g cdg (defBody s_heard) "ask" q (TTh CB CM) := by
  have sc := sc_heard
  intro f cc s H Q tl act code want
  refine ⟨_, PSs.nox (pss_cons (ps_asg (pe_tup (pa_cons pe_non (pa_cons pe_non pa_nil))) (pg_tup rfl (pgs_cons (pg_name (i := 1) sc.nd rfl (.inl rfl)) (pgs_cons (pg_name (i := 2) sc.nd rfl (.inl rfl)) pgs_nil))))
(pss_cons (ps_try_held (i := 3) (c := .ref CL) (tb := fun W D σ H => ∃ (Ech : XK), (∀ cls d H2, Ech cls d H2 → W cls d σ H2) ∧ σ[0]? = some (some (.ref f)) ∧ H cc = some (CodeO cc q) ∧ tl Ech H fun v H1 => D.nx (σ.set 2 (some v)) H1) rfl rfl rfl sc.nd rfl rfl ⟨rfl, by decide, .inl F.g_LeastError⟩ L2.takes0 (fun W pn xe tk _ => ?tryb) (fun a ob cls d pn _ _ => (pss_one (ps_set (i := 1) sc.nd rfl (.inl rfl) (pv 3)))))
(pss_cons (ps_if (pt_cmpR op_isN (pv 1) pe_non (nomark _))
  (pss_one (ps_ret (pe_lst (pa_cons (pv 2) pa_nil))))
  pss_nil)
(pss_cons (ps_if (PW.pt (pw_or (pt_val (pe_callB call_isiTH (by rfl) T.n_isinstance (by decide +kernel) (pa_cons (pv 1) (pa_cons (pe_tup (pa_cons (pe_gcls F.g_BadCode) (pa_cons (pe_gcls F.g_BadInput) (pa_cons (pe_gcls F.g_BadPrice) (pa_cons (pe_gcls F.g_BadSlots) (pa_cons (pe_gcls F.g_BadWork) pa_nil)))))) pa_nil)))) (pw_or1 (pt_not (pt_val (pe_callB call_isiH (by rfl) T.n_isinstance (by decide +kernel) (pa_cons (pv 1) (pa_cons (pe_bty "ValueError" F.n_ValueError (by decide +kernel)) pa_nil))))))))
  (pss_one (ps_ret (pe_tup (pa_cons pe_str (pa_cons pe_non pa_nil)))))
  pss_nil)
(pss_cons (ps_if (pt_val (pe_callB call_isiH (by rfl) T.n_isinstance (by decide +kernel) (pa_cons (pv 1) (pa_cons (pe_gcls F.g_BadNumber) pa_nil))))
  (pss_one (ps_ret (pe_ifExp (pt_val (pe_callB call_isiH (by rfl) T.n_isinstance (by decide +kernel) (pa_cons (pv 1) (pa_cons (pe_gcls F.g_TooMany) pa_nil)))) (pe_tup (pa_cons pe_str (pa_cons pe_non pa_nil))) (pe_tup (pa_cons pe_str (pa_cons (pe_heldF (pv 1)) pa_nil))))))
  pss_nil)
(pss_one (ps_ret (pe_ifExp (pt_val (pe_callB call_isiH (by rfl) T.n_isinstance (by decide +kernel) (pa_cons (pv 1) (pa_cons (pe_gcls F.g_TooMany) pa_nil)))) (pe_tup (pa_cons pe_str (pa_cons (pe_heldF (pv 1)) pa_nil))) (pe_tup (pa_cons pe_str (pa_cons pe_non pa_nil))))))))))), ?rest⟩
  case tryb =>
    constructor
    rintro pins s1 σ H1 D In ⟨Ech, hW, slot, code1, told⟩
    exact (pss_one (ps_set (i := 2) sc.nd rfl (.inl rfl) (act W pn xe Ech _ _ σ tk hW))).run pins s1 σ H1 D In ⟨rfl, slot, code1, told⟩
  case rest =>
    refine ⟨szn 2, fun tt ntt => ?_⟩
    generalize hH0 : upd H tt _ = H0
    obtain ⟨s0, e0⟩ := alloc_eq ntt hH0
    refine ⟨tt, _, rfl, .of e0, rfl, .non, [.non], rfl, .non, [], rfl, rfl, ?_⟩
    refine ⟨Eh CB CM Q, fun cls d H2 bad => ?_, rfl, s0 _ _ code, want H0 _ _ s0 (fun _ _ _ h => h) fun v H1 good => ?_⟩
    · obtain ⟨word, v, ⟨dd, rfl, kind⟩, said⟩ := bad
      have two : ∀ {K : PySem.W.Frag} {H3 : Hp} {a : Addr} {C : Addr} {fs : List (Str × V)}, H3 a = some (Held (.ref C) (some dd) a) → H3 dd = some (.xd fs) → HeldC K C → HeldV K H3 (.ref a) C fs := fun h1 h2 h3 => ⟨_, dd, rfl, h1, h2, h3⟩
      rcases kind with ⟨rfl, rfl, at_⟩ | ⟨rfl, rfl, at_⟩
      · refine ⟨true, F.eB, fun _ a na => ?_, fun z => nomatch z⟩
        refine ⟨.ref a, rfl, fun na2 => ?_⟩
        generalize hH3 : upd H2 a _ = H3
        obtain ⟨s3, e3⟩ := alloc_eq na2 hH3
        have hv := two e3 (s3 _ _ at_) F.hB
        refine ⟨.ref a, rfl, rfl, _, rfl, iteF ?_⟩
        refine ⟨.ref a, rfl, szn 5, fun ct nct => ?_⟩
        generalize hH4 : upd H3 ct _ = H4
        obtain ⟨s4, e4⟩ := alloc_eq nct hH4
        have hv4 := hv.same s4
        refine ⟨_, ct, _, CB, _, _, false, rfl, e4, .cons (.own _) (.cons (.own _) (.cons (.own _) (.cons (.own _) (.cons (.own _) .nil)))), hv4, F.aB, _, rfl, iteF ?_⟩
        refine ⟨.ref a, rfl, _, _, CB, _, _, true, rfl, .ty _, hv4, F.vB, _, rfl, iteF ?_⟩
        refine ⟨.ref a, rfl, _, _, CB, _, _, true, rfl, .own _, hv4, F.kBB, _, rfl, iteT ?_⟩
        refine ⟨.ref a, rfl, _, _, CB, _, _, false, rfl, .own _, hv4, F.kBM, _, rfl, iteF ?_⟩
        refine ⟨.ref a, rfl, CB, _, v, hv4, F.nB, rfl, szn 2, fun rt nrt => ?_⟩
        generalize hH5 : upd H4 rt _ = H5
        obtain ⟨s5, e5⟩ := alloc_eq nrt hH5
        exact said rt H5 ((s3.trans s4).trans s5) e5
      · refine ⟨true, F.eM, fun _ a na => ?_, fun z => nomatch z⟩
        refine ⟨.ref a, rfl, fun na2 => ?_⟩
        generalize hH3 : upd H2 a _ = H3
        obtain ⟨s3, e3⟩ := alloc_eq na2 hH3
        have hv := two e3 (s3 _ _ at_) F.hM
        refine ⟨.ref a, rfl, rfl, _, rfl, iteF ?_⟩
        refine ⟨.ref a, rfl, szn 5, fun ct nct => ?_⟩
        generalize hH4 : upd H3 ct _ = H4
        obtain ⟨s4, e4⟩ := alloc_eq nct hH4
        have hv4 := hv.same s4
        refine ⟨_, ct, _, CM, _, _, false, rfl, e4, .cons (.own _) (.cons (.own _) (.cons (.own _) (.cons (.own _) (.cons (.own _) .nil)))), hv4, F.aM, _, rfl, iteF ?_⟩
        refine ⟨.ref a, rfl, _, _, CM, _, _, true, rfl, .ty _, hv4, F.vM, _, rfl, iteF ?_⟩
        refine ⟨.ref a, rfl, _, _, CM, _, _, false, rfl, .own _, hv4, F.kMB, _, rfl, iteF ?_⟩
        refine ⟨.ref a, rfl, _, _, CM, _, _, true, rfl, .own _, hv4, F.kMM, _, rfl, iteT ?_⟩
        refine ⟨.ref a, rfl, CM, _, v, hv4, F.nM, rfl, szn 2, fun rt nrt => ?_⟩
        generalize hH5 : upd H4 rt _ = H5
        obtain ⟨s5, e5⟩ := alloc_eq nrt hH5
        exact said rt H5 ((s3.trans s4).trans s5) e5
    · refine ⟨.non, rfl, rfl, _, rfl, iteT ?_⟩
      refine ⟨v, rfl, szn 1, fun l nl => ?_⟩
      generalize hH3 : upd H1 l _ = H3
      obtain ⟨s3, e3⟩ := alloc_eq nl hH3
      exact good l H3 s3 e3
open TL LamX
/-- _law_heard, as it is called -/
structure HeardD (P : Program) (w : World) (K : PySem.W.Frag) (mg : Str → Option Value) (CB CM : Addr) : Prop where
  ex : ∃ (CL C1 C2 C3 C4 C5 g : Addr) (fd : FuncData), HeardF K mg CL CB CM C1 C2 C3 C4 C5 ∧ FnP K "_law_heard" s_heard g fd ∧ mg "_law_heard" = some (.ref g) ∧ Binds K fd ["ask"] []
/-- a def that makes lambdas: its code object, the table there -/
structure Mkr (K : PySem.W.Frag) (mg : Str → Option Value) (base : Heap) (T : List (Addr × Str)) (c P : Addr) (q : Str) : Prop where
  B : TabB base mg c P
  m : (P, q) ∈ T
  u : ∀ p ∈ T, p.1 = P → p.2 = q
theorem pe_heard {X : Cx} {Tb : List (Addr × Str)} {c Pt CB CM : Addr} {k : Nat} {params : Arguments} {body : Expr} {scope : Scope} {t : XK → TE} {p lpos pos : Pos} (T : Txt X.mg) (D : HeardD X.prog X.w X.K X.mg CB CM) (Mk : Mkr X.K X.mg X.base Tb c Pt (X.env.qual ++ "<lambda>")) (hg : Gl X "_law_heard")
    (hcode : X.env.code = .ref c) (hr : Room (k + 2) X.A) (L : LamS X.env.scope scope) (hdef : defaultsOf params X.env = ([], []))
    (hbind : ∀ (q : Str) (cl : List (Str × Addr)) (pm cv ctv : Value), bindArgs (PySem.W.kla_fn "<lambda>" q params body scope cl pm cv ctv) ⟨[], []⟩ = pure [])
    (hbody : ∀ (A : Around) (outer : List Env) (s : Shared) (H : Hp) (E : XK) (f cc : Addr), Room k (A.deeper (lamEnv X scope s.heap.objs.size f cc)) → PE (lamCx X A outer s H E scope f cc) body (t E)) :
    PE X (.Call (.Name "_law_heard" p) [.Lambda params body scope lpos] [] pos) (tLam Tb (TTh CB CM) t) := by
  obtain ⟨CL, C1, C2, C3, C4, C5, g, fd, HF, F, hm, hb⟩ := D.ex
  have kp := F.kp
  obtain ⟨oc, od, dV, kV, doc, pm, an, cdv, ct, osl, rfl, lk, hcd, hD, hK⟩ := F.ex
  exact pe_lamcallAt hg hm kp lk hcd hb sc_heard rfl (.inl rfl) (heard_gives T HF) Mk.B hcode Mk.m Mk.u hr L hdef hbind hbody
end LC
/-! LcHrd: what was heard, gathered in a list of pairs of a word and a value. -/
namespace LC
open PySem PySem.Spec PyProof.Rows L2 LamX
theorem none_back {H H' : Hp} {a : Addr} (s : Same H H') (n : H' a = none) : H a = none := s.free n
def Free (H : Hp) (a : Addr) : Prop := ∀ o, H a = some o → ∃ ps, o = .tbl ps
theorem Free.of {H : Hp} {a : Addr} (n : H a = none) : Free H a := fun o e => by rw [n] at e; cases e
theorem Free.back {p : Addr} {H H' : Hp} {a : Addr} (k : ButT p H H') (n : Free H' a) (ap : a ≠ p) : Free H a := fun o e => by
  by_cases t : ∃ ps, o = .tbl ps
  · exact t
  · exact n o (k _ _ ap e fun ps z => t ⟨ps, z⟩)
theorem ButT.put {p q : Addr} {H0 H H' : Hp} (a : ButT p H0 H) (n : Free H0 q) (b : But q H H') : ButT p H0 H' := fun c o nc e t => b c o (fun z => by rw [z] at e; obtain ⟨ps, e2⟩ := n o e; exact t ps e2) (a c o nc e t)
theorem put_but {H H' : Hp} {q : Addr} {o : HO} (e : upd H q o = H') : But q H H' ∧ H' q = some o := by
  rw [← e]
  exact ⟨.set, upd_same⟩
theorem paired_append {α β : Type} {F : α → β → Prop} : ∀ {a b : List α} {c d : List β}, Paired F a c → Paired F b d → Paired F (a ++ b) (c ++ d)
  | _, _, _, _, .nil, h => h
  | _, _, _, _, .cons x r, h => .cons x (paired_append r h)
abbrev WV := Str × V
def TwoV (K : PySem.W.Frag) (H : Hp) (t : V) (d : WV) : Prop := ∃ a, t = .ref a ∧ SqT K H a [.str d.1, d.2]
theorem TwoV.same {K : PySem.W.Frag} {H H' : Hp} {v : V} {d : WV} (h : TwoV K H v d) (s : Same H H') : TwoV K H' v d := by
  obtain ⟨a, e, q⟩ := h
  exact ⟨a, e, sqt_same s q⟩
theorem TwoV.butT {K : PySem.W.Frag} {p : Addr} {H H' : Hp} {v : V} {d : WV} {xs : List V} (h : TwoV K H v d) (k : ButT p H H') (hp : H p = some (.lst xs)) : TwoV K H' v d := by
  obtain ⟨a, e, q⟩ := h
  exact ⟨a, e, k.sqtN hp trivial q⟩
theorem twosV_butT {K : PySem.W.Frag} {p : Addr} {H H' : Hp} {xs : List V} (k : ButT p H H') (hp : H p = some (.lst xs)) : ∀ {vs : List V} {ds : List WV}, Paired (TwoV K H) vs ds → Paired (TwoV K H') vs ds
  | _, _, .nil => .nil
  | _, _, .cons a r => .cons (a.butT k hp) (twosV_butT k hp r)
theorem twosV_put {K : PySem.W.Frag} {q : Addr} {H H' : Hp} {xs : List V} (k : But q H H') (hq : H q = some (.lst xs)) : ∀ {vs : List V} {ds : List WV}, Paired (TwoV K H) vs ds → Paired (TwoV K H') vs ds
  | _, _, .nil => .nil
  | _, _, .cons ⟨a, e, q⟩ r => .cons ⟨a, e, k.sqt hq q⟩ (twosV_put k hq r)
/-- the list at hl holds these pairs; what H0 knew is there but for the pen and the tables -/
structure Hrd (K : PySem.W.Frag) (Tb : List (Addr × Str)) (p c hl : Addr) (m : Nat) (H0 H : Hp) (ds : List WV) : Prop where
  k : ButT p H0 H
  pen : Pen H p c m
  tabs : Tabs Tb H
  ex : ∃ ts, H hl = some (.lst ts) ∧ Paired (TwoV K H) ts ds
  n2 : hl ≠ p
  n4 : hl ≠ c
  n6 : Free H0 hl
section
variable {K : PySem.W.Frag} {Tb : List (Addr × Str)} {p c hl : Addr} {m : Nat} {H0 H H' : Hp} {ds : List WV}
theorem Hrd.butT (B : Hrd K Tb p c hl m H0 H ds) {m' : Nat} (k : ButT p H H') (pen : Pen H' p c m') (t : Tabs Tb H') : Hrd K Tb p c hl m' H0 H' ds := by
  obtain ⟨px, hp⟩ := B.pen.at_
  obtain ⟨vs, e, r⟩ := B.ex
  exact ⟨B.k.trans k, pen, t, ⟨vs, k.lst B.n2 e, twosV_butT k hp r⟩, B.n2, B.n4, B.n6⟩
theorem Hrd.ext (B : Hrd K Tb p c hl m H0 H ds) (e : ExtN H H') (t : Tabs Tb H') : Hrd K Tb p c hl m H0 H' ds := B.butT (ButT.ext e) (B.pen.ext e) t
theorem Hrd.same (B : Hrd K Tb p c hl m H0 H ds) (s : Same H H') : Hrd K Tb p c hl m H0 H' ds := B.ext (ExtN.of s) (Tabs.ext B.tabs s)
theorem Hrd.but (B : Hrd K Tb p c hl m H0 H ds) {m' : Nat} (k : But p H H') (pen : Pen H' p c m') : Hrd K Tb p c hl m' H0 H' ds := by
  obtain ⟨px, hp⟩ := B.pen.at_
  exact B.butT k.t pen (LC.Tabs.but B.tabs k hp)
theorem Hrd.add (B : Hrd K Tb p c hl m H0 H ds) {ts : List V} {t : V} {d : WV} (e : H hl = some (.lst ts)) (hv : TwoV K H t d) (hu : upd H hl (.lst (ts ++ [t])) = H') : Hrd K Tb p c hl m H0 H' (ds ++ [d]) := by
  obtain ⟨k, e'⟩ := put_but hu
  obtain ⟨xs, e1, r1⟩ := B.ex
  rw [e] at e1
  cases e1
  exact ⟨B.k.put B.n6 k, B.pen.but k B.n2 B.n4, LC.Tabs.but B.tabs k e, ⟨_, e', paired_append (twosV_put k e r1) (twosV_put k e (.cons hv .nil))⟩, B.n2, B.n4, B.n6⟩
end
/-- the data of such pairs -/
def wvD (w : Str) (d : PyData) : PyData := .tuple [.str w, d]
theorem TwoV.x {K : PySem.W.Frag} {H : Hp} {t : V} {w : Str} {v : V} {d : PyData} (h : TwoV K H t (w, v)) (x : DpX K H v d) : DpX K H t (wvD w d) := by
  obtain ⟨a, rfl, q⟩ := h
  exact .tup q (.cons (.str w) (.cons x .nil))
end LC
namespace LC
open PySem PySem.Spec PyProof.Rows L2 TL LamX
/-- what is heard of Row(..) that is refused -/
theorem heard_row {Tb : List (Addr × Str)} {C CB CM : Addr} {K : PySem.W.Frag} {σ : L2.St} {H : Hp} {Q : VK} {ta : TA} {v : V} (hT : Tabs Tb H)
    (ha : ∀ (H0 : Hp) (R : List V → Hp → Prop), ExtN H H0 → (∀ (a b c : V) (H2 : Hp), Same H0 H2 → RowArg K H2 a b c (.error v) → R [a, b, c] H2) → ta σ H0 R)
    (q : ∀ (t : Addr) (H2 : Hp), ExtN H H2 → Tabs Tb H2 → H2 t = some (.tup [.str "number", v]) → Q (.ref t) H2) : tLam Tb (TTh CB CM) (fun E => tMake C (spRowInit K C CB CM) [] E ta) σ H Q := by
  refine ⟨hT, fun H1 e1 T1 H0 E' Q' s0 hE hQ => ha H0 _ (e1.trans (ExtN.of s0)) fun a b c H2 s2 arg => ?_⟩
  refine mk_row (o := .error v) arg ?_
  exact fun cls d H3 s3 ⟨dd, e, ec, ed⟩ => hE cls d H3 ⟨"number", v, ⟨dd, e, .inl ⟨ec, rfl, ed⟩⟩, fun t H4 s4 e4 => q t H4 (e1.trans (ExtN.of (((s0.trans s2).trans s3).trans s4))) (Tabs.ext T1 (((s0.trans s2).trans s3).trans s4)) e4⟩
/-- .. that has too many numbers -/
theorem heard_many {Tb : List (Addr × Str)} {C CB CM : Addr} {K : PySem.W.Frag} {σ : L2.St} {H : Hp} {Q : VK} {ta : TA} {ns : List Int} {p : Nat} {st : Int} (hT : Tabs Tb H) (big : ∀ N d, Can (tellAt ns p st) N d → N + d ≤ ns.length → 2000 < N + d)
    (ha : ∀ (H0 : Hp) (R : List V → Hp → Prop), ExtN H H0 → (∀ (a b c : V) (H2 : Hp), Same H0 H2 → RowArg K H2 a b c (.ok (ns, p, st)) → R [a, b, c] H2) → ta σ H0 R)
    (q : ∀ (t : Addr) (H2 : Hp), ExtN H H2 → Tabs Tb H2 → H2 t = some (.tup [.str "many", .int 2000]) → Q (.ref t) H2) : tLam Tb (TTh CB CM) (fun E => tMake C (spRowInit K C CB CM) [] E ta) σ H Q := by
  refine ⟨hT, fun H1 e1 T1 H0 E' Q' s0 hE hQ => ha H0 _ (e1.trans (ExtN.of s0)) fun a b c H2 s2 arg => ?_⟩
  refine mk_row (o := .ok (ns, p, st)) arg fun N d cn le => ⟨fun z => absurd z (by have := big N d cn le; omega), fun _ => ?_⟩
  exact fun cls d H3 s3 ⟨dd, e, ec, ed⟩ => hE cls d H3 ⟨"many", .int 2000, ⟨dd, e, .inr ⟨ec, rfl, ed⟩⟩, fun t H4 s4 e4 => q t H4 (e1.trans (ExtN.of (((s0.trans s2).trans s3).trans s4))) (Tabs.ext T1 (((s0.trans s2).trans s3).trans s4)) e4⟩
/-- .. of row[v], v no number -/
theorem heard_get {Tb : List (Addr × Str)} {C CB CM : Addr} {K : PySem.W.Frag} {σ : L2.St} {H : Hp} {Q : VK} {i j : Nat} {x dx : Addr} {fs : List (Str × V)} {v : V} {a : Nat → Int} {N p : Nat} (hT : Tabs Tb H) (hx : σ[i]? = some (some (.ref x))) (hv : σ[j]? = some (some v))
    (hr : ∀ H0, ExtN H H0 → RowAt K C H0 x a N p ∧ H0 x = some (.ins C dx fs) ∧ ∃ m, ValOk K H0 v m) (fb : fromB 0 v = false)
    (q : ∀ (t : Addr) (H2 : Hp), ExtN H H2 → Tabs Tb H2 → H2 t = some (.tup [.str "number", v]) → Q (.ref t) H2) : tLam Tb (TTh CB CM) (fun E => tIxO C (spRowGet K C CB) E (tVar i) (tVar j)) σ H Q := by
  refine ⟨hT, fun H1 e1 T1 H0 E' Q' s0 hE hQ => ?_⟩
  obtain ⟨ra, hx0, m, okv⟩ := hr H0 (e1.trans (ExtN.of s0))
  refine ⟨.ref x, hx, v, hv, x, dx, fs, rfl, hx0, x, a, N, p, v, rfl, ra, .inr ⟨m, okv, fb, ?_⟩⟩
  exact fun cls d H3 s3 ⟨dd, e, ec, ed⟩ => hE cls d H3 ⟨"number", v, ⟨dd, e, .inl ⟨ec, rfl, ed⟩⟩, fun t H4 s4 e4 => q t H4 (e1.trans (ExtN.of ((s0.trans s3).trans s4))) (Tabs.ext T1 ((s0.trans s3).trans s4)) e4⟩
end LC
namespace LC
open PySem PySem.Spec PyProof.Rows L2 TL LamX
theorem first_non {u w : V} (hu : intB u = false) (hw : intB w = false) : ∀ {xs : List V}, (∀ x ∈ xs, (∃ k, x = .int k) ∨ x = u ∨ x = w) → w ∈ xs → ∃ (as : List Int) (f : V) (bs : List V), xs = as.map V.int ++ f :: bs ∧ (f = u ∨ f = w)
  | [], _, h => nomatch h
  | x :: r, al, h => by
    rcases al x (List.mem_cons_self ..) with ⟨k, rfl⟩ | e
    · have h2 : w ∈ r := by
        rcases List.mem_cons.mp h with e | h
        · rw [e] at hw
          cases hw
        · exact h
      obtain ⟨as, f, bs, e, hf⟩ := first_non hu hw (fun y hy => al y (List.mem_cons_of_mem _ hy)) h2
      exact ⟨k :: as, f, bs, by rw [e]; rfl, hf⟩
    · exact ⟨[], x, r, rfl, e⟩
theorem filter_first {as : List Int} {f : V} {bs : List V} (hf : intB f = false) : ∃ r, ((as.map V.int ++ f :: bs).filter fun v => !intB v) = f :: r := by
  induction as with
  | nil =>
    refine ⟨bs.filter fun v => !intB v, ?_⟩
    show List.filter (fun v => !intB v) (f :: bs) = _
    rw [List.filter_cons, hf]
    rfl
  | cons a as ih =>
    obtain ⟨r, e⟩ := ih
    exact ⟨r, e⟩
theorem RowAt.butT {K : PySem.W.Frag} {C x q : Addr} {H H' : Hp} {a : Nat → Int} {N p : Nat} {xs : List V} (h : RowAt K C H x a N p) (k : ButT q H H') (hq : H q = some (.lst xs)) : RowAt K C H' x a N p := by
  obtain ⟨c, f, dx, T, h1, h2⟩ := h
  exact ⟨c, f, dx, T, k _ _ (ne_of h1 hq (fun z => nomatch z)) h1 (fun _ z => nomatch z), k.sqtN hq trivial h2⟩
/-- so it stays, but for the pen and the tables -/
def Stb (p : Addr) (H : Hp) (Z : Hp → Prop) : Prop := ∀ H2, ButT p H H2 → Z H2
theorem Stb.next {p : Addr} {H H' : Hp} {Z : Hp → Prop} (h : Stb p H Z) (k : ButT p H H') : Stb p H' Z := fun H2 k2 => h H2 (k.trans k2)
theorem Stb.now {p : Addr} {H : Hp} {Z : Hp → Prop} (h : Stb p H Z) : Z H := h H ButT.refl
theorem valD_int {K : PySem.W.Frag} {H : Hp} {i : Int} (h : i.natAbs < 2 ^ 250) : ValD K H (.int i) (.int i) := ⟨.int i, ⟨"int", by decide, .base (.int _), fun z e => nomatch e⟩, (Shw.int h).x.mono (by decide) (by decide)⟩
/-- so it stays, but for two places and the tables -/
def But2 (p q : Addr) (H H' : Hp) : Prop := ∀ b o, b ≠ p → b ≠ q → H b = some o → (∀ ps, o ≠ .tbl ps) → H' b = some o
theorem But2.trans {p q : Addr} {H H1 H2 : Hp} (a : But2 p q H H1) (b : But2 p q H1 H2) : But2 p q H H2 := fun c o n m e t => b c o n m (a c o n m e t) t
theorem But2.of {p q : Addr} {H H' : Hp} (a : ButT p H H') : But2 p q H H' := fun c o n _ e t => a c o n e t
theorem But2.put {p q : Addr} {H H' : Hp} (a : But q H H') : But2 p q H H' := fun c o _ m e _ => a c o m e
/-- no row to read -/
structure NoRow (K : PySem.W.Frag) (H : Hp) (v : V) (d : PyData) : Prop where
  d : ValD K H v d
  r : ∀ y z, RowArg K H v y z (.error v)
/-- no period of a row of n items -/
structure NoSpan (K : PySem.W.Frag) (n : Nat) (H : Hp) (v : V) (d : PyData) : Prop where
  d : ValD K H v d
  w : ∃ m, ValOk K H v m ∧ withinB 1 (n : Int) v = false
/-- no place in a row -/
structure NoFrom (K : PySem.W.Frag) (H : Hp) (v : V) (d : PyData) : Prop where
  d : ValD K H v d
  w : fromB 0 v = false
/-- the data of a pair of these -/
def WX (K : PySem.W.Frag) (H : Hp) (d : WV) (x : PyData) : Prop := ∃ y, x = wvD d.1 y ∧ ValD K H d.2 y ∧ asciiB d.1 = true ∧ d.1.length ≤ 40
theorem twosX {K : PySem.W.Frag} {H : Hp} : ∀ {ts : List V} {ds : List WV} {xs : List PyData}, Paired (TwoV K H) ts ds → Paired (WX K H) ds xs → DpXAll K H ts xs
  | _, _, _, .nil, .nil => .nil
  | _, _, _, .cons a r, .cons ⟨y, e, v, _⟩ r2 => .cons (by rw [e]; exact a.x v.x) (twosX r r2)
theorem wx_sh {K : PySem.W.Frag} {H : Hp} : ∀ {ds : List WV} {xs : List PyData}, Paired (WX K H) ds xs → ShXL xs 3 (400 * xs.length)
  | _, _, .nil => ⟨rfl, Nat.zero_le _, rfl, Nat.zero_le _⟩
  | _, _ :: xs, .cons ⟨y, e, v, az, lz⟩ r => by
    rw [e]
    have s1 : ShX (.str _) 0 40 := (Shw.str az).x.mono (Nat.le_refl _) lz
    have one : ShX (wvD _ y) 3 399 := (ShX.tup (ShXL.cons s1 (ShXL.cons v.sh .nil))).mono (by decide) (by decide)
    refine (ShXL.cons one (wx_sh r)).mono' (by decide) ?_
    rw [List.length_cons]
    omega
def spRefused (Tb : List (Addr × Str)) : Sp := fun vs H Q _ => ∃ (p c : Addr) (n : Nat) (v : V) (ns : List Int) (span : Nat) (step : Int), vs = [.ref p, v] ∧ Pen H p c n ∧ n ≤ 80000 ∧ ToldV H p v ns span step ∧ ToldSm ns span step ∧ ns.length ≤ 24 ∧ Tabs Tb H ∧ ∀ H', ButT p H H' → Tabs Tb H' → Pen H' p c (n + 12) → Q (.bl true) H'
section
variable {P : Program} {w : World} {K : PySem.W.Frag} {mg : Str → Option Value} {base : Heap}
abbrev s_refused : Stmt := topS 37
theorem sc_refused : FnScope ["pen", "told", "some", "span", "step", "at", "more", "bent", "both", "first", "no_row", "no_span", "no_step", "heard", "due", "made", "odd", "value"] ["pen", "told"] (defScope s_refused) := ⟨rfl, rfl, rfl, by decide +kernel, rfl, by decide +kernel, by decide +kernel⟩
theorem ok_refused {f C CB CM cd Pt : Addr} {fd : FuncData} {Tb : List (Addr × Str)} (T : Txt mg) (SY : SysD K) (RK : RowKit P w K mg base C CB CM) (D : HeardD P w K mg CB CM) (F : FnP K "_law_refused" s_refused f fd) (hcd : fd.code = .ref cd) (Mk : Mkr K mg base Tb cd Pt "_law_refused.<locals>.<lambda>")
    (c__law_draw : Cal P w K mg base CX0 8 "_law_draw" ["pen", "many"] spDraw) (c__law_pick : Cal P w K mg base CX0 8 "_law_pick" ["pen", "some"] spPick) (c__law_no_integer : Cal P w K mg base CX0 8 "_law_no_integer" ["pen"] (spNoInteger K)) (c__law_row : Cal P w K mg base (L2.CX P w) 8 "_law_row" ["told", "is_list"] (spRow K C)) :
    GOk P w K mg base CX0 9 f fd ["pen", "told"] (spRefused Tb) := by
  have sc := sc_refused
  have S := RK.S
  obtain ⟨fG, fdG, OG, FG, BG⟩ := RK.get
  obtain ⟨fI, fdI, M, FI, BI, _⟩ := RK.mkr
  refine g_ofC F hcd sc (fun vs H Q E h => ?_) (fun A outer s H vs Q E hg hr h => ?_)
  · obtain ⟨p, c, n, v, ns, span, step, rfl, _⟩ := h
    rfl
  · obtain ⟨p, c, n, v, ns, span, step, rfl, hP, hn, hv, o, l24, hT, q⟩ := h
    refine ⟨_, PSs.nox (Evl.pss_cut (ps_asg (pv 1) (pg_lst rfl (pgs_cons (pg_name (i := 2) sc.nd rfl (.inr rfl)) (pgs_cons (pg_name (i := 3) sc.nd rfl (.inr rfl)) (pgs_cons (pg_name (i := 4) sc.nd rfl (.inr rfl)) pgs_nil)))))
(Evl.pss_cut (ps_par (i := 5) (j := 6) (by rfl) sc.nd rfl rfl (by decide) rfl rfl (pa_cons (pe_cal c__law_draw hr (by rfl) pass0 (pa_cons (pv 0) (pa_cons (pe_op op_add (pe_callB call_len (by rfl) T.n_len (by decide +kernel) (pa_cons (pv 2) pa_nil)) pe_int) pa_nil))) (pa_cons (pe_cal c__law_draw hr (by rfl) pass0 (pa_cons (pv 0) (pa_cons (pe_op op_add (pe_callB call_len (by rfl) T.n_len (by decide +kernel) (pa_cons (pv 2) pa_nil)) pe_int) pa_nil))) pa_nil)) (by rfl))
(Evl.pss_cut (ps_set (i := 7) sc.nd rfl (.inl rfl) (pe_op op_cat (pe_op op_cat (pe_slice sl_list (pv 2) po_none (po_some (pv 5))) (pe_lst (pa_cons (pe_cal c__law_no_integer hr (by rfl) pass0 (pa_cons (pv 0) pa_nil)) pa_nil))) (pe_slice sl_list (pv 2) (po_some (pv 5)) po_none)))
(Evl.pss_cut (ps_set (i := 8) sc.nd rfl (.inr rfl) (pe_op op_cat (pe_op op_cat (pe_slice sl_list (pv 7) po_none (po_some (pv 6))) (pe_lst (pa_cons (pe_cal c__law_no_integer hr (by rfl) pass0 (pa_cons (pv 0) pa_nil)) pa_nil))) (pe_slice sl_list (pv 7) (po_some (pv 6)) po_none)))
(Evl.pss_cut (ps_set (i := 9) sc.nd rfl (.inl rfl) (pe_ix ix_list (pe_lc (own := [("value", 17)]) (g := (gName 17)) (te := (tVar 17)) (tt := (tOr (tB (tCB (rIsi K) (tCons (tVar 17) (tCons (tC (.ty "bool")) tNil)))) (tNot (tB (tCB (rIsi K) (tCons (tVar 17) (tCons (tC (.ty "int")) tNil))))))) rfl sc.nd (pi_list (pv 8)) (blkOk_by (N := ["pen", "told", "some", "span", "step", "at", "more", "bent", "both", "first", "no_row", "no_span", "no_step", "heard", "due", "made", "odd", "value"]) (sc := defScope s_refused) (by decide +kernel)) (fun _ _ _ _ _ => by exact (pg_name (i := 17) sc.nd rfl (.inl rfl))) (fun _ _ _ _ _ => by exact (pts_one (PW.pt (pw_or (pt_val (pe_callB call_isi (by rfl) T.n_isinstance (by decide +kernel) (pa_cons (pv 17) (pa_cons (pe_bty "bool" T.n_bool (by decide +kernel)) pa_nil)))) (pw_or1 (pt_not (pt_val (pe_callB call_isi (by rfl) T.n_isinstance (by decide +kernel) (pa_cons (pv 17) (pa_cons (pe_bty "int" T.n_int (by decide +kernel)) pa_nil)))))))))) (fun _ _ _ _ _ => by exact (pv 17))) pe_int (fun _ _ => rfl)))
(Evl.pss_cut (ps_set (i := 10) sc.nd rfl (.inr rfl) (pe_cal c__law_pick hr (by rfl) pass0 (pa_cons (pv 0) (pa_cons (pe_lst (pa_cons pe_non (pa_cons pe_int (pa_cons pe_str (pa_cons (pe_tup pa_nil) (pa_cons (pe_lst pa_nil) (pa_cons pe_dnewK (pa_cons (pe_disp (pps_cons pe_int pe_int pps_nil) rfl rfl (List.cons_ne_nil _ _) (Nat.le_of_ble_eq_true rfl)) (pa_cons pe_bl (pa_cons pe_str pa_nil)))))))))) pa_nil))))
(Evl.pss_cut (ps_set (i := 11) sc.nd rfl (.inr rfl) (pe_cal c__law_pick hr (by rfl) pass0 (pa_cons (pv 0) (pa_cons (pe_lst (pa_cons pe_int (pa_cons (pe_un un_neg pe_int) (pa_cons (pe_op op_add (pe_callB call_len (by rfl) T.n_len (by decide +kernel) (pa_cons (pv 8) pa_nil)) pe_int) (pa_cons (pe_op op_pow pe_int pe_int) (pa_cons (pe_cal c__law_no_integer hr (by rfl) pass0 (pa_cons (pv 0) pa_nil)) (pa_cons (pe_cal c__law_no_integer hr (by rfl) pass0 (pa_cons (pv 0) pa_nil)) pa_nil))))))) pa_nil))))
(Evl.pss_cut (ps_set (i := 12) sc.nd rfl (.inr rfl) (pe_cal c__law_no_integer hr (by rfl) pass0 (pa_cons (pv 0) pa_nil)))
(Evl.pss_cut (ps_set (i := 13) sc.nd rfl (.inl rfl) (pe_lst (pa_cons (pe_heard (t := fun E => tMake C (spRowInit K C CB CM) [] E (tCons (tVar 10) (tCons (tVar 11) (tCons (tVar 12) tNil)))) T D Mk (by rfl) rfl hr (lamS_by (sc := defScope s_refused) (by decide +kernel)) rfl (fun _ _ _ _ _ => rfl) (fun _ _ _ _ _ _ _ hr2 => by exact (pe_make M FI (hr2.mono (by decide)) (by rfl) RK.S.g_Row BI .nil (passes_call (takes_of rfl rfl rfl rfl) fun _ _ _ _ h => h) (pa_cons (pv 10) (pa_cons (pv 11) (pa_cons (pv 12) pa_nil)))))) pa_nil)))
(Evl.pss_cut (ps_expr (pe_bm PySem.F.plainAttrs_list PySem.F.slot_list_append PySem.F.type_list_append mt_append (pv 13) (pa_cons (pe_heard (t := fun E => tMake C (spRowInit K C CB CM) [] E (tCons (tVar 8) (tCons (tVar 11) (tCons (tVar 12) tNil)))) T D Mk (by rfl) rfl hr (lamS_by (sc := defScope s_refused) (by decide +kernel)) rfl (fun _ _ _ _ _ => rfl) (fun _ _ _ _ _ _ _ hr2 => by exact (pe_make M FI (hr2.mono (by decide)) (by rfl) RK.S.g_Row BI .nil (passes_call (takes_of rfl rfl rfl rfl) fun _ _ _ _ h => h) (pa_cons (pv 8) (pa_cons (pv 11) (pa_cons (pv 12) pa_nil)))))) pa_nil)))
(Evl.pss_cut (ps_expr (pe_bm PySem.F.plainAttrs_list PySem.F.slot_list_append PySem.F.type_list_append mt_append (pv 13) (pa_cons (pe_heard (t := fun E => tMake C (spRowInit K C CB CM) [] E (tCons (tCB (fun xs H Q => ∃ p ys, xs = [.ref p] ∧ ((SqL K H p ys ∧ ∀ l, H l = none → Q (.ref l) (upd H l (.tup ys))) ∨ (SqT K H p ys ∧ Q (.ref p) H))) (tCons (tVar 8) tNil)) (tCons (tVar 3) (tCons (tVar 12) tNil)))) T D Mk (by rfl) rfl hr (lamS_by (sc := defScope s_refused) (by decide +kernel)) rfl (fun _ _ _ _ _ => rfl) (fun _ _ _ _ _ _ _ hr2 => by exact (pe_make M FI (hr2.mono (by decide)) (by rfl) RK.S.g_Row BI .nil (passes_call (takes_of rfl rfl rfl rfl) fun _ _ _ _ h => h) (pa_cons (pe_callTy call_tuple_of (by rfl) T.n_tuple (by decide +kernel) (pa_cons (pv 8) pa_nil)) (pa_cons (pv 3) (pa_cons (pv 12) pa_nil)))))) pa_nil)))
(Evl.pss_cut (ps_expr (pe_bm PySem.F.plainAttrs_list PySem.F.slot_list_append PySem.F.type_list_append mt_append (pv 13) (pa_cons (pe_heard (t := fun E => tMake C (spRowInit K C CB CM) [] E (tCons (tVar 8) (tCons (tVar 3) (tCons (tVar 4) tNil)))) T D Mk (by rfl) rfl hr (lamS_by (sc := defScope s_refused) (by decide +kernel)) rfl (fun _ _ _ _ _ => rfl) (fun _ _ _ _ _ _ _ hr2 => by exact (pe_make M FI (hr2.mono (by decide)) (by rfl) RK.S.g_Row BI .nil (passes_call (takes_of rfl rfl rfl rfl) fun _ _ _ _ h => h) (pa_cons (pv 8) (pa_cons (pv 3) (pa_cons (pv 4) pa_nil)))))) pa_nil)))
(Evl.pss_cut (ps_expr (pe_bm PySem.F.plainAttrs_list PySem.F.slot_list_append PySem.F.type_list_append mt_append (pv 13) (pa_cons (pe_heard (t := fun E => tMake C (spRowInit K C CB CM) [] E (tCons (tVar 2) (tCons (tOp (rI0 fun i j => .int (i + j)) (tCB (fun xs H Q => ∃ x n, xs = [x] ∧ LenV K x H n ∧ Q (.int n) H) (tCons (tVar 2) tNil)) (tC (.int 1))) (tCons (tVar 4) tNil)))) T D Mk (by rfl) rfl hr (lamS_by (sc := defScope s_refused) (by decide +kernel)) rfl (fun _ _ _ _ _ => rfl) (fun _ _ _ _ _ _ _ hr2 => by exact (pe_make M FI (hr2.mono (by decide)) (by rfl) RK.S.g_Row BI .nil (passes_call (takes_of rfl rfl rfl rfl) fun _ _ _ _ h => h) (pa_cons (pv 2) (pa_cons (pe_op op_add (pe_callB call_len (by rfl) T.n_len (by decide +kernel) (pa_cons (pv 2) pa_nil)) pe_int) (pa_cons (pv 4) pa_nil)))))) pa_nil)))
(Evl.pss_cut (ps_set (i := 14) sc.nd rfl (.inl rfl) (pe_lst (pa_cons (pe_tup (pa_cons pe_str (pa_cons (pv 10) pa_nil))) (pa_cons (pe_tup (pa_cons pe_str (pa_cons (pv 11) pa_nil))) (pa_cons (pe_tup (pa_cons pe_str (pa_cons (pv 12) pa_nil))) (pa_cons (pe_tup (pa_cons pe_str (pa_cons (pv 9) pa_nil))) (pa_cons (pe_tup (pa_cons pe_str (pa_cons (pe_op op_add (pe_callB call_len (by rfl) T.n_len (by decide +kernel) (pa_cons (pv 2) pa_nil)) pe_int) pa_nil))) pa_nil)))))))
(Evl.pss_cut (ps_asg (pe_tup (pa_cons (pe_cal c__law_row hr (by rfl) passL (pa_cons (pv 1) (pa_cons pe_bl pa_nil))) (pa_cons (pe_cal c__law_pick hr (by rfl) pass0 (pa_cons (pv 0) (pa_cons (pe_lst (pa_cons (pe_un un_neg pe_int) (pa_cons (pe_un un_neg pe_int) (pa_cons (pe_op op_sub pe_int (pe_op op_pow pe_int pe_int)) (pa_cons (pe_cal c__law_no_integer hr (by rfl) pass0 (pa_cons (pv 0) pa_nil)) (pa_cons (pe_cal c__law_no_integer hr (by rfl) pass0 (pa_cons (pv 0) pa_nil)) pa_nil)))))) pa_nil))) pa_nil))) (pg_tup rfl (pgs_cons (pg_name (i := 15) sc.nd rfl (.inr rfl)) (pgs_cons (pg_name (i := 16) sc.nd rfl (.inr rfl)) pgs_nil))))
(Evl.pss_cut (ps_expr (pe_bm PySem.F.plainAttrs_list PySem.F.slot_list_append PySem.F.type_list_append mt_append (pv 13) (pa_cons (pe_heard (t := fun E => tIxO C (spRowGet K C CB) E (tVar 15) (tVar 16)) T D Mk (by rfl) rfl hr (lamS_by (sc := defScope s_refused) (by decide +kernel)) rfl (fun _ _ _ _ _ => rfl) (fun _ _ _ _ _ _ _ hr2 => by exact (pe_ixO OG FG BG (hr2.mono (by decide)) (passes_call (takes_of rfl rfl rfl rfl) fun _ _ _ _ h => h) (pv 15) (pv 16)))) pa_nil)))
(pss_one (ps_ret (pe_cmpR op_eq (pe_callB (call_reprX SY hg hr.units) (by rfl) T.n_repr (by decide +kernel) (pa_cons (pv 13) pa_nil)) (pe_callB (call_reprX SY hg hr.units) (by rfl) T.n_repr (by decide +kernel) (pa_cons (pe_op op_cat (pv 14) (pe_lst (pa_cons (pe_tup (pa_cons pe_str (pa_cons (pv 16) pa_nil))) pa_nil))) pa_nil)) (nomark _)))))))))))))))))))), ?_⟩
    obtain ⟨tl0, l0, ev, tp, lp, ht0, hl0⟩ := id hv
    have ok := o.ok
    have few := o.few
    have s1 := o.s1
    have s2 := o.s2
    obtain ⟨px, hp0⟩ := hP.at_
    have ln : ((ns.map V.int).length : Int) = (ns.length : Int) := by rw [List.length_map]
    -- some, span, step
    refine ⟨fun σ' H' => H = H' ∧ σ' = [some (.ref p), some v, some (.ref l0), some (.int span), some (.int step), none, none, none, none, none, none, none, none, none, none, none, none, none], ?_, ?_⟩
    · exact ⟨v, rfl, tl0, _, ev, .of ht0, rfl, _, _, rfl, _, _, rfl, _, _, rfl, rfl, rfl, rfl⟩
    rintro σ' _ ⟨rfl, rfl⟩
    -- at, more
    refine ⟨fun σ' H' => ∃ i j : Nat, i ≤ ns.length ∧ j ≤ ns.length + 1 ∧ But p H H' ∧ Pen H' p c (n + 2) ∧ σ' = [some (.ref p), some v, some (.ref l0), some (.int span), some (.int step), some (.int i), some (.int j), none, none, none, none, none, none, none, none, none, none, none], ?_, ?_⟩
    · refine ⟨.ref p, rfl, .ref l0, rfl, .ref l0, _, rfl, .inl ⟨_, .of hl0, rfl⟩, _, _, rfl, rfl, p, c, n, _, rfl, hP, by omega, ?_, ?_, fun d1 H1 a0 a1 k1 P1 => ?_⟩
      · rw [ln]
        omega
      · rw [ln]
        exact small_pow (by omega) (by omega)
      rw [ln] at a1
      refine ⟨.ref p, rfl, .ref l0, rfl, .ref l0, _, rfl, .inl ⟨_, .of (k1 _ _ lp hl0), rfl⟩, _, _, rfl, rfl, p, c, n + 1, _, rfl, P1, by omega, ?_, ?_, fun d2 H2 b0 b1 k2 P2 => ?_⟩
      · rw [ln]
        omega
      · rw [ln]
        exact small_pow (by omega) (by omega)
      rw [ln] at b1
      obtain ⟨i, rfl⟩ : ∃ k : Nat, d1 = (k : Int) := ⟨d1.toNat, (Int.toNat_of_nonneg a0).symm⟩
      obtain ⟨j, rfl⟩ : ∃ k : Nat, d2 = (k : Int) := ⟨d2.toNat, (Int.toNat_of_nonneg b0).symm⟩
      exact ⟨_, _, rfl, i, j, by omega, by omega, k1.trans k2, P2, rfl⟩
    rintro σ' H2 ⟨i, j, hi, hj, k2, P2, rfl⟩
    have hl2 := k2 _ _ lp hl0
    -- bent
    refine ⟨fun σ' H' => ∃ (b : Addr) (u : V) (du : PyData), H' b = some (.lst ((ns.map V.int).take i ++ [u] ++ (ns.map V.int).drop i)) ∧ b ≠ p ∧ Stb p H' (fun h => NoInt K h u du) ∧ But p H H' ∧ Pen H' p c (n + 3) ∧ σ' = [some (.ref p), some v, some (.ref l0), some (.int span), some (.int step), some (.int i), some (.int j), some (.ref b), none, none, none, none, none, none, none, none, none, none], ?_, ?_⟩
    · refine ⟨.ref l0, rfl, .int i, rfl, i, rfl, l0, _, rfl, .of hl2, fun a1 n1 => ?_⟩
      rw [cut_to]
      generalize hB1 : upd H2 a1 _ = B1
      obtain ⟨t1, e1⟩ := alloc_eq n1 hB1
      have a1p := P2.newP n1
      obtain ⟨py1, hq1⟩ := (P2.same t1).at_
      refine ⟨.ref p, rfl, p, c, n + 2, rfl, P2.same t1, by omega, fun u du B2 stu kk PB => ⟨szn 1, fun a2 n2 => ?_⟩⟩
      generalize hB3 : upd B2 a2 _ = B3
      obtain ⟨t3, e3⟩ := alloc_eq n2 hB3
      refine ⟨a1, a2, _, _, rfl, rfl, t3 _ _ (kk _ _ a1p e1), e3, sz_le (by rw [List.length_take, List.length_map]; show _ + 1 ≤ 100000; omega), fun a3 n3 => ?_⟩
      generalize hB4 : upd B3 a3 _ = B4
      obtain ⟨t4, e4⟩ := alloc_eq n3 hB4
      have t24 := t3.trans t4
      have hl4 := t24 _ _ (kk _ _ lp (t1 _ _ hl2))
      refine ⟨.ref l0, rfl, .int i, rfl, i, rfl, l0, _, rfl, .of hl4, fun a4 n4 => ?_⟩
      rw [cut_from]
      generalize hB5 : upd B4 a4 _ = B5
      obtain ⟨t5, e5⟩ := alloc_eq n4 hB5
      refine ⟨a3, a4, _, _, rfl, rfl, t5 _ _ e4, e5, sz_le (by simp only [List.length_append, List.length_take, List.length_map, List.length_drop, List.length_cons, List.length_nil]; omega), fun a5 n5 => ?_⟩
      generalize hB6 : upd B5 a5 _ = B6
      obtain ⟨t6, e6⟩ := alloc_eq n5 hB6
      have t26 := (t24.trans t5).trans t6
      have PB6 := PB.same t26
      exact ⟨a5, u, du, e6, (PB.same (t24.trans t5)).newP n5, fun h k => stu h (NewT.butT ((ButT.of t26).trans k) hq1), ((k2.trans (.same t1)).trans kk).trans (.same t26), PB6, rfl⟩
    rintro σ' H3 ⟨b, u, du, eb, bp, stu, k3, P3, rfl⟩
    have lby : ((ns.map V.int).take i ++ [u] ++ (ns.map V.int).drop i).length = ns.length + 1 := by
      simp only [List.length_append, List.length_take, List.length_map, List.length_drop, List.length_cons, List.length_nil]
      omega
    have alu : ∀ x ∈ (ns.map V.int).take i ++ [u] ++ (ns.map V.int).drop i, (∃ k, x = V.int k) ∨ x = u := fun x hx => by
      rcases List.mem_append.mp hx with h | h
      · rcases List.mem_append.mp h with h | h
        · obtain ⟨k, _, e⟩ := List.mem_map.mp (List.mem_of_mem_take h)
          exact .inl ⟨k, e.symm⟩
        · exact .inr (List.mem_singleton.mp h)
      · obtain ⟨k, _, e⟩ := List.mem_map.mp (List.mem_of_mem_drop h)
        exact .inl ⟨k, e.symm⟩
    generalize hys : (ns.map V.int).take i ++ [u] ++ (ns.map V.int).drop i = ys at eb lby alu
    -- both
    refine ⟨fun σ' H' => ∃ (bo : Addr) (xs : List V) (as : List Int) (f : V) (bs : List V) (df : PyData), H' bo = some (.lst xs) ∧ bo ≠ p ∧ xs.length = ns.length + 2 ∧ xs = as.map V.int ++ f :: bs ∧ Stb p H' (fun h => NoInt K h f df ∧ ∀ x ∈ xs, ∃ m, ValOk K h x m) ∧ But p H H' ∧ Pen H' p c (n + 4) ∧ σ' = [some (.ref p), some v, some (.ref l0), some (.int span), some (.int step), some (.int i), some (.int j), some (.ref b), some (.ref bo), none, none, none, none, none, none, none, none, none], ?_, ?_⟩
    · refine ⟨.ref b, rfl, .int j, rfl, j, rfl, b, _, rfl, .of eb, fun a1 n1 => ?_⟩
      rw [cut_to]
      generalize hB1 : upd H3 a1 _ = B1
      obtain ⟨t1, e1⟩ := alloc_eq n1 hB1
      have a1p := P3.newP n1
      obtain ⟨py1, hq1⟩ := (P3.same t1).at_
      refine ⟨.ref p, rfl, p, c, n + 3, rfl, P3.same t1, by omega, fun w dw B2 stw kk PB => ⟨szn 1, fun a2 n2 => ?_⟩⟩
      generalize hB3 : upd B2 a2 _ = B3
      obtain ⟨t3, e3⟩ := alloc_eq n2 hB3
      refine ⟨a1, a2, _, _, rfl, rfl, t3 _ _ (kk _ _ a1p e1), e3, sz_le (by rw [List.length_take, lby]; show _ + 1 ≤ 100000; omega), fun a3 n3 => ?_⟩
      generalize hB4 : upd B3 a3 _ = B4
      obtain ⟨t4, e4⟩ := alloc_eq n3 hB4
      have t24 := t3.trans t4
      have eb4 := t24 _ _ (kk _ _ bp (t1 _ _ eb))
      refine ⟨.ref b, rfl, .int j, rfl, j, rfl, b, _, rfl, .of eb4, fun a4 n4 => ?_⟩
      rw [cut_from]
      generalize hB5 : upd B4 a4 _ = B5
      obtain ⟨t5, e5⟩ := alloc_eq n4 hB5
      refine ⟨a3, a4, _, _, rfl, rfl, t5 _ _ e4, e5, sz_le (by simp only [List.length_append, List.length_take, List.length_drop, List.length_cons, List.length_nil]; omega), fun a5 n5 => ?_⟩
      generalize hB6 : upd B5 a5 _ = B6
      obtain ⟨t6, e6⟩ := alloc_eq n5 hB6
      have t26 := (t24.trans t5).trans t6
      have k36 : But p H3 B6 := ((But.same t1).trans kk).trans (.same t26)
      have lx : (ys.take j ++ [w] ++ ys.drop j).length = ns.length + 2 := by
        simp only [List.length_append, List.length_take, List.length_drop, List.length_cons, List.length_nil]
        omega
      have alx : ∀ x ∈ ys.take j ++ [w] ++ ys.drop j, (∃ k, x = V.int k) ∨ x = u ∨ x = w := fun x hx => by
        have al2 : ∀ x ∈ ys, (∃ k, x = V.int k) ∨ x = u ∨ x = w := fun x hx => (alu x hx).imp id .inl
        rcases List.mem_append.mp hx with h | h
        · rcases List.mem_append.mp h with h | h
          · exact al2 x (List.mem_of_mem_take h)
          · exact .inr (.inr (List.mem_singleton.mp h))
        · exact al2 x (List.mem_of_mem_drop h)
      have st2u : Stb p B6 (fun h => NoInt K h u du) := stu.next k36.t
      have st2w : Stb p B6 (fun h => NoInt K h w dw) := fun h k => stw h (NewT.butT ((ButT.of t26).trans k) hq1)
      obtain ⟨as, f, bs, ex, hf⟩ := first_non st2u.now.2 st2w.now.2 alx (List.mem_append_left _ (List.mem_append_right _ (List.mem_singleton.mpr rfl)))
      have oks : Stb p B6 (fun h => ∀ x ∈ ys.take j ++ [w] ++ ys.drop j, ∃ m, ValOk K h x m) := fun h k x hx => by
        rcases alx x hx with ⟨z, rfl⟩ | rfl | rfl
        · exact ⟨"int", by decide, .base (.int _), fun z e => nomatch e⟩
        · exact (st2u h k).1.ok
        · exact (st2w h k).1.ok
      rcases hf with rfl | rfl
      · exact ⟨a5, _, as, f, bs, du, e6, (PB.same (t24.trans t5)).newP n5, lx, ex, fun h k => ⟨st2u h k, oks h k⟩, k3.trans k36, PB.same t26, rfl⟩
      · exact ⟨a5, _, as, f, bs, dw, e6, (PB.same (t24.trans t5)).newP n5, lx, ex, fun h k => ⟨st2w h k, oks h k⟩, k3.trans k36, PB.same t26, rfl⟩
    rintro σ' H4 ⟨bo, xs, as, f, bs, df, ebo, bop, lx, ex, st4, k4, P4, rfl⟩
    have nf := st4.now.1.2
    -- first
    refine ⟨fun σ' H' => Same H4 H' ∧ σ' = [some (.ref p), some v, some (.ref l0), some (.int span), some (.int step), some (.int i), some (.int j), some (.ref b), some (.ref bo), some f, none, none, none, none, none, none, none, none], ?_, ?_⟩
    · refine ⟨.ref bo, rfl, bo, rfl, ⟨_, .of ebo⟩, fun D nD => ?_⟩
      refine lc_list (K := K) (a := bo) (xs := xs) (fun k H' => Same H4 H' ∧ H' D = some (.lst ((xs.take k).filter fun v => !intB v))) ⟨same_new nD, upd_same⟩ (fun k H' _ h => .of (h.1 _ _ ebo)) ?_ ?_
      · rintro k y B1 hk ⟨t1, hD⟩
        obtain ⟨m, oky⟩ := (st4.now.2) y (List.mem_of_getElem? hk)
        have oky1 := oky.same t1
        have nx := take_next hk
        have kl := (List.getElem?_eq_some_iff.mp hk).1
        have isI : PySem.W.kitOne K (.type m) (.type "int") = some (m == "int" || m == "bool") := kit_k "int" (fun n => n == "int" || n == "bool") (by decide +kernel) oky.k
        have isB : PySem.W.kitOne K (.type m) (.type "bool") = some (m == "bool") := kit_k "bool" (fun n => n == "bool") (by decide +kernel) oky.k
        have eI := intB_ty oky.t
        have z : ∀ m ∈ kinds, (m == "bool") = true → (m == "int") = false := by decide +kernel
        have z2 : ∀ m ∈ kinds, (m == "bool") = false → (m == "int" || m == "bool") = (m == "int") := by decide +kernel
        have lf : ((xs.take k).filter fun v => !intB v).length ≤ 100 := Nat.le_trans (List.length_filter_le _ _) (by rw [List.length_take]; omega)
        have yes : intB y = false → ∃ acc, B1 D = some (.lst acc) ∧ acc.length < sizeLine ∧ Same H4 (upd B1 D (.lst (acc ++ [y]))) ∧ (upd B1 D (.lst (acc ++ [y]))) D = some (.lst ((xs.take (k + 1)).filter fun v => !intB v)) := fun e => by
          refine ⟨_, hD, sz_lt (by omega), fun b2 ob e2 => ?_, ?_⟩
          · rw [upd_ne (ne_of_none e2 nD)]
            exact t1 _ _ e2
          · rw [upd_same, nx, List.filter_append]
            simp [e]
        refine ⟨rfl, y, rfl, y, .ty "bool", .type m, .type "bool", _, rfl, .ty _, oky1.t, isB, _, rfl, ?_⟩
        cases hb : (m == "bool") with
        | true =>
          refine iteT ?_
          refine iteT ⟨y, rfl, ?_⟩
          exact yes (by rw [eI]; exact z m oky.k hb)
        | false =>
          refine iteF ?_
          refine ⟨y, rfl, y, .ty "int", .type m, .type "int", _, rfl, .ty _, oky1.t, isI, _, rfl, ?_⟩
          rw [z2 m oky.k hb, ← eI]
          cases hI : intB y with
          | true =>
            refine iteF ⟨t1, ?_⟩
            rw [nx, List.filter_append]
            simp [hI, hD]
          | false => exact iteT ⟨y, rfl, yes hI⟩
      · rintro B1 ⟨t1, hD⟩
        rw [List.take_length] at hD
        obtain ⟨r, er⟩ := filter_first (as := as) (bs := bs) nf
        rw [← ex] at er
        rw [er] at hD
        exact ⟨D, _, 0, f, rfl, rfl, .of hD, atI_nat (j := 0) rfl, t1, rfl⟩
    rintro σ' H5 ⟨t5, rfl⟩
    have bopH5 : H5 bo = some (.lst xs) := t5 _ _ ebo
    have ok5 : Stb p H5 (fun h => NoInt K h f df) := fun h k => (st4 h ((ButT.of t5).trans k)).1
    have k5 := k4.trans (.same t5)
    have P5 := P4.same t5
    clear stu eb lby alu hys
    -- no_row
    refine ⟨fun σ' H' => ∃ (nr : V) (dr : PyData), Stb p H' (fun h => NoRow K h nr dr) ∧ But p H5 H' ∧ Pen H' p c (n + 5) ∧ σ' = [some (.ref p), some v, some (.ref l0), some (.int span), some (.int step), some (.int i), some (.int j), some (.ref b), some (.ref bo), some f, some nr, none, none, none, none, none, none, none], ?_, ?_⟩
    · refine ⟨.ref p, rfl, szn 0, fun a1 n1 => ?_⟩
      generalize hH1 : upd H5 a1 _ = B1
      obtain ⟨s1', e1⟩ := alloc_eq n1 hH1
      refine ⟨szn 0, fun a2 n2 => ?_⟩
      generalize hH2 : upd B1 a2 _ = B2
      obtain ⟨s2', e2⟩ := alloc_eq n2 hH2
      refine fun a3 n3 => ?_
      generalize hH3 : upd B2 a3 _ = B3
      obtain ⟨s3, e3⟩ := alloc_eq n3 hH3
      refine fun a4 n4 => ⟨upd_same, [(.inl 0, .int 1)], rfl, by decide, ?_⟩
      generalize hH4 : upd (upd B3 a4 _) a4 _ = B4
      have s4 : Same B3 B4 := fun b o e => by
        rw [← hH4, upd_ne (ne_of_none e n4), upd_ne (ne_of_none e n4)]
        exact e
      have e4 : B4 a4 = some (.dK [(.inl 0, .int 1)]) := by
        rw [← hH4]
        exact upd_same
      refine ⟨szn 9, fun l nl => ?_⟩
      generalize hH5 : upd B4 l _ = B5
      obtain ⟨s5, e5⟩ := alloc_eq nl hH5
      have Q1 := P5.same s1'
      have Q2 := Q1.same s2'
      have Q3 := Q2.same s3
      have Q4 := Q3.same s4
      have f1 := s5 _ _ (s4 _ _ (s3 _ _ (s2' _ _ e1)))
      have f2 := s5 _ _ (s4 _ _ (s3 _ _ e2))
      have f3 := s5 _ _ (s4 _ _ e3)
      have f4 := s5 _ _ e4
      have b1 := P5.newP n1
      have b2 := Q1.newP n2
      have b3 := Q2.newP n3
      have b4 := Q3.newP n4
      refine ⟨p, c, n + 4, l, _, rfl, Q4.same s5, by omega, e5, Q4.newP nl, by show 0 < 9; decide, by show 9 ≤ 1000; decide, fun v B6 hv k6 P6 => ?_⟩
      have K6 : But p H5 B6 := (But.same ((((s1'.trans s2').trans s3).trans s4).trans s5)).trans k6
      have hv' : v ∈ ([.non, .int 5, .str "12", .ref a1, .ref a2, .ref a3, .ref a4, .bl true, .str ""] : List V) := hv
      simp only [List.mem_cons, List.not_mem_nil, or_false] at hv'
      have ot : ∀ {h : Hp} {v : V} {d : PyData} {m : String}, ValD K h v d → ValOk K h v m → (m == "tuple" || m == "list") = false → NoRow K h v d := fun a b e => ⟨a, fun y z => .other b e⟩
      rcases hv' with rfl | rfl | rfl | rfl | rfl | rfl | rfl | rfl | rfl
      · exact ⟨.non, .none, fun h k => ot valD_non ⟨by decide, .base .non, fun z e => nomatch e⟩ (m := "NoneType") (by decide), K6, P6, rfl⟩
      · exact ⟨.int 5, .int 5, fun h k => ot (valD_int (by decide)) ⟨by decide, .base (.int _), fun z e => nomatch e⟩ (m := "int") (by decide), K6, P6, rfl⟩
      · exact ⟨.str "12", .str "12", fun h k => ot (valD_str ((Shw.str (by decide +kernel)).mono (by decide) (by decide +kernel))) ⟨by decide, .base (.str _), fun z e => by cases e; decide +kernel⟩ (m := "str") (by decide), K6, P6, rfl⟩
      · exact ⟨.ref a1, .tuple [], fun h k => ⟨valD_tup ((k6.t.trans k).tupX b1 f1) .nil ⟨rfl, by decide, rfl, by decide⟩, fun y z => .empty ⟨a1, rfl, .inr ((k6.t.trans k).tupX b1 f1)⟩⟩, K6, P6, rfl⟩
      · exact ⟨.ref a2, .list [], fun h k => ⟨valD_lst ((k6.t.trans k).lstX b2 f2) .nil ⟨rfl, by decide, rfl, by decide⟩, fun y z => .empty ⟨a2, rfl, .inl ((k6.t.trans k).lstX b2 f2)⟩⟩, K6, P6, rfl⟩
      · exact ⟨.ref a3, .dict [], fun h k => ot (valD_dct ((k6.t.trans k).dctX b3 f3) .nil ⟨rfl, by decide, rfl, by decide⟩) ⟨by decide, .base (.dK ((k6.t.trans k).dctX b3 f3)), fun z e => nomatch e⟩ (m := "dict") (by decide), K6, P6, rfl⟩
      · exact ⟨.ref a4, .dict [(.int 0, .int 1)], fun h k => ot (valD_dct ((k6.t.trans k).dctX b4 f4) (.cons (k := .inl 0) rfl .nil) ⟨rfl, by decide, by decide +kernel, by decide +kernel⟩) ⟨by decide, .base (.dK ((k6.t.trans k).dctX b4 f4)), fun z e => nomatch e⟩ (m := "dict") (by decide), K6, P6, rfl⟩
      · exact ⟨.bl true, .bool true, fun h k => ot (valD_bl _) ⟨by decide, .base (.bl _), fun z e => nomatch e⟩ (m := "bool") (by decide), K6, P6, rfl⟩
      · exact ⟨.str "", .str "", fun h k => ot (valD_str ((Shw.str (by decide +kernel)).mono (by decide) (by decide +kernel))) ⟨by decide, .base (.str _), fun z e => by cases e; decide +kernel⟩ (m := "str") (by decide), K6, P6, rfl⟩
    rintro σ' H6 ⟨nr, dr, snr, k6, P6, rfl⟩
    have ebo6 := k6 _ _ bop bopH5
    obtain ⟨py6, hp6⟩ := P6.at_
    have n59 : ((10 : Int) ^ (59 : Int).toNat) = 10 ^ 59 := rfl
    -- no_span
    refine ⟨fun σ' H' => ∃ (ns' : V) (ds : PyData), Stb p H' (fun h => NoSpan K (ns.length + 2) h ns' ds) ∧ But p H6 H' ∧ Pen H' p c (n + 8) ∧ σ' = [some (.ref p), some v, some (.ref l0), some (.int span), some (.int step), some (.int i), some (.int j), some (.ref b), some (.ref bo), some f, some nr, some ns', none, none, none, none, none, none], ?_, ?_⟩
    · refine ⟨.ref p, rfl, 1, rfl, .ref bo, rfl, .ref bo, _, rfl, .inl ⟨_, .of ebo6, rfl⟩, _, _, rfl, rfl, ?_⟩
      refine ⟨_, _, rfl, rfl, ⟨by decide, by decide, by decide⟩, ?_⟩
      refine ⟨.ref p, rfl, p, c, n + 5, rfl, P6, by omega, fun u1 du1 B1 st1 kk1 Q1 => ?_⟩
      obtain ⟨pz1, hz1⟩ := Q1.at_
      refine ⟨.ref p, rfl, p, c, n + 6, rfl, Q1, by omega, fun u2 du2 B2 st2 kk2 Q2 => ?_⟩
      refine ⟨szn 6, fun l nl => ?_⟩
      generalize hH3 : upd B2 l _ = B3
      obtain ⟨s3, e3⟩ := alloc_eq nl hH3
      refine ⟨p, c, n + 7, l, _, rfl, Q2.same s3, by omega, e3, Q2.newP nl, by show 0 < 6; decide, by show 6 ≤ 1000; decide, fun v B4 hv k4' P4' => ?_⟩
      have hv' : v ∈ ([.int 0, .int (-1), .int ((xs.length : Int) + 1), .int (10 ^ (59 : Int).toNat), u1, u2] : List V) := hv
      have K4 : But p H6 B4 := ((kk1.trans kk2).trans (.same s3)).trans k4'
      have it : ∀ z : Int, z.natAbs < 2 ^ 250 → (decide (1 ≤ z) && decide (z ≤ ((ns.length + 2 : Nat) : Int))) = false → ∀ h : Hp, NoSpan K (ns.length + 2) h (.int z) (.int z) := fun z hz hw h => ⟨valD_int hz, "int", ⟨by decide, .base (.int _), fun z e => nomatch e⟩, hw⟩
      have ni : ∀ {h : Hp} {u : V} {d : PyData}, NoInt K h u d → NoSpan K (ns.length + 2) h u d := fun {h u d} q => ⟨q.1, by
        obtain ⟨m, ok⟩ := q.1.ok
        refine ⟨m, ok, ?_⟩
        cases u with
        | int z => exact absurd (show true = false from q.2) (by decide)
        | _ => rfl⟩
      simp only [List.mem_cons, List.not_mem_nil, or_false] at hv'
      rcases hv' with rfl | rfl | rfl | rfl | rfl | rfl
      · exact ⟨_, _, fun h k => it 0 (by decide) rfl h, K4, P4', rfl⟩
      · exact ⟨_, _, fun h k => it (-1) (by decide) rfl h, K4, P4', rfl⟩
      · exact ⟨_, _, fun h k => it _ (natAbs_lt_pow (by omega) (by omega)) (by rw [decide_eq_false (show ¬ (xs.length : Int) + 1 ≤ ((ns.length + 2 : Nat) : Int) by omega), Bool.and_false]) h, K4, P4', rfl⟩
      · exact ⟨_, _, fun h k => it _ (by decide) (by rw [decide_eq_false (show ¬ (10 : Int) ^ (59 : Int).toNat ≤ ((ns.length + 2 : Nat) : Int) by rw [n59]; omega), Bool.and_false]) h, K4, P4', rfl⟩
      · exact ⟨_, du1, fun h k => ni (st1 h (NewT.butT (((kk2.trans (.same s3)).trans k4').t.trans k) hp6)), K4, P4', rfl⟩
      · exact ⟨_, du2, fun h k => ni (st2 h (NewT.butT (((But.same s3).trans k4').t.trans k) hz1)), K4, P4', rfl⟩
    rintro σ' H7 ⟨nsp, dsp, snsp, k7, P7, rfl⟩
    obtain ⟨py7, hp7⟩ := P7.at_
    -- no_step
    refine ⟨fun σ' H' => ∃ (nst : V) (dst : PyData), Stb p H' (fun h => NoInt K h nst dst) ∧ But p H7 H' ∧ Pen H' p c (n + 9) ∧ σ' = [some (.ref p), some v, some (.ref l0), some (.int span), some (.int step), some (.int i), some (.int j), some (.ref b), some (.ref bo), some f, some nr, some nsp, some nst, none, none, none, none, none], ?_, ?_⟩
    · exact ⟨.ref p, rfl, p, c, n + 8, rfl, P7, by omega, fun u1 du1 B1 st1 kk1 Q1 => ⟨u1, du1, fun h k => st1 h (NewT.butT k hp7), kk1, Q1, rfl⟩⟩
    rintro σ' H8 ⟨nst, dst, snst, k8, P8, rfl⟩
    have k58 := (k6.trans k7).trans k8
    have K8 : But p H H8 := k5.trans k58
    have ebo8 := k58 _ _ bop bopH5
    have sf8 : Stb p H8 (fun h => NoInt K h f df) := ok5.next k58.t
    have snr8 : Stb p H8 (fun h => NoRow K h nr dr) := snr.next (k7.trans k8).t
    have snsp8 : Stb p H8 (fun h => NoSpan K (ns.length + 2) h nsp dsp) := snsp.next k8.t
    have hl8 := K8 _ _ lp hl0
    have ht8 := K8 _ _ tp ht0
    obtain ⟨px8, hp8⟩ := P8.at_
    have hT8 : Tabs Tb H8 := LC.Tabs.but hT K8 hp0
    have sq8 : ∀ H0, ButT p H8 H0 → SeqOf K H0 (.ref bo) xs := fun H0 e0 => ⟨bo, rfl, .inl (.of (e0.lst bop ebo8))⟩
    have x0 : xs ≠ [] := fun z => by rw [z] at lx; cases lx
    -- heard =
    refine ⟨fun σ' H' => ∃ hl : Addr, Hrd K Tb p c hl (n + 9) H8 H' [("number", nr)] ∧ σ' = [some (.ref p), some v, some (.ref l0), some (.int span), some (.int step), some (.int i), some (.int j), some (.ref b), some (.ref bo), some f, some nr, some nsp, some nst, some (.ref hl), none, none, none, none], ?_, ?_⟩
    · refine heard_row (v := nr) hT8 (fun H0 R e0 k => ⟨nr, rfl, nsp, rfl, nst, rfl, k _ _ _ _ (fun _ _ e => e) ((snr8 _ (ButT.ext e0)).r _ _)⟩) (fun t H2 e2 T2 h2 => ⟨szn 1, fun hl nhl => ?_⟩)
      generalize hH3 : upd H2 hl _ = B3
      obtain ⟨s3, e3⟩ := alloc_eq nhl hH3
      exact ⟨hl, ⟨(ButT.ext e2).trans (.of s3), (P8.ext e2).same s3, Tabs.ext T2 s3, ⟨_, e3, .cons ⟨t, rfl, .of (s3 _ _ h2)⟩ .nil⟩, (P8.ext e2).newP nhl, (P8.ext e2).newC nhl, Free.back (ButT.ext e2) (Free.of nhl) ((P8.ext e2).newP nhl)⟩, rfl⟩
    rintro σ' H9 ⟨hl, B9, rfl⟩
    -- Row(both, no_span, no_step)
    refine ⟨fun σ' H' => Hrd K Tb p c hl (n + 9) H8 H' [("number", nr), ("number", nsp)] ∧ σ' = [some (.ref p), some v, some (.ref l0), some (.int span), some (.int step), some (.int i), some (.int j), some (.ref b), some (.ref bo), some f, some nr, some nsp, some nst, some (.ref hl), none, none, none, none], ?_, ?_⟩
    · obtain ⟨ts, et, _⟩ := id B9.ex
      refine ⟨.ref hl, rfl, .inl ⟨rfl, _, .inl (.inl et)⟩, ?_⟩
      refine heard_row (v := nsp) B9.tabs (fun H0 R e0 k => ⟨.ref bo, rfl, nsp, rfl, nst, rfl, k _ _ _ _ (fun _ _ e => e) ?_⟩) (fun t H2 e2 T2 h2 => ?_)
      · have z0 := B9.k.trans (ButT.ext e0)
        obtain ⟨m, okm, wm⟩ := (snsp8 _ z0).w
        exact .period (sq8 _ z0) x0 (by omega) okm (by rw [lx]; exact wm)
      · have B10 := B9.ext e2 T2
        obtain ⟨vs, ev2, r2⟩ := id B10.ex
        exact ⟨hl, _, _, rfl, rfl, ev2, sz_lt (by rw [r2.length]; show 1 < 100000; decide), B10.add ev2 ⟨t, rfl, .of h2⟩ rfl, rfl⟩
    rintro σ' H10 ⟨B10, rfl⟩
    -- Row(tuple(both), span, no_step)
    refine ⟨fun σ' H' => Hrd K Tb p c hl (n + 9) H8 H' [("number", nr), ("number", nsp), ("number", nst)] ∧ σ' = [some (.ref p), some v, some (.ref l0), some (.int span), some (.int step), some (.int i), some (.int j), some (.ref b), some (.ref bo), some f, some nr, some nsp, some nst, some (.ref hl), none, none, none, none], ?_, ?_⟩
    · obtain ⟨ts, et, _⟩ := id B10.ex
      refine ⟨.ref hl, rfl, .inl ⟨rfl, _, .inl (.inl et)⟩, ?_⟩
      refine heard_row (v := nst) B10.tabs (fun H0 R e0 k => ⟨.ref bo, rfl, bo, xs, rfl, .inl ⟨.of ((B10.k.trans (ButT.ext e0)).lst bop ebo8), fun tu ntu => ?_⟩⟩) (fun t H2 e2 T2 h2 => ?_)
      · generalize hH1 : upd H0 tu _ = B1
        obtain ⟨s1', e1'⟩ := alloc_eq ntu hH1
        have z1 := (B10.k.trans (ButT.ext e0)).trans (.of s1')
        obtain ⟨m, okm⟩ := (snst _ z1).1.ok
        refine ⟨.int span, rfl, nst, rfl, k _ _ _ _ s1' ?_⟩
        exact .step ⟨tu, rfl, .inr (.of e1')⟩ x0 (by omega) rfl s1 (by omega) okm (snst _ z1).2
      · have B11 := B10.ext e2 T2
        obtain ⟨vs, ev2, r2⟩ := id B11.ex
        exact ⟨hl, _, _, rfl, rfl, ev2, sz_lt (by rw [r2.length]; show 2 < 100000; decide), B11.add ev2 ⟨t, rfl, .of h2⟩ rfl, rfl⟩
    rintro σ' H11 ⟨B11, rfl⟩
    -- Row(both, span, step)
    refine ⟨fun σ' H' => Hrd K Tb p c hl (n + 9) H8 H' [("number", nr), ("number", nsp), ("number", nst), ("number", f)] ∧ σ' = [some (.ref p), some v, some (.ref l0), some (.int span), some (.int step), some (.int i), some (.int j), some (.ref b), some (.ref bo), some f, some nr, some nsp, some nst, some (.ref hl), none, none, none, none], ?_, ?_⟩
    · obtain ⟨ts, et, _⟩ := id B11.ex
      refine ⟨.ref hl, rfl, .inl ⟨rfl, _, .inl (.inl et)⟩, ?_⟩
      refine heard_row (v := f) B11.tabs (fun H0 R e0 k => ⟨.ref bo, rfl, .int span, rfl, .int step, rfl, k _ _ _ _ (fun _ _ e => e) ?_⟩) (fun t H2 e2 T2 h2 => ?_)
      · have z0 := B11.k.trans (ButT.ext e0)
        obtain ⟨m, okm⟩ := (sf8 _ z0).1.ok
        have sq := sq8 _ z0
        rw [ex] at sq lx
        exact .item sq (by omega) rfl s1 (by omega) rfl okm (sf8 _ z0).2
      · have B12 := B11.ext e2 T2
        obtain ⟨vs, ev2, r2⟩ := id B12.ex
        exact ⟨hl, _, _, rfl, rfl, ev2, sz_lt (by rw [r2.length]; show 3 < 100000; decide), B12.add ev2 ⟨t, rfl, .of h2⟩ rfl, rfl⟩
    rintro σ' H12 ⟨B12, rfl⟩
    -- Row(some, len(some) + 1, step)
    refine ⟨fun σ' H' => Hrd K Tb p c hl (n + 9) H8 H' [("number", nr), ("number", nsp), ("number", nst), ("number", f), ("number", .int ((ns.length : Int) + 1))] ∧ σ' = [some (.ref p), some v, some (.ref l0), some (.int span), some (.int step), some (.int i), some (.int j), some (.ref b), some (.ref bo), some f, some nr, some nsp, some nst, some (.ref hl), none, none, none, none], ?_, ?_⟩
    · obtain ⟨ts, et, _⟩ := id B12.ex
      refine ⟨.ref hl, rfl, .inl ⟨rfl, _, .inl (.inl et)⟩, ?_⟩
      refine heard_row (v := .int ((ns.length : Int) + 1)) B12.tabs (fun H0 R e0 k => ?_) (fun t H2 e2 T2 h2 => ?_)
      · have z0 := B12.k.trans (ButT.ext e0)
        have el := z0.lst lp hl8
        refine ⟨.ref l0, rfl, .ref l0, rfl, .ref l0, _, rfl, .inl ⟨_, .of el, rfl⟩, _, _, rfl, rfl, .int step, rfl, ?_⟩
        rw [ln]
        refine k _ _ _ _ (fun _ _ e => e) (.period ⟨l0, rfl, .inl (.of el)⟩ (fun z => ?_) (by omega) ⟨by decide, .base (.int _), fun z e => nomatch e⟩ (n := "int") ?_)
        · have := congrArg List.length z
          rw [List.length_map] at this
          exact absurd this (by show ¬ ns.length = 0; omega)
        · show (decide _ && decide _) = false
          rw [decide_eq_false (show ¬ (ns.length : Int) + 1 ≤ ((ns.map V.int).length : Int) by omega), Bool.and_false]
      · have B13 := B12.ext e2 T2
        obtain ⟨vs, ev2, r2⟩ := id B13.ex
        exact ⟨hl, _, _, rfl, rfl, ev2, sz_lt (by rw [r2.length]; show 4 < 100000; decide), B13.add ev2 ⟨t, rfl, .of h2⟩ rfl, rfl⟩
    rintro σ' H13 ⟨B13, rfl⟩
    have hl13 := B13.k.lst lp hl8
    -- due
    refine ⟨fun σ' H' => ∃ (du : Addr) (ts : List V), Hrd K Tb p c hl (n + 9) H8 H' [("number", nr), ("number", nsp), ("number", nst), ("number", f), ("number", .int ((ns.length : Int) + 1))] ∧ du ≠ p ∧ du ≠ hl ∧ H' du = some (.lst ts) ∧ Paired (TwoV K H') ts [("number", nr), ("number", nsp), ("number", nst), ("number", f), ("number", .int ((ns.length : Int) + 1))] ∧ σ' = [some (.ref p), some v, some (.ref l0), some (.int span), some (.int step), some (.int i), some (.int j), some (.ref b), some (.ref bo), some f, some nr, some nsp, some nst, some (.ref hl), some (.ref du), none, none, none], ?_, ?_⟩
    · refine ⟨nr, rfl, szn 2, fun a1 n1 => ?_⟩
      generalize hH1 : upd H13 a1 _ = B1
      obtain ⟨w1, e1⟩ := alloc_eq n1 hH1
      refine ⟨nsp, rfl, szn 2, fun a2 n2 => ?_⟩
      generalize hH2 : upd B1 a2 _ = B2
      obtain ⟨w2, e2⟩ := alloc_eq n2 hH2
      refine ⟨nst, rfl, szn 2, fun a3 n3 => ?_⟩
      generalize hH3 : upd B2 a3 _ = B3
      obtain ⟨w3, e3⟩ := alloc_eq n3 hH3
      refine ⟨f, rfl, szn 2, fun a4 n4 => ?_⟩
      generalize hH4 : upd B3 a4 _ = B4
      obtain ⟨w4, e4⟩ := alloc_eq n4 hH4
      refine ⟨.ref l0, rfl, .ref l0, _, rfl, .inl ⟨_, .of (w4 _ _ (w3 _ _ (w2 _ _ (w1 _ _ hl13)))), rfl⟩, _, _, rfl, rfl, szn 2, fun a5 n5 => ?_⟩
      rw [ln]
      generalize hH5 : upd B4 a5 _ = B5
      obtain ⟨w5, e5⟩ := alloc_eq n5 hH5
      refine ⟨szn 5, fun du ndu => ?_⟩
      generalize hH6 : upd B5 du _ = B6
      obtain ⟨w6, e6⟩ := alloc_eq ndu hH6
      have t5 := w5.trans w6
      have t4 := w4.trans t5
      have t3 := w3.trans t4
      have t2 := w2.trans t3
      have B6' := B13.same (w1.trans t2)
      obtain ⟨ts13, et13, _⟩ := id (B13.same ((((w1.trans w2).trans w3).trans w4).trans w5)).ex
      exact ⟨du, _, B6', (((((B13.pen.same w1).same w2).same w3).same w4).same w5).newP ndu, fun z => (by rw [z, et13] at ndu; cases ndu), e6, .cons ⟨a1, rfl, .of (t2 _ _ e1)⟩ (.cons ⟨a2, rfl, .of (t3 _ _ e2)⟩ (.cons ⟨a3, rfl, .of (t4 _ _ e3)⟩ (.cons ⟨a4, rfl, .of (t5 _ _ e4)⟩ (.cons ⟨a5, rfl, .of (w6 _ _ e5)⟩ .nil)))), rfl⟩
    rintro σ' H14 ⟨du, tds, B14, dup, duh, edu, pdu, rfl⟩
    -- made, odd
    refine ⟨fun σ' H' => ∃ (x : Addr) (N d : Nat) (od : V) (dod : PyData), Hrd K Tb p c hl (n + 12) H8 H' [("number", nr), ("number", nsp), ("number", nst), ("number", f), ("number", .int ((ns.length : Int) + 1))] ∧ H' du = some (.lst tds) ∧ Paired (TwoV K H') tds [("number", nr), ("number", nsp), ("number", nst), ("number", f), ("number", .int ((ns.length : Int) + 1))] ∧ RowAt K C H' x (tellAt ns span step) N d ∧ (∀ h, But2 p hl H' h → NoFrom K h od dod) ∧ σ' = [some (.ref p), some v, some (.ref l0), some (.int span), some (.int step), some (.int i), some (.int j), some (.ref b), some (.ref bo), some f, some nr, some nsp, some nst, some (.ref hl), some (.ref du), some (.ref x), some od, none], ?_, ?_⟩
    · have hv14 : ToldV H14 p v ns span step := ⟨tl0, l0, ev, tp, lp, B14.k.lst tp ht8, B14.k.lst lp hl8⟩
      refine ⟨v, rfl, p, v, true, ns, span, step, rfl, hv14, ok, fun x N d B1 cn le nx s1' ra => ?_⟩
      refine ⟨.ref p, rfl, 1, rfl, 7, rfl, _, _, rfl, rfl, ⟨by decide, by decide, by decide⟩, _, _, rfl, rfl, ?_⟩
      refine ⟨.ref p, rfl, p, c, n + 9, rfl, B14.pen.same s1', by omega, fun u1 du1 B2 st1 kk1 Q1 => ?_⟩
      refine ⟨.ref p, rfl, p, c, n + 10, rfl, Q1, by omega, fun u2 du2 B3 st2 kk2 Q2 => ?_⟩
      refine ⟨szn 5, fun l nl => ?_⟩
      generalize hH3 : upd B3 l _ = B4
      obtain ⟨s3, e3⟩ := alloc_eq nl hH3
      refine ⟨p, c, n + 11, l, _, rfl, Q2.same s3, by omega, e3, Q2.newP nl, by show 0 < 5; decide, by show 5 ≤ 1000; decide, fun v' B5 hv5 k5' P5' => ?_⟩
      have hv' : v' ∈ ([.int (-1), .int (-7), .int (0 - 10 ^ (59 : Int).toNat), u1, u2] : List V) := hv5
      have K1 : But p B1 B5 := ((kk1.trans kk2).trans (.same s3)).trans k5'
      have K5 : But p H14 B5 := (But.same s1').trans K1
      obtain ⟨px14, hp14⟩ := B14.pen.at_
      have ra5 : RowAt K C B5 x (tellAt ns span step) N d := ra.but K1 (s1' _ _ hp14)
      have BB := B14.but K5 P5'
      have e5 := K5 _ _ dup edu
      have p5 := twosV_butT K5.t hp14 pdu
      obtain ⟨tsh, eth, _⟩ := id (B14.same s1').ex
      obtain ⟨pz1, hz1⟩ := (B14.pen.same s1').at_
      have nw : ∀ {B B' : Hp} {px : HO} {ls : List V}, B p = some px → B hl = some (.lst ls) → But p B' B5 → ∀ h, But2 p hl B5 h → NewT B B' h := fun {B B' px ls} h1 h2 kk h k b o e n t => k b o (fun z => by rw [z, h1] at n; cases n) (fun z => by rw [z, h2] at n; cases n) (kk b o (fun z => by rw [z, h1] at n; cases n) e) t
      have it : ∀ z : Int, z.natAbs < 2 ^ 250 → decide (0 ≤ z) = false → ∀ h : Hp, NoFrom K h (.int z) (.int z) := fun z hz hw h => ⟨valD_int hz, hw⟩
      have ni : ∀ {h : Hp} {u : V} {d : PyData}, NoInt K h u d → NoFrom K h u d := fun {h u d} q => ⟨q.1, by
        cases u with
        | int z => exact absurd (show true = false from q.2) (by decide)
        | _ => rfl⟩
      refine ⟨szn 2, fun tt ntt => ?_⟩
      generalize hH6 : upd B5 tt _ = B6
      obtain ⟨t6, e6⟩ := alloc_eq ntt hH6
      have n6 : ∀ {h}, But2 p hl B6 h → But2 p hl B5 h := fun k => (But2.of (ButT.of t6)).trans k
      have f6 := t6 _ _ e5
      obtain ⟨pz5, hz5⟩ := P5'.at_
      have p6 := twosV_butT (ButT.of t6) hz5 p5
      refine ⟨tt, _, rfl, .of e6, rfl, .ref x, [v'], rfl, v', [], rfl, rfl, ?_⟩
      simp only [List.mem_cons, List.not_mem_nil, or_false] at hv'
      rcases hv' with rfl | rfl | rfl | rfl | rfl
      · exact ⟨x, N, d, _, _, BB.same t6, f6, p6, ra5.same t6, fun h k => it (-1) (by decide) rfl h, rfl⟩
      · exact ⟨x, N, d, _, _, BB.same t6, f6, p6, ra5.same t6, fun h k => it (-7) (by decide) rfl h, rfl⟩
      · exact ⟨x, N, d, _, _, BB.same t6, f6, p6, ra5.same t6, fun h k => it _ (by decide) (by decide) h, rfl⟩
      · exact ⟨x, N, d, _, du1, BB.same t6, f6, p6, ra5.same t6, fun h k => ni (st1 h (nw hz1 eth ((kk2.trans (.same s3)).trans k5') h (n6 k))), rfl⟩
      · obtain ⟨pz2, hz2⟩ := Q1.at_
        exact ⟨x, N, d, _, du2, BB.same t6, f6, p6, ra5.same t6, fun h k => ni (st2 h (nw hz2 (kk1 _ _ B14.n2 eth) ((But.same s3).trans k5') h (n6 k))), rfl⟩
    rintro σ' H15 ⟨x, N, d, od, dod, B15, edu15, pdu15, ra15, snf, rfl⟩
    obtain ⟨px15, hp15⟩ := B15.pen.at_
    obtain ⟨cc, ff, dx, Tx, hx15, htx15⟩ := id ra15
    -- heard.append
    refine ⟨fun σ' H' => Hrd K Tb p c hl (n + 12) H8 H' [("number", nr), ("number", nsp), ("number", nst), ("number", f), ("number", .int ((ns.length : Int) + 1)), ("number", od)] ∧ But2 p hl H15 H' ∧ H' du = some (.lst tds) ∧ Paired (TwoV K H') tds [("number", nr), ("number", nsp), ("number", nst), ("number", f), ("number", .int ((ns.length : Int) + 1))] ∧ σ' = [some (.ref p), some v, some (.ref l0), some (.int span), some (.int step), some (.int i), some (.int j), some (.ref b), some (.ref bo), some f, some nr, some nsp, some nst, some (.ref hl), some (.ref du), some (.ref x), some od, none], ?_, ?_⟩
    · obtain ⟨ts, et, _⟩ := id B15.ex
      refine ⟨.ref hl, rfl, .inl ⟨rfl, _, .inl (.inl et)⟩, ?_⟩
      refine heard_get (K := K) (C := C) (i := 15) (j := 16) (v := od) B15.tabs rfl rfl (fun H0 e0 => ⟨ra15.butT (ButT.ext e0) hp15, e0 _ _ hx15 (fun _ z => nomatch z), (snf _ (.of (ButT.ext e0))).d.ok⟩) (snf _ (.of ButT.refl)).w (fun t H2 e2 T2 h2 => ?_)
      have B16 := B15.ext e2 T2
      obtain ⟨vs, ev2, r2⟩ := id B16.ex
      refine ⟨hl, _, _, rfl, rfl, ev2, sz_lt (by rw [r2.length]; show 5 < 100000; decide), B16.add ev2 ⟨t, rfl, .of h2⟩ rfl, ?_⟩
      have kz : But hl H2 (upd H2 hl (.lst (vs ++ [.ref t]))) := .set
      exact ⟨(But2.of (ButT.ext e2)).trans (.put kz), kz _ _ duh ((ButT.ext e2).lst dup edu15), twosV_put kz ev2 (twosV_butT (ButT.ext e2) hp15 pdu15), rfl⟩
    rintro σ' H16 ⟨B16, k15, edu16, pdu16, rfl⟩
    obtain ⟨px16, hp16⟩ := B16.pen.at_
    have wx : ∀ h, ButT p H8 h → But2 p hl H15 h → Paired (WX K h) [("number", nr), ("number", nsp), ("number", nst), ("number", f), ("number", .int ((ns.length : Int) + 1)), ("number", od)] [wvD "number" dr, wvD "number" dsp, wvD "number" dst, wvD "number" df, wvD "number" (.int ((ns.length : Int) + 1)), wvD "number" dod] := fun h k1 k2 =>
      have az : asciiB "number" = true := by decide +kernel
      have lz : ("number" : Str).length ≤ 40 := by decide +kernel
      .cons ⟨_, rfl, (snr8 h k1).d, az, lz⟩ (.cons ⟨_, rfl, (snsp8 h k1).d, az, lz⟩ (.cons ⟨_, rfl, (snst h k1).1, az, lz⟩ (.cons ⟨_, rfl, (sf8 h k1).1, az, lz⟩ (.cons ⟨_, rfl, valD_int (natAbs_lt_pow (by omega) (by omega)), az, lz⟩ (.cons ⟨_, rfl, (snf h k2).d, az, lz⟩ .nil)))))
    obtain ⟨ts, et, rt⟩ := id B16.ex
    have w16 := wx H16 B16.k k15
    have sh := ShX.lst (wx_sh w16)
    refine ⟨.ref hl, rfl, hl, _, rfl, .lst (.of et) (twosX rt w16), sh.sh, Nat.le_trans sh.dp (by decide), sh.len (by show 400 * 6 ≤ 50000; decide), ?_⟩
    refine ⟨.ref du, rfl, od, rfl, szn 2, fun a1 n1 => ?_⟩
    generalize hH1 : upd H16 a1 _ = B1
    obtain ⟨w1, e1⟩ := alloc_eq n1 hH1
    refine ⟨szn 1, fun a2 n2 => ?_⟩
    generalize hH2 : upd B1 a2 _ = B2
    obtain ⟨w2, e2⟩ := alloc_eq n2 hH2
    have t12 := w1.trans w2
    refine ⟨du, a2, _, _, rfl, rfl, t12 _ _ edu16, e2, sz_le (by rw [pdu16.length]; show 6 ≤ 100000; decide), fun a3 n3 => ?_⟩
    generalize hH3 : upd B2 a3 _ = B3
    obtain ⟨w3, e3⟩ := alloc_eq n3 hH3
    have t13 := t12.trans w3
    have B19 := B16.same t13
    have wl := wx B3 B19.k (k15.trans (.of (ButT.of t13)))
    have pd : Paired (TwoV K B3) (tds ++ [.ref a1]) ([("number", nr), ("number", nsp), ("number", nst), ("number", f), ("number", .int ((ns.length : Int) + 1)), ("number", od)] : List WV) := paired_append (b := [.ref a1]) (d := [(("number", od) : WV)]) (twosV_butT (ButT.of t13) hp16 pdu16) (.cons ⟨a1, rfl, .of (w3 _ _ (w2 _ _ e1))⟩ .nil)
    refine ⟨a3, _, rfl, .lst (.of e3) (twosX pd wl), sh.sh, Nat.le_trans sh.dp (by decide), sh.len (by show 400 * 6 ≤ 50000; decide), rfl, ?_⟩
    rw [decide_eq_true rfl]
    exact q B3 (K8.t.trans B19.k) B19.tabs B19.pen
end
end LC
/-! LcLong: a long row with one high number in its turn. -/
namespace LC
theorem EvP.times {a : Nat → Int} {N p : Nat} {q : Int} (h : EvP a N p q) : ∀ k n, N ≤ n → a (n + k * p) = a n + k * q
  | 0, n, _ => by rw [Nat.zero_mul, Nat.add_zero]; simp
  | k + 1, n, hn => by
    rw [Nat.succ_mul, ← Nat.add_assoc, h _ (by omega), EvP.times h k n hn, Int.natCast_succ, Int.add_mul, Int.one_mul]
    omega
theorem long_can {a : Nat → Int} {h P high : Nat} {low gain : Int} (hP : 2 ≤ P) (hh : high < P) (ev : EvP a h P gain) (g1 : -9 ≤ gain) (g2 : gain ≤ 9)
    (sp : ∀ i, i < P → low ≤ a (h + i) - (if i = high then 99 else 0) ∧ a (h + i) - (if i = high then 99 else 0) ≤ low + 4) (hd : ∀ i, i < h → low + 1000 ≤ a i) : Can a h P := by
  refine ⟨by omega, ev.rise, fun M f hf g => ?_, fun M f hf g => ?_⟩
  · refine Nat.le_of_not_lt fun l => ?_
    have e := (g.down hf ev.rise).seq
    have e1 := e h (by omega)
    have e2 := ev h (by omega)
    have e3 := e (h - 1) (by omega)
    have e4 := sp (P - 1) (by omega)
    have e5 := hd (h - 1) (by omega)
    rw [show h - 1 + P = h + (P - 1) by omega] at e3
    split at e4 <;> omega
  · refine Nat.le_of_not_lt fun l => ?_
    have e := (ev.rise.down (by omega) g).seq
    generalize a (h + f) - a h = c at e
    have m1 := e.times P h (by omega)
    have m2 := ev.times f h (by omega)
    rw [Nat.mul_comm] at m1
    rw [m1] at m2
    have m3 : (P : Int) * c = f * gain := by omega
    have c1 : c ≤ 9 := by
      refine Int.le_of_not_gt fun z => ?_
      have x1 : (P : Int) * 10 ≤ P * c := Int.mul_le_mul_of_nonneg_left (by omega) (by omega)
      have x2 : (f : Int) * gain ≤ f * 9 := Int.mul_le_mul_of_nonneg_left (by omega) (by omega)
      omega
    have c2 : -9 ≤ c := by
      refine Int.le_of_not_gt fun z => ?_
      have x1 : (P : Int) * c ≤ P * (-10) := Int.mul_le_mul_of_nonneg_left (by omega) (by omega)
      have x2 : (f : Int) * (-9) ≤ f * gain := Int.mul_le_mul_of_nonneg_left (by omega) (by omega)
      omega
    have e1 := e (h + high) (by omega)
    have s1 := sp high hh
    rw [if_pos rfl] at s1
    by_cases l2 : high + f < P
    · have s2 := sp (high + f) l2
      rw [if_neg (by omega), ← Nat.add_assoc, e1] at s2
      omega
    · have s2 := sp (high + f - P) (by omega)
      have e2 := ev (h + (high + f - P)) (by omega)
      rw [show h + (high + f - P) + P = h + high + f by omega, e1] at e2
      rw [if_neg (by omega)] at s2
      omega
end LC
namespace LC
open PySem PySem.Spec PyProof.Rows L2
theorem decS_20 {i : Int} (h : i.natAbs < 2 ^ 12) : (decS i).length ≤ 40 := by
  have e12 : (2 : Nat) ^ 12 < 10 ^ 64 := by decide +kernel
  rw [decS_small (Nat.lt_trans h e12)]
  have e := int_text_length_le (k := 12) (by decide) (log2_b (k := 12) (by decide) h)
  show (Str.ofString (toString i)).length ≤ 40
  rw [PySem.ofString_length]
  omega
theorem rowT_len12 {a : Nat → Int} {N d : Nat} (h1 : ∀ i, i < N + d → (a i).natAbs < 2 ^ 12) (h2 : (a (N + d) - a N).natAbs < 2 ^ 12) : (rowT a N d).length ≤ 41 * (N + d + 3) := by
  have dj := StrLaws.join_length_le " " (rowW (firsts a (N + d)) N (a (N + d) - a N))
  rw [← StrLaws.glued_eq_join] at dj
  refine Nat.le_trans dj ?_
  have c : (" " : Str).length = 1 := rfl
  rw [c, rowW_len, firsts_len]
  have s := sum_le (l := rowW (firsts a (N + d)) N (a (N + d) - a N)) (b := 40) fun z hz => by
    unfold rowW at hz
    simp only [List.mem_append, List.mem_cons, List.mem_map, List.not_mem_nil, or_false] at hz
    rcases hz with ⟨x, hx, rfl⟩ | rfl | ⟨x, hx, rfl⟩ | rfl | rfl
    · obtain ⟨i, hi, rfl⟩ := mem_firsts (List.mem_of_mem_take hx)
      exact decS_20 (h1 i hi)
    · decide +kernel
    · obtain ⟨i, hi, rfl⟩ := mem_firsts (List.mem_of_mem_drop hx)
      exact decS_20 (h1 i hi)
    · decide +kernel
    · exact decS_20 h2
  rw [rowW_len, firsts_len] at s
  omega
/-- what a long row shows of itself -/
def longD (a : Nat → Int) (N d : Nat) : PyData := .list [.int N, .int d, .int (a (N + d) - a N), .tuple ((firsts a (N + d)).map PyData.int), .str (rowT a N d), .bool true]
theorem longD_shw {a : Nat → Int} {N d : Nat} (hN : N + d ≤ 403) (h1 : ∀ i, i < N + d → (a i).natAbs < 2 ^ 12) (h2 : (a (N + d) - a N).natAbs < 2 ^ 12) : Shw (longD a N d) 2 30000 := by
  have e12 : (2 : Nat) ^ 12 < 10 ^ 64 := by decide +kernel
  have i1 : Shw (.int (N : Int)) 0 13 := Shw.intB (k := 12) (by decide) (by decide) (by rw [Int.natAbs_natCast]; omega)
  have i2 : Shw (.int (d : Int)) 0 13 := Shw.intB (k := 12) (by decide) (by decide) (by rw [Int.natAbs_natCast]; omega)
  have i3 : Shw (.int (a (N + d) - a N)) 0 13 := Shw.intB (k := 12) (by decide) (by decide) h2
  have i4 : ShwL ((firsts a (N + d)).map PyData.int) 0 ((12 + 1 + 1) * (firsts a (N + d)).length) := ShwL.all fun x hx => by
    obtain ⟨i, hi, rfl⟩ := mem_firsts hx
    exact Shw.intB (by decide) (by decide) (h1 i hi)
  rw [firsts_len] at i4
  have l5 := rowT_len12 h1 h2
  have i5 : Shw (.str (rowT a N d)) 0 (rowT a N d).length := Shw.str (rowT_asc (fun i hi => Nat.lt_trans (h1 i hi) e12) (Nat.lt_trans h2 e12))
  exact (Shw.lst (ShwL.cons i1 (ShwL.cons i2 (ShwL.cons i3 (ShwL.cons (Shw.tup i4) (ShwL.cons i5 (ShwL.cons (Shw.bl _) ShwL.nil))))))).mono (by omega) (by omega)
def spLongRight : Sp := fun vs H Q _ => ∃ (p c : Addr) (n : Nat), vs = [.ref p] ∧ Pen H p c n ∧ n ≤ 80000 ∧ ∀ H' m, But p H H' → Pen H' p c m → Q (.bl true) H'
section
variable {P : Program} {w : World} {K : PySem.W.Frag} {mg : Str → Option Value} {base : Heap}
abbrev s_long_right : Stmt := topS 38
theorem sc_long_right : FnScope ["pen", "period", "low", "gain", "high", "span", "head", "told", "some", "many", "step", "made", "due", "words", "text", "shown", "n", "bent", "at", "number"] ["pen"] (defScope s_long_right) := ⟨rfl, rfl, rfl, by decide +kernel, rfl, by decide +kernel, by decide +kernel⟩
theorem ok_long_right {f C CB CM : Addr} {fd : FuncData} (T : Txt mg) (RK : RowKit P w K mg base C CB CM) (F : FnP K "_law_long_right" s_long_right f fd) (c__law_draw : Cal P w K mg base CX0 6 "_law_draw" ["pen", "many"] spDraw) (c__law_pick : Cal P w K mg base CX0 6 "_law_pick" ["pen", "some"] spPick) (c__law_other : Cal P w K mg base CX0 6 "_law_other" ["pen", "told"] spOther) (c__law_row : Cal P w K mg base (L2.CX P w) 6 "_law_row" ["told", "is_list"] (spRow K C))
    (c__law_at : Cal P w K mg base CX0 6 "_law_at" ["told", "n"] spAt) : GOk P w K mg base CX0 7 f fd ["pen"] spLongRight := by
  have sc := sc_long_right
  have S := RK.S
  obtain ⟨pS, gS, fdS, PS, FS, BS⟩ := RK.start
  obtain ⟨pP, gP, fdP, PP, FP, BP⟩ := RK.period
  obtain ⟨pQ, gQ, fdQ, PQ, FQ, BQ⟩ := RK.step
  obtain ⟨pN, gN, fdN, PN, FN, BN⟩ := RK.numbers
  obtain ⟨fG, fdG, OG, FG, BG⟩ := RK.get
  obtain ⟨fE, fdE, OE, FE, BE⟩ := RK.eq
  obtain ⟨fT, fdT, OT, FT, BT⟩ := RK.str
  obtain ⟨fI, fdI, M, FI, BI, KI⟩ := RK.mkr
  refine g_of F sc (fun vs H Q E h => ?_) (fun cdv A outer s H vs Q E hg hr h => ?_)
  · obtain ⟨p, c, n, rfl, _⟩ := h
    rfl
  · obtain ⟨p, c, n, rfl, hP, hn, q⟩ := h
    refine ⟨_, PSs.nox (Evl.pss_cut (ps_set (i := 1) sc.nd rfl (.inl rfl) (pe_cal c__law_pick hr (by rfl) pass0 (pa_cons (pv 0) (pa_cons (pe_lst (pa_cons pe_int (pa_cons pe_int (pa_cons pe_int (pa_cons pe_int (pa_cons pe_int (pa_cons pe_int (pa_cons pe_int (pa_cons pe_int (pa_cons pe_int (pa_cons pe_int (pa_cons pe_int (pa_cons (pe_op op_add pe_int (pe_cal c__law_draw hr (by rfl) pass0 (pa_cons (pv 0) (pa_cons pe_int pa_nil)))) pa_nil))))))))))))) pa_nil))))
(Evl.pss_cut (ps_asg (pe_tup (pa_cons (pe_op op_sub (pe_cal c__law_draw hr (by rfl) pass0 (pa_cons (pv 0) (pa_cons pe_int pa_nil))) pe_int) (pa_cons (pe_op op_sub (pe_cal c__law_draw hr (by rfl) pass0 (pa_cons (pv 0) (pa_cons pe_int pa_nil))) pe_int) (pa_cons (pe_cal c__law_draw hr (by rfl) pass0 (pa_cons (pv 0) (pa_cons (pv 1) pa_nil))) pa_nil)))) (pg_tup rfl (pgs_cons (pg_name (i := 2) sc.nd rfl (.inr rfl)) (pgs_cons (pg_name (i := 3) sc.nd rfl (.inl rfl)) (pgs_cons (pg_name (i := 4) sc.nd rfl (.inr rfl)) pgs_nil)))))
(Evl.pss_cut (ps_setLc (i := 5) (own := [("at", 18)]) (g := (gName 18)) (te := (tOp (rI0 fun i j => .int (i + j)) (tOp (rI0 fun i j => .int (i + j)) (tVar 2) (tCal spDraw E0 (tCons (tVar 0) (tCons (tC (.int 5)) tNil)))) (tOp (rI CMul fun i j => .int (i * j)) (tC (.int 99)) (tCB (fun xs H Q => (∃ i, xs = [.int i] ∧ Q (.int i) H) ∨ ∃ k, xs = [.bl k] ∧ Q (.int (if k then 1 else 0)) H) (tCons (tOp rEq (tVar 18) (tVar 4)) tNil))))) (tt := tYes) rfl sc.nd rfl rfl (by rfl) (pi_range1 rfl T.n_range (pa_cons (pv 1) pa_nil)) (blkOk_by (N := ["pen", "period", "low", "gain", "high", "span", "head", "told", "some", "many", "step", "made", "due", "words", "text", "shown", "n", "bent", "at", "number"]) (sc := defScope s_long_right) (by decide +kernel)) (fun _ _ _ _ _ => by exact (pg_name (i := 18) sc.nd rfl (.inl rfl))) (fun _ _ _ _ _ => by exact pts_nil) (fun _ _ _ _ _ => by exact (pe_op op_add (pe_op op_add (pv 2) (pe_cal c__law_draw hr (by rfl) pass0 (pa_cons (pv 0) (pa_cons pe_int pa_nil)))) (pe_op op_mul pe_int (pe_callTy call_int1 (by rfl) T.n_int (by decide +kernel) (pa_cons (pe_cmpR op_eq (pv 18) (pv 4) (nomark _)) pa_nil))))))
(Evl.pss_cut (ps_setLc (i := 6) (own := [("at", 18)]) (g := (gName 18)) (te := (tOp (rI0 fun i j => .int (i + j)) (tOp (rI0 fun i j => .int (i + j)) (tVar 2) (tC (.int 1000))) (tVar 18))) (tt := tYes) rfl sc.nd rfl rfl (by rfl) (pi_range1 rfl T.n_range (pa_cons (pe_cal c__law_draw hr (by rfl) pass0 (pa_cons (pv 0) (pa_cons pe_int pa_nil))) pa_nil)) (blkOk_by (N := ["pen", "period", "low", "gain", "high", "span", "head", "told", "some", "many", "step", "made", "due", "words", "text", "shown", "n", "bent", "at", "number"]) (sc := defScope s_long_right) (by decide +kernel)) (fun _ _ _ _ _ => by exact (pg_name (i := 18) sc.nd rfl (.inl rfl))) (fun _ _ _ _ _ => by exact pts_nil) (fun _ _ _ _ _ => by exact (pe_op op_add (pe_op op_add (pv 2) pe_int) (pv 18))))
(Evl.pss_cut (ps_set (i := 7) sc.nd rfl (.inl rfl) (pe_lst (pa_cons (pe_op op_cat (pv 6) (pv 5)) (pa_cons (pv 1) (pa_cons (pv 3) pa_nil)))))
(Evl.pss_cut (ps_asg (pe_cal c__law_other hr (by rfl) pass0 (pa_cons (pv 0) (pa_cons (pv 7) pa_nil))) (pg_lst rfl (pgs_cons (pg_name (i := 8) sc.nd rfl (.inl rfl)) (pgs_cons (pg_name (i := 9) sc.nd rfl (.inl rfl)) (pgs_cons (pg_name (i := 10) sc.nd rfl (.inl rfl)) pgs_nil)))))
(Evl.pss_cut (ps_par (i := 11) (j := 12) (by rfl) sc.nd rfl rfl (by decide) rfl rfl (pa_cons (pe_make M FI (hr.mono (by decide)) (by rfl) RK.S.g_Row BI .nil passL (pa_cons (pv 8) (pa_cons (pv 9) (pa_cons (pv 10) pa_nil)))) (pa_cons (pe_callTy call_tuple_of (by rfl) T.n_tuple (by decide +kernel) (pa_cons (pe_op op_cat (pv 6) (pv 5)) pa_nil)) pa_nil)) (by rfl))
(Evl.pss_cut (ps_setLc (i := 13) (own := [("number", 19)]) (g := (gName 19)) (te := (tCB (fun xs H Q => ∃ i, xs = [.int i] ∧ i.natAbs.log2 < 1920 ∧ Q (.str (toString i)) H) (tCons (tVar 19) tNil))) (tt := tYes) rfl sc.nd rfl rfl (by rfl) (pi_tup (pv 12)) (blkOk_by (N := ["pen", "period", "low", "gain", "high", "span", "head", "told", "some", "many", "step", "made", "due", "words", "text", "shown", "n", "bent", "at", "number"]) (sc := defScope s_long_right) (by decide +kernel)) (fun _ _ _ _ _ => by exact (pg_name (i := 19) sc.nd rfl (.inl rfl))) (fun _ _ _ _ _ => by exact pts_nil) (fun _ _ _ _ _ => by exact (pe_callTy call_str_int (by rfl) T.n_str (by decide +kernel) (pa_cons (pv 19) pa_nil))))
(Evl.pss_cut (ps_set (i := 14) sc.nd rfl (.inl rfl) (pe_bm PySem.F.plainAttrs_str PySem.F.slot_str_join PySem.F.type_str_join mt_join pe_str (pa_cons (pe_op op_cat (pe_op op_cat (pe_op op_cat (pe_slice sl_list (pv 13) po_none (po_some (pe_callB call_len (by rfl) T.n_len (by decide +kernel) (pa_cons (pv 6) pa_nil)))) (pe_lst (pa_cons pe_str pa_nil))) (pe_slice sl_list (pv 13) (po_some (pe_callB call_len (by rfl) T.n_len (by decide +kernel) (pa_cons (pv 6) pa_nil))) po_none)) (pe_lst (pa_cons pe_str (pa_cons (pe_callTy call_str_int (by rfl) T.n_str (by decide +kernel) (pa_cons (pv 3) pa_nil)) pa_nil)))) pa_nil)))
(Evl.pss_cut (ps_set (i := 15) sc.nd rfl (.inl rfl) (pe_lst (pa_cons (pe_prop (pv 11) S.cl PS FS (hr.mono (by decide)) BS .nil pass0 (by rfl)) (pa_cons (pe_prop (pv 11) S.cl PP FP (hr.mono (by decide)) BP .nil pass0 (by rfl)) (pa_cons (pe_prop (pv 11) S.cl PQ FQ (hr.mono (by decide)) BQ .nil pass0 (by rfl)) (pa_cons (pe_prop (pv 11) S.cl PN FN (hr.mono (by decide)) BN .nil pass0 (by rfl)) (pa_cons (pe_callTy (call_strO OT FT BT (hr.mono (by decide)) pass0) (by rfl) T.n_str (by decide +kernel) (pa_cons (pv 11) pa_nil)) (pa_cons (pe_cmpR (op_eqO OE FE BE (hr.mono (by decide)) pass0) (pv 11) (pe_cal c__law_row hr (by rfl) passL (pa_cons (pv 7) (pa_cons pe_bl pa_nil))) (nomark _)) pa_nil))))))))
(Evl.pss_cut (ps_if (pt_cmpR op_ne (pe_callB (call_reprD hg hr.units) (by rfl) T.n_repr (by decide +kernel) (pa_cons (pv 15) pa_nil)) (pe_callB (call_reprD hg hr.units) (by rfl) T.n_repr (by decide +kernel) (pa_cons (pe_lst (pa_cons (pe_callB call_len (by rfl) T.n_len (by decide +kernel) (pa_cons (pv 6) pa_nil)) (pa_cons (pv 1) (pa_cons (pv 3) (pa_cons (pv 12) (pa_cons (pv 14) (pa_cons pe_bl pa_nil))))))) pa_nil)) (nomark _))
  (pss_one (ps_ret pe_bl))
  pss_nil)
(Evl.pss_cut (ps_for PassesOwn.never rfl (pi_list (pe_lst (pa_cons pe_int (pa_cons (pe_callB call_len (by rfl) T.n_len (by decide +kernel) (pa_cons (pv 12) pa_nil)) (pa_cons (pe_op op_add (pe_op op_mul pe_int (pe_callB call_len (by rfl) T.n_len (by decide +kernel) (pa_cons (pv 12) pa_nil))) pe_int) (pa_cons (pe_op op_add (pe_op op_pow pe_int pe_int) (pe_cal c__law_draw hr (by rfl) pass0 (pa_cons (pv 0) (pa_cons (pe_op op_pow pe_int pe_int) pa_nil)))) pa_nil)))))) (pg_name (i := 16) sc.nd rfl (.inl rfl))
  (pss_one (ps_if (pt_cmpR op_ne (pe_callB SkE.call_repr_int (by rfl) T.n_repr (by decide +kernel) (pa_cons (pe_ixO OG FG BG (hr.mono (by decide)) passL (pv 11) (pv 16)) pa_nil)) (pe_callB SkE.call_repr_int (by rfl) T.n_repr (by decide +kernel) (pa_cons (pe_cal c__law_at hr (by rfl) pass0 (pa_cons (pv 7) (pa_cons (pv 16) pa_nil))) pa_nil)) (nomark _))
    (pss_one (ps_ret pe_bl))
    pss_nil)))
(Evl.pss_cut (ps_par (i := 17) (j := 18) (by rfl) sc.nd rfl rfl (by decide) rfl rfl (pa_cons (pe_callTy call_list_of (by rfl) T.n_list (by decide +kernel) (pa_cons (pv 8) pa_nil)) (pa_cons (pe_op op_sub (pe_op op_sub (pe_callB call_len (by rfl) T.n_len (by decide +kernel) (pa_cons (pv 8) pa_nil)) pe_int) (pe_cal c__law_draw hr (by rfl) pass0 (pa_cons (pv 0) (pa_cons (pv 9) pa_nil)))) pa_nil)) (by rfl))
(Evl.pss_cut (ps_asg (pe_op op_add (pe_ix ix_list (pv 17) (pv 18) (fun _ _ => rfl)) pe_int) (pg_sub (pv 17) (pv 18) set_list))
(pss_one (ps_ret (pe_and (pe_cmpR (op_neO OE FE BE (hr.mono (by decide)) pass0) (pv 11) (pe_make M FI (hr.mono (by decide)) (by rfl) RK.S.g_Row BI .nil passL (pa_cons (pv 17) (pa_cons (pv 9) (pa_cons (pv 10) pa_nil)))) (nomark _)) (pe_one (pe_not (pe_cmpR (op_eqO OE FE BE (hr.mono (by decide)) pass0) (pv 11) (pe_make M FI (hr.mono (by decide)) (by rfl) RK.S.g_Row BI .nil passL (pa_cons (pv 8) (pa_cons (pv 9) (pa_cons (pe_op op_add (pv 10) pe_int) pa_nil)))) (nomark _))))))))))))))))))))), ?_⟩
    obtain ⟨px, hp0⟩ := hP.at_
    -- period
    refine ⟨fun σ' H' => ∃ P : Nat, 13 ≤ P ∧ P ≤ 400 ∧ But p H H' ∧ Pen H' p c (n + 2) ∧ σ' = [some (.ref p), some (.int P), none, none, none, none, none, none, none, none, none, none, none, none, none, none, none, none, none, none], ?_, ?_⟩
    · refine ⟨.ref p, rfl, .ref p, rfl, p, c, n, 388, rfl, hP, by omega, by decide, by decide, fun d1 B1 a0 a1 k1 Q1 => ?_⟩
      refine ⟨_, _, rfl, rfl, szn 12, fun l nl => ?_⟩
      generalize hB2 : upd B1 l _ = B2
      obtain ⟨t2, e2⟩ := alloc_eq nl hB2
      refine ⟨p, c, n + 1, l, _, rfl, Q1.same t2, by omega, e2, Q1.newP nl, by show 0 < 12; decide, by show 12 ≤ 1000; decide, fun v B3 hv k3 Q3 => ?_⟩
      have kk : But p H B3 := (k1.trans (.same t2)).trans k3
      have hv' : v ∈ ([.int 13, .int 16, .int 24, .int 36, .int 60, .int 97, .int 100, .int 144, .int 211, .int 300, .int 400, .int (13 + d1)] : List V) := hv
      have e : ∃ P : Nat, v = .int (P : Int) ∧ 13 ≤ P ∧ P ≤ 400 := by
        simp only [List.mem_cons, List.not_mem_nil, or_false] at hv'
        rcases hv' with rfl | rfl | rfl | rfl | rfl | rfl | rfl | rfl | rfl | rfl | rfl | rfl
        · exact ⟨13, rfl, by decide, by decide⟩
        · exact ⟨16, rfl, by decide, by decide⟩
        · exact ⟨24, rfl, by decide, by decide⟩
        · exact ⟨36, rfl, by decide, by decide⟩
        · exact ⟨60, rfl, by decide, by decide⟩
        · exact ⟨97, rfl, by decide, by decide⟩
        · exact ⟨100, rfl, by decide, by decide⟩
        · exact ⟨144, rfl, by decide, by decide⟩
        · exact ⟨211, rfl, by decide, by decide⟩
        · exact ⟨300, rfl, by decide, by decide⟩
        · exact ⟨400, rfl, by decide, by decide⟩
        · exact ⟨13 + d1.toNat, congrArg V.int (by omega), by omega, by omega⟩
      obtain ⟨P, rfl, p1, p2⟩ := e
      exact ⟨P, p1, p2, kk, Q3, rfl⟩
    rintro σ' H1 ⟨P, p1, p2, k1, P1, rfl⟩
    -- low, gain, high
    refine ⟨fun σ' H' => ∃ (low gain : Int) (high : Nat), -50 ≤ low ∧ low ≤ 48 ∧ -9 ≤ gain ∧ gain ≤ 9 ∧ high < P ∧ But p H H' ∧ Pen H' p c (n + 5) ∧ σ' = [some (.ref p), some (.int P), some (.int low), some (.int gain), some (.int high), none, none, none, none, none, none, none, none, none, none, none, none, none, none, none], ?_, ?_⟩
    · refine ⟨.ref p, rfl, p, c, n + 2, 99, rfl, P1, by omega, by decide, by decide, fun d1 B1 a0 a1 kk1 Q1 => ?_⟩
      refine ⟨_, _, rfl, rfl, .ref p, rfl, p, c, n + 3, 19, rfl, Q1, by omega, by decide, by decide, fun d2 B2 b0 b1 kk2 Q2 => ?_⟩
      refine ⟨_, _, rfl, rfl, .ref p, rfl, .int P, rfl, p, c, n + 4, P, rfl, Q2, by omega, by omega, small_pow (by omega) (by omega), fun d3 B3 c0 c1 kk3 Q3 => ?_⟩
      refine ⟨szn 3, fun tt ntt => ?_⟩
      generalize hB4 : upd B3 tt _ = B4
      obtain ⟨t4, e4⟩ := alloc_eq ntt hB4
      refine ⟨tt, _, rfl, .of e4, rfl, _, _, rfl, _, _, rfl, _, _, rfl, rfl, d1 - 50, d2 - 9, d3.toNat, by omega, by omega, by omega, by omega, by omega, (((k1.trans kk1).trans kk2).trans kk3).trans (.same t4), Q3.same t4, ?_⟩
      rw [Int.toNat_of_nonneg c0]
      rfl
    rintro σ' H2 ⟨low, gain, high, l1, l2, g1, g2, hh, k2, P2, rfl⟩
    -- span
    refine ⟨fun σ' H' => ∃ (sa : Addr) (us : List Int), us.length = P ∧ (∀ i, i < P → low ≤ us.getD i 0 - (if i = high then 99 else 0) ∧ us.getD i 0 - (if i = high then 99 else 0) ≤ low + 4) ∧ sa ≠ p ∧ H' sa = some (.lst (us.map V.int)) ∧ But p H H' ∧ Pen H' p c (n + 5 + P) ∧ σ' = [some (.ref p), some (.int P), some (.int low), some (.int gain), some (.int high), some (.ref sa), none, none, none, none, none, none, none, none, none, none, none, none, none, none], ?_, ?_⟩
    · refine ⟨.int P, rfl, (P : Int), rfl, by omega, by omega, fun D nD => ?_⟩
      have Dp := P2.newP nD
      have Dc := P2.newC nD
      rw [show ((P : Int)).toNat = P from rfl]
      refine lc_range (lo := 0) (n := P) (fun i H' => ∃ us : List Int, us.length = i ∧ (∀ j, j < i → low ≤ us.getD j 0 - (if j = high then 99 else 0) ∧ us.getD j 0 - (if j = high then 99 else 0) ≤ low + 4) ∧ H' D = some (.lst (us.map V.int)) ∧ But p H2 H' ∧ Pen H' p c (n + 5 + i)) ⟨[], rfl, fun j hj => absurd hj (by omega), upd_same, .same (same_new nD), P2.same (same_new nD)⟩ ?_ ?_
      · rintro i B1 hi ⟨us, lu, hu, hD, kk, Q1⟩
        rw [show (0 : Int) + (i : Int) = ((i : Nat) : Int) by omega]
        refine ⟨rfl, tyes_of ?_⟩
        refine ⟨.int low, rfl, .ref p, rfl, p, c, n + 5 + i, 5, rfl, Q1, by omega, by decide, by decide, fun d B2 a0 a1 kk2 Q2 => ?_⟩
        refine ⟨_, _, rfl, rfl, .int i, rfl, .int high, rfl, rfl, .inr ⟨_, rfl, _, _, rfl, rfl, .inl ⟨by decide, by decide⟩, _, _, rfl, rfl, _, kk2 _ _ Dp hD, ?_, us ++ [low + d + 99 * (if decide (V.int (i : Int) = V.int (high : Int)) = true then 1 else 0)], ?_, fun j hj => ?_, ?_, fun b ob n2 e2 => ?_, (Q2.mut Dp Dc)⟩⟩
        · rw [List.length_map]
          exact sz_lt (by omega)
        · rw [List.length_append, lu]
          rfl
        · by_cases z : j < i
          · rw [List.getD_eq_getElem?_getD, List.getElem?_append_left (by omega), ← List.getD_eq_getElem?_getD]
            exact hu j z
          · have ej : j = us.length := by omega
            rw [List.getD_eq_getElem?_getD, List.getElem?_append_right (by omega), ej, Nat.sub_self]
            rw [show ([low + d + 99 * (if decide (V.int (i : Int) = V.int (high : Int)) = true then 1 else 0)] : List Int)[0]?.getD 0 = low + d + 99 * (if decide (V.int (i : Int) = V.int (high : Int)) = true then 1 else 0) from rfl, lu]
            by_cases y : i = high
            · rw [if_pos (decide_eq_true (by rw [y])), if_pos y]
              omega
            · rw [if_neg (by rw [dec_int]; simp; omega), if_neg y]
              omega
        · rw [upd_same, List.map_append]
          rfl
        · rw [upd_ne (ne_of_none e2 nD)]
          exact kk2 _ _ n2 (kk _ _ n2 e2)
      · rintro B1 ⟨us, lu, hu, hD, kk, Q1⟩
        exact ⟨D, us, lu, hu, Dp, hD, k2.trans kk, Q1, rfl⟩
    rintro σ' H3 ⟨sa, us, lu, hu, sap, esa, k3, P3, rfl⟩
    -- head
    refine ⟨fun σ' H' => ∃ (ha : Addr) (k : Nat), k ≤ 3 ∧ ha ≠ p ∧ H' ha = some (.lst (((List.range k).map fun i : Nat => low + 1000 + (i : Int)).map V.int)) ∧ H' sa = some (.lst (us.map V.int)) ∧ But p H H' ∧ Pen H' p c (n + 6 + P) ∧ σ' = [some (.ref p), some (.int P), some (.int low), some (.int gain), some (.int high), some (.ref sa), some (.ref ha), none, none, none, none, none, none, none, none, none, none, none, none, none], ?_, ?_⟩
    · refine ⟨.ref p, rfl, p, c, n + 5 + P, 4, rfl, P3, by omega, by decide, by decide, fun d B1 a0 a1 kk1 Q1 => ?_⟩
      obtain ⟨k, rfl⟩ : ∃ k : Nat, d = (k : Int) := ⟨d.toNat, (Int.toNat_of_nonneg a0).symm⟩
      refine ⟨(k : Int), rfl, by omega, by omega, fun D nD => ?_⟩
      have Dp := Q1.newP nD
      rw [show ((k : Int)).toNat = k from rfl]
      refine lc_range (lo := 0) (n := k) (fun i H' => Same B1 H' ∧ H' D = some (.lst (((List.range i).map fun i : Nat => low + 1000 + (i : Int)).map V.int))) ⟨same_new nD, upd_same⟩ ?_ ?_
      · rintro i B2 hi ⟨t2, hD⟩
        rw [show (0 : Int) + (i : Int) = ((i : Nat) : Int) by omega]
        refine ⟨rfl, tyes_of ?_⟩
        refine ⟨.int low, rfl, _, _, rfl, rfl, .int i, rfl, _, _, rfl, rfl, _, hD, ?_, fun z ob e2 => ?_, ?_⟩
        · rw [List.length_map, List.length_map, List.length_range]
          exact sz_lt (by omega)
        · rw [upd_ne (ne_of_none e2 nD)]
          exact t2 _ _ e2
        · rw [upd_same, List.range_succ, List.map_append, List.map_append]
          rfl
      · rintro B2 ⟨t2, hD⟩
        exact ⟨D, k, by omega, Dp, hD, t2 _ _ (kk1 _ _ sap esa), (k3.trans kk1).trans (.same t2), by rw [show n + 6 + P = n + 5 + P + 1 by omega]; exact Q1.same t2, rfl⟩
    rintro σ' H4 ⟨ha, k, k3', hap, eha, esa4, k4, P4, rfl⟩
    generalize hhs : ((List.range k).map fun i : Nat => low + 1000 + (i : Int)) = hs at eha
    have lhs : hs.length = k := by rw [← hhs, List.length_map, List.length_range]
    have hhd : ∀ i, i < k → hs.getD i 0 = low + 1000 + (i : Int) := fun i hi => by
      rw [← hhs, List.getD_eq_getElem?_getD, List.getElem?_map, List.getElem?_range hi]
      rfl
    -- told
    refine ⟨fun σ' H' => ∃ ta la : Addr, ta ≠ p ∧ la ≠ p ∧ H' la = some (.lst ((hs ++ us).map V.int)) ∧ H' ta = some (.lst [.ref la, .int P, .int gain]) ∧ Same H4 H' ∧ σ' = [some (.ref p), some (.int P), some (.int low), some (.int gain), some (.int high), some (.ref sa), some (.ref ha), some (.ref ta), none, none, none, none, none, none, none, none, none, none, none, none], ?_, ?_⟩
    · refine ⟨.ref ha, rfl, .ref sa, rfl, ha, sa, _, _, rfl, rfl, eha, esa4, sz_le (by rw [List.length_map, List.length_map]; omega), fun la nla => ?_⟩
      generalize hB1 : upd H4 la _ = B1
      obtain ⟨t1, e1⟩ := alloc_eq nla hB1
      refine ⟨.int P, rfl, .int gain, rfl, szn 3, fun ta nta => ?_⟩
      generalize hB2 : upd B1 ta _ = B2
      obtain ⟨t2, e2⟩ := alloc_eq nta hB2
      exact ⟨ta, la, (P4.same t1).newP nta, P4.newP nla, by rw [List.map_append]; exact t2 _ _ e1, e2, t1.trans t2, rfl⟩
    rintro σ' H5 ⟨ta, la, tap, lap, ela, eta, t5, rfl⟩
    have lns : (hs ++ us).length = k + P := by rw [List.length_append, lhs, lu]
    have g1' : ∀ i, i < k → (hs ++ us).getD i 0 = hs.getD i 0 := fun i hi => by
      rw [List.getD_eq_getElem?_getD, List.getD_eq_getElem?_getD, List.getElem?_append_left (by omega)]
    have g2' : ∀ i, (hs ++ us).getD (k + i) 0 = us.getD i 0 := fun i => by
      rw [List.getD_eq_getElem?_getD, List.getD_eq_getElem?_getD, List.getElem?_append_right (by omega), lhs, Nat.add_sub_cancel_left]
    have mem12 : ∀ x ∈ hs ++ us, x.natAbs < 2 ^ 12 := fun x hx => by
      obtain ⟨i, hi⟩ := List.getElem?_of_mem hx
      have il := (List.getElem?_eq_some_iff.mp hi).1
      have ex : (hs ++ us).getD i 0 = x := by rw [List.getD_eq_getElem?_getD, hi]; rfl
      by_cases z : i < k
      · have e1 := g1' i z
        have e2 := hhd i z
        omega
      · have e1 := g2' (i - k)
        rw [show k + (i - k) = i by omega, ex] at e1
        have e2 := hu (i - k) (by omega)
        split at e2 <;> omega
    have can : Can (tellAt (hs ++ us) P gain) k P := by
      refine long_can (low := low) (gain := gain) (high := high) (by omega) hh ?_ g1 g2 (fun i hi => ?_) fun i hi => ?_
      · have e := tell_ev (some := hs ++ us) (span := P) (step := gain) (by omega) (by omega)
        rwa [lns, Nat.add_sub_cancel] at e
      · rw [tell_lt (by omega), g2']
        exact hu i hi
      · rw [tell_lt (by omega), g1' i hi, hhd i hi]
        omega
    generalize hns : hs ++ us = ns at ela lns g1' g2' mem12 can
    have sm : ToldSm ns P gain := ⟨by omega, by omega, by omega, fun x hx => Nat.lt_of_lt_of_le (mem12 x hx) (by decide +kernel), Nat.lt_of_lt_of_le (show gain.natAbs < 2 ^ 12 by omega) (by decide +kernel)⟩
    have k5 := k4.trans (.same t5)
    have P5 := P4.same t5
    have hv5 : ToldV H5 p (.ref ta) ns P gain := ⟨ta, la, rfl, tap, lap, eta, ela⟩
    generalize hta : tellAt ns P gain = a at can
    have hgn : a (k + P) - a k = gain := by
      have e := tell_ev (some := ns) (span := P) (step := gain) (by omega) (by omega) k (by omega)
      rw [hta] at e
      omega
    have hfn : firsts a (k + P) = ns := by
      refine List.ext_getElem (by rw [firsts_len, lns]) fun i h1 h2 => ?_
      have e : (firsts a (k + P))[i] = a i := by simp [firsts]
      rw [e, ← hta, tell_lt h2, List.getD_eq_getElem?_getD, List.getElem?_eq_getElem h2]
      rfl
    have d12 : ∀ i, i < k + P → (a i).natAbs < 2 ^ 12 := fun i hi => by
      have h2 : i < ns.length := by omega
      rw [← hta, tell_lt h2, List.getD_eq_getElem?_getD, List.getElem?_eq_getElem h2]
      exact mem12 _ (List.getElem_mem h2)
    have e12 : (2 : Nat) ^ 12 < 10 ^ 64 := by decide +kernel
    have d1 : ∀ i, i < k + P → (a i).natAbs < 10 ^ 64 := fun i hi => Nat.lt_trans (d12 i hi) e12
    have d2 : (a (k + P) - a k).natAbs < 10 ^ 64 := by rw [hgn]; omega
    have nfs := RK.nfs
    -- some, many, step
    refine ⟨fun σ' H' => ∃ (l' : Addr) (ns' : List Int) (span' : Nat) (step' : Int), l' ≠ p ∧ H' l' = some (.lst (ns'.map V.int)) ∧ ToldOk ns' span' step' ∧ tellAt ns' span' step' = a ∧ But p H5 H' ∧ Pen H' p c (n + 8 + P) ∧ σ' = [some (.ref p), some (.int P), some (.int low), some (.int gain), some (.int high), some (.ref sa), some (.ref ha), some (.ref ta), some (.ref l'), some (.int span'), some (.int step'), none, none, none, none, none, none, none, none, none], ?_, ?_⟩
    · refine ⟨.ref p, rfl, .ref ta, rfl, p, c, n + 6 + P, .ref ta, ns, P, gain, rfl, P5, by omega, hv5, sm, fun v' ns' span' step' B1 hv' ok' eqa kk Q1 => ?_⟩
      obtain ⟨t', l', rfl, tp', lp', et', el'⟩ := hv'
      exact ⟨t', _, rfl, .of et', rfl, _, _, rfl, _, _, rfl, _, _, rfl, rfl, l', ns', span', step', lp', el', ok', by rw [← hta]; exact funext eqa, kk, by rw [show n + 8 + P = n + 6 + P + 2 by omega]; exact Q1, rfl⟩
    rintro σ' H6 ⟨l', ns', span', step', lp', el', ok', ea, k6, P6, rfl⟩
    have few := ok'.few
    have s1 := ok'.s1
    have s2 := ok'.s2
    have eha6 := k6 _ _ hap (t5 _ _ eha)
    have esa6 := k6 _ _ sap (t5 _ _ esa4)
    have hv6 := hv5.but k6
    -- made, due
    refine ⟨fun σ' H' => ∃ x td : Addr, RowAt K C H' x a k P ∧ SqT K H' td ((firsts a (k + P)).map V.int) ∧ Same H6 H' ∧ σ' = [some (.ref p), some (.int P), some (.int low), some (.int gain), some (.int high), some (.ref sa), some (.ref ha), some (.ref ta), some (.ref l'), some (.int span'), some (.int step'), some (.ref x), some (.ref td), none, none, none, none, none, none, none], ?_, ?_⟩
    · refine ⟨.ref l', rfl, .int span', rfl, .int step', rfl, ?_⟩
      refine mk_row (o := .ok (ns', span', step')) (.ok ⟨l', rfl, .inl (.of el')⟩ (by omega) rfl s1 s2 rfl) ?_
      refine rowEnd_few (K := K) (C := C) (by omega) fun N1 d1 cn1 le1 x B1 nx t1 ra => ?_
      rw [ea] at cn1 ra
      obtain ⟨rfl, rfl⟩ := can.uniq cn1
      refine ⟨.ref ha, rfl, .ref sa, rfl, ha, sa, _, _, rfl, rfl, t1 _ _ eha6, t1 _ _ esa6, sz_le (by rw [List.length_map, List.length_map]; omega), fun la2 nla2 => ?_⟩
      generalize hB2 : upd B1 la2 _ = B2
      obtain ⟨t2, e2⟩ := alloc_eq nla2 hB2
      refine ⟨la2, _, rfl, .inl ⟨.of e2, fun td ntd => ?_⟩⟩
      generalize hB3 : upd B2 td _ = B3
      obtain ⟨t3, e3⟩ := alloc_eq ntd hB3
      refine ⟨_, _, rfl, x, td, ra.same (t2.trans t3), ?_, (t1.trans t2).trans t3, rfl⟩
      rw [hfn, ← hns, List.map_append]
      exact .of e3
    rintro σ' H7 ⟨x, td, ra7, htd7, t7, rfl⟩
    -- words
    refine ⟨fun σ' H' => ∃ wl : Addr, H' wl = some (.lst (((firsts a (k + P)).map decS).map V.str)) ∧ Same H7 H' ∧ σ' = [some (.ref p), some (.int P), some (.int low), some (.int gain), some (.int high), some (.ref sa), some (.ref ha), some (.ref ta), some (.ref l'), some (.int span'), some (.int step'), some (.ref x), some (.ref td), some (.ref wl), none, none, none, none, none, none], ?_, ?_⟩
    · refine ⟨.ref td, rfl, td, rfl, ⟨_, htd7⟩, fun D nD => ?_⟩
      refine lc_tup (K := K) (a := td) (xs := (firsts a (k + P)).map V.int) (fun i H' => Same H7 H' ∧ H' D = some (.lst ((((firsts a (k + P)).take i).map decS).map V.str))) ⟨same_new nD, upd_same⟩ (fun i H' _ h => sqt_same h.1 htd7) ?_ ?_
      · rintro i y B4 hi ⟨s4, hD⟩
        rw [List.getElem?_map] at hi
        obtain ⟨z, hz, rfl⟩ := Option.map_eq_some_iff.mp hi
        have il := (List.getElem?_eq_some_iff.mp hz).1
        rw [firsts_len] at il
        obtain ⟨j, hj, ez⟩ := mem_firsts (List.mem_of_getElem? hz)
        have zb : z.natAbs < 10 ^ 64 := by rw [ez]; exact d1 j hj
        refine ⟨rfl, tyes_of ?_⟩
        refine ⟨.int z, rfl, z, rfl, log2_64 zb, _, hD, ?_, fun b ob e2 => ?_, ?_⟩
        · rw [List.length_map, List.length_map, List.length_take, firsts_len]
          exact sz_lt (by omega)
        · rw [upd_ne (ne_of_none e2 nD)]
          exact s4 _ _ e2
        · rw [upd_same, take_next hz, List.map_append, List.map_append, ← decS_small zb]
          rfl
      · rintro B4 ⟨s4, hD⟩
        rw [List.length_map, List.take_length] at hD
        exact ⟨D, hD, s4, rfl⟩
    rintro σ' H8 ⟨wl, hwl, t8, rfl⟩
    have eha8 := t8 _ _ (t7 _ _ eha6)
    have lhk : ((hs.map V.int).length : Int) = (k : Int) := by rw [List.length_map, lhs]
    -- text
    refine ⟨fun σ' H' => Same H8 H' ∧ σ' = [some (.ref p), some (.int P), some (.int low), some (.int gain), some (.int high), some (.ref sa), some (.ref ha), some (.ref ta), some (.ref l'), some (.int span'), some (.int step'), some (.ref x), some (.ref td), some (.ref wl), some (.str (rowT a k P)), none, none, none, none, none], ?_, ?_⟩
    · have lw : ((firsts a (k + P)).map decS).length = k + P := by rw [List.length_map, firsts_len]
      refine ⟨rfl, .ref wl, rfl, .ref ha, rfl, .ref ha, _, rfl, .inl ⟨_, .of eha8, rfl⟩, _, rfl, wl, _, rfl, .of hwl, fun a1 n1 => ?_⟩
      rw [lhk, cut_to, ← List.map_take]
      generalize hB1 : upd H8 a1 _ = B1
      obtain ⟨t1, e1⟩ := alloc_eq n1 hB1
      refine ⟨szn 1, fun a2 n2 => ?_⟩
      generalize hB2 : upd B1 a2 _ = B2
      obtain ⟨t2, e2⟩ := alloc_eq n2 hB2
      refine ⟨a1, a2, _, _, rfl, rfl, t2 _ _ e1, e2, sz_le (by simp only [List.length_append, List.length_map, List.length_take, List.length_drop, List.length_cons, List.length_nil, firsts_len]; omega), fun a3 n3 => ?_⟩
      generalize hB3 : upd B2 a3 _ = B3
      obtain ⟨t3, e3⟩ := alloc_eq n3 hB3
      have t03 := (t1.trans t2).trans t3
      refine ⟨.ref wl, rfl, .ref ha, rfl, .ref ha, _, rfl, .inl ⟨_, .of (t03 _ _ eha8), rfl⟩, _, rfl, wl, _, rfl, .of (t03 _ _ hwl), fun a4 n4 => ?_⟩
      rw [lhk, cut_from, ← List.map_drop]
      generalize hB4 : upd B3 a4 _ = B4
      obtain ⟨t4, e4⟩ := alloc_eq n4 hB4
      refine ⟨a3, a4, _, _, rfl, rfl, t4 _ _ e3, e4, sz_le (by simp only [List.length_append, List.length_map, List.length_take, List.length_drop, List.length_cons, List.length_nil, firsts_len]; omega), fun a5 n5 => ?_⟩
      generalize hB5 : upd B4 a5 _ = B5
      obtain ⟨t5', e5⟩ := alloc_eq n5 hB5
      refine ⟨.int gain, rfl, gain, rfl, log2_64 (by omega), szn 2, fun a6 n6 => ?_⟩
      generalize hB6 : upd B5 a6 _ = B6
      obtain ⟨t6, e6⟩ := alloc_eq n6 hB6
      refine ⟨a5, a6, _, _, rfl, rfl, t6 _ _ e5, e6, sz_le (by simp only [List.length_append, List.length_map, List.length_take, List.length_drop, List.length_cons, List.length_nil, firsts_len]; omega), fun a7 n7 => ?_⟩
      generalize hB7 : upd B6 a7 _ = B7
      obtain ⟨t7', e7⟩ := alloc_eq n7 hB7
      have t07 := (((t03.trans t4).trans t5').trans t6).trans t7'
      have hd2 : ∀ n ∈ firsts a (k + P), DecOk n := fun n hn => by
        obtain ⟨i, hi, rfl⟩ := mem_firsts hn
        exact .inl (d1 i hi)
      refine ⟨" ", a7, rowW (firsts a (k + P)) k (a (k + P) - a k), rfl, rfl, .inl (.of ?_), ?_, t07, rfl⟩
      · rw [e7]
        unfold rowW
        rw [decS_small d2, hgn]
        simp only [List.map_append, List.map_cons, List.map_nil, List.map_take, List.map_drop, List.append_assoc, List.cons_append, List.nil_append]
      · have z1 := sum_le (rowW_mem (N := k) hd2 (.inl d2))
        rw [rowW_len, firsts_len] at z1
        rw [rowW_len, firsts_len]
        have c : (" " : Str).length = 1 := rfl
        rw [c]
        omega
    rintro σ' H9 ⟨t9, rfl⟩
    have t79 := t8.trans t9
    have t69 := t7.trans t79
    have ra9 := ra7.same t79
    have hv9 := hv6.same t69
    have eha9 := t9 _ _ eha8
    obtain ⟨_, few2, dx, Tx, hx9, htx9⟩ := id ra9
    have ok := sm.ok
    have sh : Shw (longD a k P) 2 30000 := longD_shw (by omega) d12 (by rw [hgn]; omega)
    have shl : (longD a k P).shown.length ≤ sizeLine := sh.len (by decide)
    -- shown
    refine ⟨fun σ' H' => ∃ sl : Addr, H' sl = some (.lst [.int k, .int P, .int (a (k + P) - a k), .ref Tx, .str (rowT a k P), .bl true]) ∧ Same H9 H' ∧ σ' = [some (.ref p), some (.int P), some (.int low), some (.int gain), some (.int high), some (.ref sa), some (.ref ha), some (.ref ta), some (.ref l'), some (.int span'), some (.int step'), some (.ref x), some (.ref td), some (.ref wl), some (.str (rowT a k P)), some (.ref sl), none, none, none, none], ?_, ?_⟩
    · refine ⟨.ref x, rfl, x, dx, _, rfl, hx9, x, dx, _, _, rfl, hx9, rflds_start _ _ _ _, ?_⟩
      refine ⟨.ref x, rfl, x, dx, _, rfl, hx9, x, dx, _, _, rfl, hx9, rflds_period _ _ _ _, ?_⟩
      refine ⟨.ref x, rfl, x, dx, _, rfl, hx9, x, dx, _, _, rfl, hx9, rflds_step _ _ _ _, ?_⟩
      refine ⟨.ref x, rfl, x, dx, _, rfl, hx9, x, dx, _, _, rfl, hx9, rflds_numbers _ _ _ _, ?_⟩
      refine ⟨.ref x, rfl, x, dx, _, rfl, hx9, x, a, k, P, rfl, ra9, fun i hi => .inl (d1 i hi), .inl d2, fun B1 t1 => ⟨_, rfl, ?_⟩⟩
      refine ⟨.ref x, rfl, .ref ta, rfl, p, .ref ta, false, ns, P, gain, rfl, hv9.same t1, ok, fun y N' d' B2 cn' le' ny t2 rb => ?_⟩
      rw [hta] at cn' rb
      obtain ⟨rfl, rfl⟩ := can.uniq cn'
      have t12 := t1.trans t2
      refine ⟨x, dx, _, .ref C, rfl, t12 _ _ hx9, row_ty S RK.I rb, nfs, x, a, k, P, .ref y, rfl, ra9.same t12, .inr ⟨y, a, k, P, rfl, rb, fun r1 h1 => ⟨r1, rfl, ?_⟩⟩⟩
      cases h1.mpr fun _ => rfl
      refine ⟨szn 6, fun sl nsl => ?_⟩
      generalize hB3 : upd B2 sl _ = B3
      obtain ⟨t3, e3⟩ := alloc_eq nsl hB3
      exact ⟨sl, e3, t12.trans t3, rfl⟩
    rintro σ' H10 ⟨sl, esl, t10, rfl⟩
    have htx10 := sqt_same t10 htx9
    have htd10 := sqt_same (t79.trans t10) htd7
    -- if repr
    refine ⟨fun σ' H' => Same H10 H' ∧ σ' = [some (.ref p), some (.int P), some (.int low), some (.int gain), some (.int high), some (.ref sa), some (.ref ha), some (.ref ta), some (.ref l'), some (.int span'), some (.int step'), some (.ref x), some (.ref td), some (.ref wl), some (.str (rowT a k P)), some (.ref sl), none, none, none, none], ?_, ?_⟩
    · refine ⟨.ref sl, rfl, sl, longD a k P, rfl, .lst (.of esl) (.cons (.int _) (.cons (.int _) (.cons (.int _) (.cons (.tup htx10 (dpAll_ints _)) (.cons (.str _) (.cons (.bl _) .nil)))))), sh.lay, sh.sh, Nat.le_trans sh.dp (by decide), shl, ?_⟩
      refine ⟨.ref ha, rfl, .ref ha, _, rfl, .inl ⟨_, .of (t10 _ _ eha9), rfl⟩, .int P, rfl, .int gain, rfl, .ref td, rfl, .str _, rfl, szn 6, fun l2 n2 => ?_⟩
      rw [lhk]
      generalize hB3 : upd H10 l2 _ = B3
      obtain ⟨t3, e3⟩ := alloc_eq n2 hB3
      refine ⟨l2, longD a k P, rfl, .lst (.of e3) (.cons (.int _) (.cons (.int _) (.cons ?_ (.cons (.tup (sqt_same t3 htd10) (dpAll_ints _)) (.cons (.str _) (.cons (.bl _) .nil)))))), sh.lay, sh.sh, Nat.le_trans sh.dp (by decide), shl, rfl, _, rfl, ?_⟩
      · rw [hgn]
        exact .int _
      rw [decide_eq_true rfl]
      exact iteF ⟨t3, rfl⟩
    rintro σ' H11 ⟨t11, rfl⟩
    have t911 := t10.trans t11
    have ra11 := ra9.same t911
    have hv11 := hv9.same t911
    have k11 : But p H H11 := (k5.trans k6).trans (.same (t69.trans t911))
    have P11 : Pen H11 p c (n + 8 + P) := (P6.same t69).same t911
    have el11 := t911 _ _ (t69 _ _ el')
    have htd11 := sqt_same t11 htd10
    -- for n
    obtain ⟨px11, hp11⟩ := P11.at_
    have hx11 := t911 _ _ hx9
    have ldue : (((firsts a (k + P)).map V.int).length : Int) = ((k + P : Nat) : Int) := by rw [List.length_map, firsts_len]
    refine ⟨fun σ' H' => But p H11 H' ∧ Pen H' p c (n + 9 + P) ∧ ∃ o16 : Option V, σ' = [some (.ref p), some (.int P), some (.int low), some (.int gain), some (.int high), some (.ref sa), some (.ref ha), some (.ref ta), some (.ref l'), some (.int span'), some (.int step'), some (.ref x), some (.ref td), some (.ref wl), some (.str (rowT a k P)), some (.ref sl), o16, none, none, none], ?_, ?_⟩
    · refine ⟨.ref td, rfl, .ref td, _, rfl, .inr ⟨_, htd11, rfl⟩, .ref td, rfl, .ref td, _, rfl, .inr ⟨_, htd11, rfl⟩, _, _, rfl, rfl, .inl ⟨by decide, by decide⟩, _, _, rfl, rfl, 10, 20, rfl, rfl, ⟨by decide, by decide, by decide⟩, .ref p, rfl, 10, 6, rfl, rfl, ⟨by decide, by decide, by decide⟩, p, c, n + 8 + P, _, rfl, P11, by omega, by decide, by decide, fun d B1 a0 a1 kk1 Q1 => ?_⟩
      rw [ldue]
      refine ⟨_, _, rfl, rfl, szn 4, fun r2 n2 => ?_⟩
      generalize hB2 : upd B1 r2 _ = B2
      obtain ⟨t2, e2⟩ := alloc_eq n2 hB2
      have hd6 : d < 10 ^ 6 := a1
      have items : ∀ y ∈ ([.int 0, .int ((k + P : Nat) : Int), .int (2 * ((k + P : Nat) : Int) + 1), .int ((10 : Int) ^ (20 : Int).toNat + d)] : List V), ∃ m : Nat, y = .int (m : Int) ∧ m < 2 ^ 80 := by
        intro y hy
        simp only [List.mem_cons, List.not_mem_nil, or_false] at hy
        rcases hy with rfl | rfl | rfl | rfl
        · exact ⟨0, rfl, by decide⟩
        · exact ⟨k + P, rfl, by omega⟩
        · exact ⟨2 * (k + P) + 1, congrArg V.int (by omega), by omega⟩
        · refine ⟨10 ^ 20 + d.toNat, congrArg V.int ?_, ?_⟩
          · show (10 : Int) ^ 20 + d = _
            omega
          · omega
      generalize hxs : ([.int 0, .int ((k + P : Nat) : Int), .int (2 * ((k + P : Nat) : Int) + 1), .int ((10 : Int) ^ (20 : Int).toNat + d)] : List V) = xs at items
      have e3 : B2 r2 = some (.lst xs) := by
        rw [← hxs]
        exact e2
      refine ⟨r2, rfl, ⟨_, .of e3⟩, ?_⟩
      have kk2 : But p H11 B2 := kk1.trans (.same t2)
      have e80 : (2 : Nat) ^ 80 < 2 ^ 256 := by decide +kernel
      have e4 : (2 : Nat) ^ 256 < 2 ^ 400000 := Nat.pow_lt_pow_right (by decide) (by decide)
      have e12' : (2 : Nat) ^ 12 < 2 ^ 256 := by decide +kernel
      refine for_list (K := K) (a := r2) (xs := xs) (fun i σ H' => Same B2 H' ∧ ∃ o16 : Option V, σ = [some (.ref p), some (.int P), some (.int low), some (.int gain), some (.int high), some (.ref sa), some (.ref ha), some (.ref ta), some (.ref l'), some (.int span'), some (.int step'), some (.ref x), some (.ref td), some (.ref wl), some (.str (rowT a k P)), some (.ref sl), o16, none, none, none]) ⟨Same.refl _, none, rfl⟩ (fun i σ H' _ h => .of (h.1 _ _ e3)) ?_ ?_
      · rintro i y σ B4 hi ⟨t4, o16, rfl⟩
        obtain ⟨m, rfl, hm⟩ := items y (List.mem_of_getElem? hi)
        have k74 : But p H11 B4 := kk2.trans (.same t4)
        have am : (a m).natAbs.log2 < 1920 := by
          have z := tell_256 ok (n := m) (by omega)
          rw [hta] at z
          have := log2_b (k := 407) (by decide) z
          omega
        have ra4 := ra11.but k74 hp11
        obtain ⟨_, _, dx4, Tx4, hx4, _⟩ := id ra4
        refine ⟨.ref x, rfl, .int m, rfl, x, dx4, _, rfl, hx4, x, a, k, P, .int m, rfl, ra4, .inl ⟨m, rfl, by omega, by rw [hgn]; omega, fun B5 t5 => ⟨a m, rfl, am, ?_⟩⟩⟩
        refine ⟨.ref ta, rfl, .int m, rfl, p, .ref ta, ns, P, gain, m, rfl, (hv11.but k74).same t5, ok, by omega, ?_⟩
        rw [hta]
        refine ⟨a m, rfl, am, rfl, _, rfl, ?_⟩
        rw [decide_eq_true rfl]
        exact iteF ⟨t4.trans t5, _, rfl⟩
      · rintro σ B4 ⟨t4, o16, rfl⟩
        exact ⟨kk2.trans (.same t4), by rw [show n + 9 + P = n + 8 + P + 1 by omega]; exact (Q1.same t2).same t4, _, rfl⟩
    rintro σ' H12 ⟨k12, P12, o16, rfl⟩
    have ra12 := ra11.but k12 hp11
    have el12 := k12 _ _ lp' el11
    have ln' : ((ns'.map V.int).length : Int) = (ns'.length : Int) := by rw [List.length_map]
    obtain ⟨px12, hp12⟩ := P12.at_
    -- bent, at
    refine ⟨fun σ' H' => ∃ (b : Addr) (at_ : Nat), at_ < ns'.length ∧ H b = none ∧ b ≠ p ∧ b ≠ c ∧ b ≠ l' ∧ H' b = some (.lst (ns'.map V.int)) ∧ RowAt K C H' x a k P ∧ H' l' = some (.lst (ns'.map V.int)) ∧ But p H H' ∧ Pen H' p c (n + 10 + P) ∧ σ' = [some (.ref p), some (.int P), some (.int low), some (.int gain), some (.int high), some (.ref sa), some (.ref ha), some (.ref ta), some (.ref l'), some (.int span'), some (.int step'), some (.ref x), some (.ref td), some (.ref wl), some (.str (rowT a k P)), some (.ref sl), o16, some (.ref b), some (.int at_), none], ?_, ?_⟩
    · refine ⟨.ref l', rfl, l', _, rfl, .inl (.of el12), fun b nb => ?_⟩
      generalize hB1 : upd H12 b _ = B1
      obtain ⟨t3, e3⟩ := alloc_eq nb hB1
      have P3 := P12.same t3
      have bp := P12.newP nb
      refine ⟨.ref l', rfl, .ref l', _, rfl, .inl ⟨_, .of (t3 _ _ el12), rfl⟩, _, _, rfl, rfl, .ref p, rfl, .int span', rfl, p, c, n + 9 + P, span', rfl, P3, by omega, by omega, small_pow (by omega) (by omega), fun dd B2 a0 a1 kk3 P4 => ?_⟩
      rw [ln']
      obtain ⟨px3, hp3⟩ := P3.at_
      refine ⟨_, _, rfl, rfl, ?_⟩
      refine ⟨_, _, rfl, b, ns'.length - 1 - dd.toNat, by omega, (k11.trans k12).free bp nb, bp, P12.newC nb, fun z => (by rw [z, el12] at nb; cases nb), kk3 _ _ bp e3, (ra12.same t3).but kk3 hp3, kk3 _ _ lp' (t3 _ _ el12), ((k11.trans k12).trans (.same t3)).trans kk3, by rw [show n + 10 + P = n + 9 + P + 1 by omega]; exact P4, ?_⟩
      rw [← show (ns'.length : Int) - 1 - dd = ((ns'.length - 1 - dd.toNat : Nat) : Int) by omega]
      rfl
    rintro σ' H13 ⟨b, at_, hat, nb, bp, bc, bl, eb, ra13, el13, k13, P13, rfl⟩
    -- bent[at]
    refine ⟨fun σ' H' => H' b = some (.lst ((ns'.set at_ (ns'.getD at_ 0 + 1)).map V.int)) ∧ RowAt K C H' x a k P ∧ H' l' = some (.lst (ns'.map V.int)) ∧ But p H H' ∧ Pen H' p c (n + 10 + P) ∧ σ' = [some (.ref p), some (.int P), some (.int low), some (.int gain), some (.int high), some (.ref sa), some (.ref ha), some (.ref ta), some (.ref l'), some (.int span'), some (.int step'), some (.ref x), some (.ref td), some (.ref wl), some (.str (rowT a k P)), some (.ref sl), o16, some (.ref b), some (.int at_), none], ?_, ?_⟩
    · refine ⟨.ref b, rfl, .int at_, rfl, b, _, _, .int (ns'.getD at_ 0), rfl, rfl, .of eb, ints_at (by rw [List.getD_eq_getElem?_getD, List.getElem?_eq_getElem hat]; rfl), _, _, rfl, rfl, .ref b, rfl, .int at_, rfl, b, _, _, at_, rfl, rfl, eb, ?_, ?_⟩
      · unfold ixN
        rw [List.length_map, if_pos (by omega), if_pos (by omega)]
        rfl
      · refine ⟨?_, ra13.but .set eb, ?_, fun z ob n1 e1 => ?_, P13.mut bp bc, rfl⟩
        · rw [upd_same, List.map_set]
        · rw [upd_ne (fun z => bl z.symm)]
          exact el13
        · rw [upd_ne (ne_of_none e1 nb)]
          exact k13 z ob n1 e1
    clear eb ra13 el13 k13 P13
    rintro σ' H14 ⟨eb, ra14, el14, k14, P14, rfl⟩
    generalize hbn : ns'.set at_ (ns'.getD at_ 0 + 1) = bn at eb
    have lbn : bn.length = ns'.length := by rw [← hbn, List.length_set]
    -- return
    refine ⟨.ref x, rfl, .ref b, rfl, .int span', rfl, .int step', rfl, ?_⟩
    refine mk_row (o := .ok (bn, span', step')) (.ok ⟨b, rfl, .inl (.of eb)⟩ (by omega) rfl s1 (by omega) rfl) ?_
    refine rowEnd_few (K := K) (C := C) (by omega) fun N1 d1' cn1 le1 r1 B1 n1 t1 ra1 => ?_
    obtain ⟨_, _, dx1, Tx1, hx1, _⟩ := id (ra14.same t1)
    refine ⟨x, dx1, _, .ref C, rfl, hx1, row_ty S RK.I ra1, nfs, x, a, k, P, .ref r1, rfl, ra14.same t1, .inr ⟨r1, _, N1, d1', rfl, ra1, fun q1 h1 => ⟨q1, rfl, ?_⟩⟩⟩
    have eq1 : q1 = false := by
      cases q1 with
      | false => rfl
      | true =>
        refine absurd (h1.mp rfl) ?_
        rw [← ea, ← hbn]
        exact bent_ne hat
    rw [eq1]
    refine ⟨true, rfl, iteT ?_⟩
    refine ⟨.ref x, rfl, .ref l', rfl, .int span', rfl, .int step', rfl, _, _, rfl, rfl, ?_⟩
    refine mk_row (o := .ok (ns', span', step' + 1)) (.ok ⟨l', rfl, .inl (.of (t1 _ _ el14))⟩ (by omega) rfl s1 s2 rfl) ?_
    refine rowEnd_few (K := K) (C := C) (by omega) fun N2 d2' cn2 le2 r2 B2 n2 t2 ra2 => ?_
    have t12 := t1.trans t2
    obtain ⟨_, _, dx2, Tx2, hx2, _⟩ := id (ra14.same t12)
    refine ⟨x, dx2, _, .ref C, rfl, hx2, row_ty S RK.I ra2, nfs, x, a, k, P, .ref r2, rfl, ra14.same t12, .inr ⟨r2, _, N2, d2', rfl, ra2, fun q2 h2 => ⟨q2, rfl, ?_⟩⟩⟩
    have eq2 : q2 = false := by
      cases q2 with
      | false => rfl
      | true =>
        refine absurd (h2.mp rfl) ?_
        rw [← ea]
        exact step_ne (by omega)
    rw [eq2]
    exact ⟨false, rfl, q B2 _ (k14.trans (.same t12)) (P14.same t12)⟩
end
end LC
/-! LcLarge: the rows that fill the most that is allowed, and one more. -/
namespace LC
theorem getD_rep {m i : Nat} {x : Int} {r : List Int} (h : i < m) : (List.replicate m x ++ r).getD i 0 = x := by
  rw [List.getD_eq_getElem?_getD, List.getElem?_append_left (by rw [List.length_replicate]; exact h), List.getElem?_replicate_of_lt h]
  rfl
theorem getD_rest {m i : Nat} {x : Int} {r : List Int} : (List.replicate m x ++ r).getD (m + i) 0 = r.getD i 0 := by
  rw [List.getD_eq_getElem?_getD, List.getD_eq_getElem?_getD, List.getElem?_append_right (by rw [List.length_replicate]; omega), List.length_replicate, Nat.add_sub_cancel_left]
theorem whole_can {m : Nat} {low gain : Int} (hm : 2 ≤ m) : Can (tellAt (List.replicate m low ++ [low + 1]) (m + 1) gain) 0 (m + 1) := by
  have ln : (List.replicate m low ++ [low + 1]).length = m + 1 := by rw [List.length_append, List.length_replicate]; rfl
  have ev := tell_ev (some := List.replicate m low ++ [low + 1]) (span := m + 1) (step := gain) (by omega) (by omega)
  rw [ln, Nat.sub_self] at ev
  have a0 : ∀ i, i < m → tellAt (List.replicate m low ++ [low + 1]) (m + 1) gain i = low := fun i hi => by rw [tell_lt (by omega), getD_rep hi]
  have am : tellAt (List.replicate m low ++ [low + 1]) (m + 1) gain m = low + 1 := by
    rw [tell_lt (by omega)]
    exact getD_rest (i := 0)
  generalize tellAt (List.replicate m low ++ [low + 1]) (m + 1) gain = a at ev a0 am
  refine ⟨by omega, ev.rise, fun M f _ _ => Nat.zero_le _, fun M f hf g => ?_⟩
  refine Nat.le_of_not_lt fun l => ?_
  have e := ev.rise.down (by omega) g
  have r1 : rise a (m - 1) = 1 := by
    unfold rise
    rw [show m - 1 + 1 = m by omega, am, a0 (m - 1) (by omega)]
    omega
  by_cases f1 : f = 1
  · have e1 := e (m - 2) (by omega)
    rw [f1, show m - 2 + 1 = m - 1 by omega, r1] at e1
    unfold rise at e1
    rw [show m - 2 + 1 = m - 1 by omega, a0 (m - 1) (by omega), a0 (m - 2) (by omega)] at e1
    omega
  · have e1 := e (m - 1) (by omega)
    have e2 := ev.rise (f - 2) (by omega)
    rw [show m - 1 + f = f - 2 + (m + 1) by omega, e2, r1] at e1
    unfold rise at e1
    rw [a0 (f - 2) (by omega), a0 (f - 2 + 1) (by omega)] at e1
    omega
theorem whole_all {m : Nat} {low gain : Int} (hm : 2 ≤ m) {N d : Nat} (h : Can (tellAt (List.replicate m low ++ [low + 1]) (m + 1) gain) N d) : N = 0 ∧ d = m + 1 := h.uniq (whole_can hm)
theorem late_can {m : Nat} {low : Int} : Can (tellAt (List.replicate m low ++ [low + 5, low]) 1 0) (m + 1) 1 := by
  have ln : (List.replicate m low ++ [low + 5, low]).length = m + 2 := by rw [List.length_append, List.length_replicate]; rfl
  have ev := tell_ev (some := List.replicate m low ++ [low + 5, low]) (span := 1) (step := 0) (by omega) (by omega)
  rw [ln, show m + 2 - 1 = m + 1 by omega] at ev
  have am : tellAt (List.replicate m low ++ [low + 5, low]) 1 0 m = low + 5 := by
    rw [tell_lt (by omega)]
    exact getD_rest (i := 0)
  have am1 : tellAt (List.replicate m low ++ [low + 5, low]) 1 0 (m + 1) = low := by
    rw [tell_lt (by omega)]
    exact getD_rest (i := 1)
  generalize tellAt (List.replicate m low ++ [low + 5, low]) 1 0 = a at ev am am1
  refine ⟨by omega, ev.rise, fun M f hf g => ?_, fun M f hf g => hf⟩
  refine Nat.le_of_not_lt fun l => ?_
  have e1 := g m (by omega)
  have flat : ∀ n, m + 1 ≤ n → a (n + 1) = a n := fun n hn => by
    have := ev n hn
    omega
  unfold rise at e1
  rw [am, am1, flat (m + f) (by omega)] at e1
  omega
theorem late_all {m : Nat} {low : Int} {N d : Nat} (h : Can (tellAt (List.replicate m low ++ [low + 5, low]) 1 0) N d) : N = m + 1 ∧ d = 1 := h.uniq late_can
def evens (low gain : Int) (m : Nat) : List Int := (List.range m).map fun k : Nat => low + (k : Int) * gain
theorem even_at {m : Nat} {low gain : Int} (hm : 1 ≤ m) : ∀ n, tellAt (evens low gain m) 1 gain n = low + (n : Int) * gain := by
  have ln : (evens low gain m).length = m := by unfold evens; rw [List.length_map, List.length_range]
  intro n
  by_cases h : n < m
  · rw [tell_lt (by omega), List.getD_eq_getElem?_getD]
    unfold evens
    rw [List.getElem?_map, List.getElem?_range h]
    rfl
  · rw [tell_ge (by omega), ln, Nat.mod_one, Nat.div_one, List.getD_eq_getElem?_getD]
    unfold evens
    rw [List.getElem?_map, List.getElem?_range (by omega)]
    show low + ((m - 1 + 0 : Nat) : Int) * gain + ((n - m + 1 : Nat) : Int) * gain = _
    rw [Int.add_assoc, ← Int.add_mul]
    congr 2
    omega
theorem even_can {m : Nat} {low gain : Int} (hm : 1 ≤ m) : Can (tellAt (evens low gain m) 1 gain) 0 1 := by
  have e : tellAt (evens low gain m) 1 gain = fun n : Nat => low + (n : Int) * gain := funext (even_at hm)
  rw [e]
  refine ⟨by omega, fun n _ => ?_, fun _ _ _ _ => Nat.zero_le _, fun _ _ h _ => h⟩
  unfold rise
  dsimp only
  have z : ∀ k : Nat, ((k + 1 : Nat) : Int) * gain = (k : Int) * gain + gain := fun k => by rw [Int.natCast_succ, Int.add_mul, Int.one_mul]
  have z1 := z (n + 1)
  have z2 := z n
  rw [show n + 1 + 1 = n + 1 + 1 from rfl] at z1
  omega
theorem even_all {m : Nat} {low gain : Int} (hm : 1 ≤ m) {N d : Nat} (h : Can (tellAt (evens low gain m) 1 gain) N d) : N = 0 ∧ d = 1 := h.uniq (even_can hm)
end LC
namespace LC
open PySem PySem.Spec PyProof.Rows L2 TL LamX
theorem nle {a b : Nat} (h : Nat.ble a b = true) : a ≤ b := Nat.le_of_ble_eq_true h
theorem flat_rep {m : Nat} {x : V} : (List.replicate m [x]).flatten = List.replicate m x := by
  induction m with
  | zero => rfl
  | succ m ih =>
    rw [List.replicate_succ, List.replicate_succ, List.flatten_cons, ih]
    rfl
/-- [low] * k + te -/
theorem rd_rep {σ : L2.St} {H : Hp} {Q : VK} {i k : Nat} {z low : Int} {te : TE} {zs : List V} (hlow : σ[i]? = some (some (.int low))) (hz : z = (k : Int)) (hk : k ≤ 3000) (hzs : zs.length ≤ 3)
    (ht : ∀ (H1 : Hp) (R : VK), Same H H1 → (∀ b H2, Same H1 H2 → H2 b = some (.lst zs) → R (.ref b) H2) → te σ H1 R)
    (q : ∀ b H2, Same H H2 → H2 b = some (.lst (List.replicate k (V.int low) ++ zs)) → Q (.ref b) H2) :
    tOp rCat (tOp rRep (tLst (tCons (tVar i) tNil)) (tC (.int z))) te σ H Q := by
  refine ⟨.int low, hlow, szn 1, fun a1 n1 => ?_⟩
  generalize hB1 : upd H a1 _ = B1
  obtain ⟨t1, e1⟩ := alloc_eq n1 hB1
  refine ⟨a1, z, _, rfl, rfl, e1, by omega, by omega, sz_le (by rw [hz, Int.toNat_natCast]; show 1 * k ≤ 100000; omega), fun a2 n2 => ?_⟩
  rw [hz, Int.toNat_natCast, flat_rep]
  generalize hB2 : upd B1 a2 _ = B2
  obtain ⟨t2, e2⟩ := alloc_eq n2 hB2
  refine ht B2 _ (t1.trans t2) fun b H3 t3 e3 => ?_
  refine ⟨a2, b, _, _, rfl, rfl, t3 _ _ e2, e3, sz_le (by rw [List.length_replicate]; omega), fun a4 n4 => ?_⟩
  generalize hB4 : upd H3 a4 _ = B4
  obtain ⟨t4, e4⟩ := alloc_eq n4 hB4
  exact q a4 B4 (((t1.trans t2).trans t3).trans t4) e4
theorem rd_one {σ : L2.St} {H : Hp} {R : VK} {i : Nat} {low j : Int} (hlow : σ[i]? = some (some (.int low))) (q : ∀ b H2, Same H H2 → H2 b = some (.lst [.int (low + j)]) → R (.ref b) H2) : (tLst (tCons (tOp (rI0 fun i j => .int (i + j)) (tVar i) (tC (.int j))) tNil)) σ H R := by
  refine ⟨.int low, hlow, _, _, rfl, rfl, szn 1, fun a1 n1 => ?_⟩
  generalize hB1 : upd H a1 _ = B1
  obtain ⟨t1, e1⟩ := alloc_eq n1 hB1
  exact q a1 B1 t1 e1
theorem rd_two {σ : L2.St} {H : Hp} {R : VK} {i : Nat} {low j : Int} (hlow : σ[i]? = some (some (.int low))) (q : ∀ b H2, Same H H2 → H2 b = some (.lst [.int (low + j), .int low]) → R (.ref b) H2) : (tLst (tCons (tOp (rI0 fun i j => .int (i + j)) (tVar i) (tC (.int j))) (tCons (tVar i) tNil))) σ H R := by
  refine ⟨.int low, hlow, _, _, rfl, rfl, .int low, hlow, szn 2, fun a1 n1 => ?_⟩
  generalize hB1 : upd H a1 _ = B1
  obtain ⟨t1, e1⟩ := alloc_eq n1 hB1
  exact q a1 B1 t1 e1
theorem rd_non {σ : L2.St} {H : Hp} {R : VK} {i : Nat} {low : Int} (hlow : σ[i]? = some (some (.int low))) (q : ∀ b H2, Same H H2 → H2 b = some (.lst [.non, .int low]) → R (.ref b) H2) : (tLst (tCons (tC .non) (tCons (tVar i) tNil))) σ H R := by
  refine ⟨.int low, hlow, szn 2, fun a1 n1 => ?_⟩
  generalize hB1 : upd H a1 _ = B1
  obtain ⟨t1, e1⟩ := alloc_eq n1 hB1
  exact q a1 B1 t1 e1
theorem rep_map {k : Nat} {low : Int} {r : List Int} : (List.replicate k low ++ r).map V.int = List.replicate k (V.int low) ++ r.map V.int := by rw [List.map_append, List.map_replicate]
theorem rep_len {k : Nat} {low : Int} {r : List Int} : (List.replicate k low ++ r).length = k + r.length := by rw [List.length_append, List.length_replicate]
theorem rep_arg {K : PySem.W.Frag} {H : Hp} {b : Addr} {k p : Nat} {low gain : Int} {r : List Int} {zs : List V} (e : H b = some (.lst (List.replicate k (V.int low) ++ zs))) (hz : zs = r.map V.int) (h1 : k + r.length ≤ 5000) (h2 : 1 ≤ p) (h3 : p ≤ k + r.length) : RowArg K H (.ref b) (.int p) (.int gain) (.ok (List.replicate k low ++ r, p, gain)) :=
  .ok ⟨b, rfl, .inl (.of (by rw [rep_map, ← hz]; exact e))⟩ (by rw [rep_len]; exact h1) rfl h2 (by rw [rep_len]; exact h3) rfl
/-- what the large rows show -/
def largeD (low z : Int) : PyData := .list [.int 0, .int 2000, .int 1999, .int 1, .int 0, .int 1, .tuple [.int low], .int z]
theorem largeD_shw {low z : Int} (h1 : low.natAbs < 2 ^ 80) (h2 : z.natAbs < 2 ^ 80) : Shw (largeD low z) 2 5000 := by
  have i : ∀ {z : Int}, z.natAbs < 2 ^ 80 → Shw (.int z) 0 81 := fun h => Shw.intB (k := 80) (by decide) (by decide) h
  exact (Shw.lst (ShwL.cons (i (by decide)) (ShwL.cons (i (by decide)) (ShwL.cons (i (by decide)) (ShwL.cons (i (by decide)) (ShwL.cons (i (by decide)) (ShwL.cons (i (by decide)) (ShwL.cons (Shw.tup (ShwL.cons (i h1) ShwL.nil)) (ShwL.cons (i h2) ShwL.nil))))))))).mono (by decide) (by decide)
def spLargeRight (Tb : List (Addr × Str)) : Sp := fun vs H Q _ => ∃ (p c : Addr) (n : Nat), vs = [.ref p] ∧ Pen H p c n ∧ n ≤ 80000 ∧ Tabs Tb H ∧ ∀ H', ButT p H H' → Tabs Tb H' → Pen H' p c (n + 2) → Q (.bl true) H'
section
variable {P : Program} {w : World} {K : PySem.W.Frag} {mg : Str → Option Value} {base : Heap}
abbrev s_large_right : Stmt := topS 39
theorem sc_large_right : FnScope ["pen", "low", "gain", "whole", "late", "even", "told", "heard", "k"] ["pen"] (defScope s_large_right) := ⟨rfl, rfl, rfl, by decide +kernel, rfl, by decide +kernel, by decide +kernel⟩
theorem ok_large_right {f C CB CM cd Pt : Addr} {fd : FuncData} {Tb : List (Addr × Str)} (T : Txt mg) (SY : SysD K) (RK : RowKit P w K mg base C CB CM) (D : HeardD P w K mg CB CM) (F : FnP K "_law_large_right" s_large_right f fd) (hcd : fd.code = .ref cd) (Mk : Mkr K mg base Tb cd Pt "_law_large_right.<locals>.<lambda>")
    (c__law_draw : Cal P w K mg base CX0 8 "_law_draw" ["pen", "many"] spDraw) : GOk P w K mg base CX0 9 f fd ["pen"] (spLargeRight Tb) := by
  have sc := sc_large_right
  have S := RK.S
  obtain ⟨pS, gS, fdS, PS, FS, BS⟩ := RK.start
  obtain ⟨pP, gP, fdP, PP, FP, BP⟩ := RK.period
  obtain ⟨pN, gN, fdN, PN, FN, BN⟩ := RK.numbers
  obtain ⟨fG, fdG, OG, FG, BG⟩ := RK.get
  obtain ⟨fI, fdI, M, FI, BI, _⟩ := RK.mkr
  refine g_ofC F hcd sc (fun vs H Q E h => ?_) (fun A outer s H vs Q E hg hr h => ?_)
  · obtain ⟨p, c, n, rfl, _⟩ := h
    rfl
  · obtain ⟨p, c, n, rfl, hP, hn, hT, q⟩ := h
    refine ⟨_, PSs.nox (Evl.pss_cut (ps_asg (pe_tup (pa_cons (pe_op op_sub (pe_cal c__law_draw hr (by rfl) pass0 (pa_cons (pv 0) (pa_cons pe_int pa_nil))) pe_int) (pa_cons (pe_op op_sub (pe_cal c__law_draw hr (by rfl) pass0 (pa_cons (pv 0) (pa_cons pe_int pa_nil))) pe_int) pa_nil))) (pg_tup rfl (pgs_cons (pg_name (i := 1) sc.nd rfl (.inr rfl)) (pgs_cons (pg_name (i := 2) sc.nd rfl (.inr rfl)) pgs_nil))))
(Evl.pss_cut (ps_set (i := 3) sc.nd rfl (.inl rfl) (pe_make M FI (hr.mono (by decide)) (by rfl) RK.S.g_Row BI .nil passL (pa_cons (pe_op op_cat (pe_op op_rep (pe_lst (pa_cons (pv 1) pa_nil)) pe_int) (pe_lst (pa_cons (pe_op op_add (pv 1) pe_int) pa_nil))) (pa_cons pe_int (pa_cons (pv 2) pa_nil)))))
(Evl.pss_cut (ps_set (i := 4) sc.nd rfl (.inl rfl) (pe_make M FI (hr.mono (by decide)) (by rfl) RK.S.g_Row BI .nil passL (pa_cons (pe_op op_cat (pe_op op_rep (pe_lst (pa_cons (pv 1) pa_nil)) pe_int) (pe_lst (pa_cons (pe_op op_add (pv 1) pe_int) (pa_cons (pv 1) pa_nil)))) (pa_cons pe_int (pa_cons pe_int pa_nil)))))
(Evl.pss_cut (ps_set (i := 5) sc.nd rfl (.inl rfl) (pe_make M FI (hr.mono (by decide)) (by rfl) RK.S.g_Row BI .nil passL (pa_cons (pe_lc (own := [("k", 8)]) (g := (gName 8)) (te := (tOp (rI0 fun i j => .int (i + j)) (tVar 1) (tOp (rI CMul fun i j => .int (i * j)) (tVar 8) (tVar 2)))) (tt := tYes) rfl sc.nd (pi_range1 rfl T.n_range (pa_cons pe_int pa_nil)) (blkOk_by (N := ["pen", "low", "gain", "whole", "late", "even", "told", "heard", "k"]) (sc := defScope s_large_right) (by decide +kernel)) (fun _ _ _ _ _ => by exact (pg_name (i := 8) sc.nd rfl (.inl rfl))) (fun _ _ _ _ _ => by exact pts_nil) (fun _ _ _ _ _ => by exact (pe_op op_add (pv 1) (pe_op op_mul (pv 8) (pv 2))))) (pa_cons pe_int (pa_cons (pv 2) pa_nil)))))
(Evl.pss_cut (ps_set (i := 6) sc.nd rfl (.inl rfl) (pe_lst (pa_cons (pe_prop (pv 3) S.cl PS FS (hr.mono (by decide)) BS .nil pass0 (by rfl)) (pa_cons (pe_prop (pv 3) S.cl PP FP (hr.mono (by decide)) BP .nil pass0 (by rfl)) (pa_cons (pe_prop (pv 4) S.cl PS FS (hr.mono (by decide)) BS .nil pass0 (by rfl)) (pa_cons (pe_prop (pv 4) S.cl PP FP (hr.mono (by decide)) BP .nil pass0 (by rfl)) (pa_cons (pe_prop (pv 5) S.cl PS FS (hr.mono (by decide)) BS .nil pass0 (by rfl)) (pa_cons (pe_prop (pv 5) S.cl PP FP (hr.mono (by decide)) BP .nil pass0 (by rfl)) (pa_cons (pe_prop (pv 5) S.cl PN FN (hr.mono (by decide)) BN .nil pass0 (by rfl)) (pa_cons (pe_ixO OG FG BG (hr.mono (by decide)) passL (pv 5) (pe_op op_pow pe_int pe_int)) pa_nil))))))))))
(Evl.pss_cut (ps_if (pt_cmpR op_ne (pe_callB (call_reprD hg hr.units) (by rfl) T.n_repr (by decide +kernel) (pa_cons (pv 6) pa_nil)) (pe_callB (call_reprD hg hr.units) (by rfl) T.n_repr (by decide +kernel) (pa_cons (pe_lst (pa_cons pe_int (pa_cons pe_int (pa_cons pe_int (pa_cons pe_int (pa_cons pe_int (pa_cons pe_int (pa_cons (pe_tup (pa_cons (pv 1) pa_nil)) (pa_cons (pe_op op_add (pv 1) (pe_op op_mul (pe_op op_pow pe_int pe_int) (pv 2))) pa_nil))))))))) pa_nil)) (nomark _))
  (pss_one (ps_ret pe_bl))
  pss_nil)
(Evl.pss_cut (ps_set (i := 7) sc.nd rfl (.inl rfl) (pe_lst (pa_cons (pe_heard (t := fun E => tMake C (spRowInit K C CB CM) [] E (tCons (tOp rCat (tOp rRep (tLst (tCons (tVar 1) tNil)) (tC (.int 2000))) (tLst (tCons (tOp (rI0 fun i j => .int (i + j)) (tVar 1) (tC (.int 1))) tNil))) (tCons (tC (.int 2001)) (tCons (tVar 2) tNil)))) T D Mk (by rfl) rfl hr (lamS_by (sc := defScope s_large_right) (by decide +kernel)) rfl (fun _ _ _ _ _ => rfl) (fun _ _ _ _ _ _ _ hr2 => by exact (pe_make M FI (hr2.mono (by decide)) (by rfl) RK.S.g_Row BI .nil (passes_call (takes_of rfl rfl rfl rfl) fun _ _ _ _ h => h) (pa_cons (pe_op op_cat (pe_op op_rep (pe_lst (pa_cons (pv 1) pa_nil)) pe_int) (pe_lst (pa_cons (pe_op op_add (pv 1) pe_int) pa_nil))) (pa_cons pe_int (pa_cons (pv 2) pa_nil)))))) pa_nil)))
(Evl.pss_cut (ps_expr (pe_bm PySem.F.plainAttrs_list PySem.F.slot_list_append PySem.F.type_list_append mt_append (pv 7) (pa_cons (pe_heard (t := fun E => tMake C (spRowInit K C CB CM) [] E (tCons (tOp rCat (tOp rRep (tLst (tCons (tVar 1) tNil)) (tC (.int 1999))) (tLst (tCons (tOp (rI0 fun i j => .int (i + j)) (tVar 1) (tC (.int 5))) (tCons (tVar 1) tNil)))) (tCons (tC (.int 1)) (tCons (tC (.int 0)) tNil)))) T D Mk (by rfl) rfl hr (lamS_by (sc := defScope s_large_right) (by decide +kernel)) rfl (fun _ _ _ _ _ => rfl) (fun _ _ _ _ _ _ _ hr2 => by exact (pe_make M FI (hr2.mono (by decide)) (by rfl) RK.S.g_Row BI .nil (passes_call (takes_of rfl rfl rfl rfl) fun _ _ _ _ h => h) (pa_cons (pe_op op_cat (pe_op op_rep (pe_lst (pa_cons (pv 1) pa_nil)) pe_int) (pe_lst (pa_cons (pe_op op_add (pv 1) pe_int) (pa_cons (pv 1) pa_nil)))) (pa_cons pe_int (pa_cons pe_int pa_nil)))))) pa_nil)))
(Evl.pss_cut (ps_expr (pe_bm PySem.F.plainAttrs_list PySem.F.slot_list_append PySem.F.type_list_append mt_append (pv 7) (pa_cons (pe_heard (t := fun E => tMake C (spRowInit K C CB CM) [] E (tCons (tOp rCat (tOp rRep (tLst (tCons (tVar 1) tNil)) (tC (.int 2000))) (tLst (tCons (tC .non) (tCons (tVar 1) tNil)))) (tCons (tC (.int 3)) (tCons (tVar 2) tNil)))) T D Mk (by rfl) rfl hr (lamS_by (sc := defScope s_large_right) (by decide +kernel)) rfl (fun _ _ _ _ _ => rfl) (fun _ _ _ _ _ _ _ hr2 => by exact (pe_make M FI (hr2.mono (by decide)) (by rfl) RK.S.g_Row BI .nil (passes_call (takes_of rfl rfl rfl rfl) fun _ _ _ _ h => h) (pa_cons (pe_op op_cat (pe_op op_rep (pe_lst (pa_cons (pv 1) pa_nil)) pe_int) (pe_lst (pa_cons pe_non (pa_cons (pv 1) pa_nil)))) (pa_cons pe_int (pa_cons (pv 2) pa_nil)))))) pa_nil)))
(pss_one (ps_ret (pe_cmpR op_eq (pe_callB (call_reprX SY hg hr.units) (by rfl) T.n_repr (by decide +kernel) (pa_cons (pv 7) pa_nil)) (pe_callB (call_reprX SY hg hr.units) (by rfl) T.n_repr (by decide +kernel) (pa_cons (pe_lst (pa_cons (pe_tup (pa_cons pe_str (pa_cons pe_int pa_nil))) (pa_cons (pe_tup (pa_cons pe_str (pa_cons pe_int pa_nil))) (pa_cons (pe_tup (pa_cons pe_str (pa_cons pe_non pa_nil))) pa_nil)))) pa_nil)) (nomark _))))))))))))), ?_⟩
    obtain ⟨px, hp0⟩ := hP.at_
    -- low, gain
    refine ⟨fun σ' H' => ∃ low gain : Int, -50 ≤ low ∧ low ≤ 48 ∧ -4 ≤ gain ∧ gain ≤ 4 ∧ But p H H' ∧ Pen H' p c (n + 2) ∧ σ' = [some (.ref p), some (.int low), some (.int gain), none, none, none, none, none, none], ?_, ?_⟩
    · refine ⟨.ref p, rfl, p, c, n, 99, rfl, hP, by omega, by decide, by decide, fun d1 B1 a0 a1 kk1 Q1 => ?_⟩
      refine ⟨_, _, rfl, rfl, .ref p, rfl, p, c, n + 1, 9, rfl, Q1, by omega, by decide, by decide, fun d2 B2 b0 b1 kk2 Q2 => ?_⟩
      refine ⟨_, _, rfl, rfl, szn 2, fun tt ntt => ?_⟩
      generalize hB4 : upd B2 tt _ = B4
      obtain ⟨t4, e4⟩ := alloc_eq ntt hB4
      exact ⟨tt, _, rfl, .of e4, rfl, _, _, rfl, _, _, rfl, rfl, d1 - 50, d2 - 4, by omega, by omega, by omega, by omega, (kk1.trans kk2).trans (.same t4), Q2.same t4, rfl⟩
    rintro σ' H1 ⟨low, gain, l1, l2, g1, g2, k1, P1, rfl⟩
    -- whole
    refine ⟨fun σ' H' => ∃ x1 : Addr, RowAt K C H' x1 (tellAt (List.replicate 1999 low ++ [low + 1]) 2000 gain) 0 2000 ∧ Same H1 H' ∧ σ' = [some (.ref p), some (.int low), some (.int gain), some (.ref x1), none, none, none, none, none], ?_, ?_⟩
    · refine rd_rep (k := 1999) (zs := [.int (low + 1)]) rfl rfl (by decide) (nle rfl) (fun B1 R t1 q1 => rd_one rfl q1) fun b B2 t2 e2 => ?_
      refine ⟨.int gain, rfl, ?_⟩
      refine mk_row (o := .ok (List.replicate 1999 low ++ [low + 1], 2000, gain)) (rep_arg e2 rfl (nle rfl) (by decide) (nle rfl)) ?_
      refine rowEnd_few (K := K) (C := C) (by rw [rep_len]; exact nle rfl) fun N1 d1 cn1 le1 x1 B3 n1 t3 ra => ?_
      obtain ⟨rfl, rfl⟩ : N1 = 0 ∧ d1 = 2000 := whole_all (m := 1999) (by decide) cn1
      exact ⟨x1, ra, t2.trans t3, rfl⟩
    rintro σ' H2 ⟨x1, ra2, t2, rfl⟩
    -- late
    refine ⟨fun σ' H' => ∃ x2 : Addr, RowAt K C H' x2 (tellAt (List.replicate 1998 low ++ [low + 5, low]) 1 0) 1999 1 ∧ Same H2 H' ∧ σ' = [some (.ref p), some (.int low), some (.int gain), some (.ref x1), some (.ref x2), none, none, none, none], ?_, ?_⟩
    · refine rd_rep (k := 1998) (zs := [.int (low + 5), .int low]) rfl rfl (by decide) (nle rfl) (fun B1 R t1 q1 => rd_two rfl q1) fun b B2 t2 e2 => ?_
      refine mk_row (o := .ok (List.replicate 1998 low ++ [low + 5, low], 1, 0)) (rep_arg e2 rfl (nle rfl) (by decide) (nle rfl)) ?_
      refine rowEnd_few (K := K) (C := C) (by rw [rep_len]; exact nle rfl) fun N1 d1 cn1 le1 x1 B3 n1 t3 ra => ?_
      obtain ⟨rfl, rfl⟩ : N1 = 1999 ∧ d1 = 1 := late_all (m := 1998) cn1
      exact ⟨x1, ra, t2.trans t3, rfl⟩
    rintro σ' H3 ⟨x2, rb3, t3, rfl⟩
    -- even
    refine ⟨fun σ' H' => ∃ x3 : Addr, RowAt K C H' x3 (tellAt (evens low gain 2900) 1 gain) 0 1 ∧ Same H3 H' ∧ σ' = [some (.ref p), some (.int low), some (.int gain), some (.ref x1), some (.ref x2), some (.ref x3), none, none, none], ?_, ?_⟩
    · refine ⟨2900, rfl, by decide, by decide, fun D nD => ?_⟩
      rw [show (2900 : Int).toNat = 2900 from rfl]
      refine lc_range (lo := 0) (n := 2900) (fun i H' => Same H3 H' ∧ H' D = some (.lst ((evens low gain i).map V.int))) ⟨same_new nD, upd_same⟩ ?_ ?_
      · rintro i B2 hi ⟨t2, hD⟩
        rw [show (0 : Int) + (i : Int) = ((i : Nat) : Int) by omega]
        refine ⟨rfl, tyes_of ?_⟩
        refine ⟨.int low, rfl, .int i, rfl, .int gain, rfl, _, _, rfl, rfl, .inl ⟨by omega, by omega⟩, _, _, rfl, rfl, _, hD, ?_, fun z ob e2 => ?_, ?_⟩
        · unfold evens
          rw [List.length_map, List.length_map, List.length_range]
          exact sz_lt (by omega)
        · rw [upd_ne (ne_of_none e2 nD)]
          exact t2 _ _ e2
        · rw [upd_same]
          unfold evens
          rw [List.range_succ, List.map_append, List.map_append]
          rfl
      · rintro B2 ⟨t2, hD⟩
        have le : (evens low gain 2900).length = 2900 := by unfold evens; rw [List.length_map, List.length_range]
        refine ⟨.int gain, rfl, ?_⟩
        refine mk_row (o := .ok (evens low gain 2900, 1, gain)) (.ok ⟨D, rfl, .inl (.of hD)⟩ (by rw [le]; decide) rfl (by decide) (by rw [le]; decide) rfl) ?_
        intro N1 d1 cn1 le1
        obtain ⟨rfl, rfl⟩ : N1 = 0 ∧ d1 = 1 := even_all (m := 2900) (by decide) cn1
        exact ⟨fun _ x1 B3 n1 t3 ra => ⟨x1, ra, t2.trans t3, rfl⟩, fun z => absurd z (by decide)⟩
    rintro σ' H4 ⟨x3, rc4, t4, rfl⟩
    have e3 := even_at (low := low) (gain := gain) (m := 2900) (by decide)
    generalize tellAt (evens low gain 2900) 1 gain = a3 at rc4 e3
    have ra4 := ra2.same (t3.trans t4)
    have rb4 := rb3.same t4
    obtain ⟨_, _, dx1, T1, hx1, _⟩ := id ra4
    obtain ⟨_, _, dx2, T2, hx2, _⟩ := id rb4
    obtain ⟨_, _, dx3, T3, hx3, ht3⟩ := id rc4
    have z20 : (10 : Int) ^ (20 : Int).toNat = ((10 ^ 20 : Nat) : Int) := by decide
    have f3 : firsts a3 (0 + 1) = [low] := by
      show [a3 0] = [low]
      rw [e3 0]
      simp
    rw [f3] at ht3
    have big : (a3 (10 ^ 20)).natAbs < 2 ^ 80 := by
      rw [e3]
      omega
    have sh : Shw (largeD low (a3 (10 ^ 20))) 2 5000 := largeD_shw (by omega) big
    have shl : (largeD low (a3 (10 ^ 20))).shown.length ≤ sizeLine := sh.len (by decide)
    -- told
    refine ⟨fun σ' H' => ∃ tl : Addr, H' tl = some (.lst [.int 0, .int 2000, .int 1999, .int 1, .int 0, .int 1, .ref T3, .int (a3 (10 ^ 20))]) ∧ Same H4 H' ∧ σ' = [some (.ref p), some (.int low), some (.int gain), some (.ref x1), some (.ref x2), some (.ref x3), some (.ref tl), none, none], ?_, ?_⟩
    · refine ⟨.ref x1, rfl, x1, dx1, _, rfl, hx1, x1, dx1, _, _, rfl, hx1, rflds_start _ _ _ _, ?_⟩
      refine ⟨.ref x1, rfl, x1, dx1, _, rfl, hx1, x1, dx1, _, _, rfl, hx1, rflds_period _ _ _ _, ?_⟩
      refine ⟨.ref x2, rfl, x2, dx2, _, rfl, hx2, x2, dx2, _, _, rfl, hx2, rflds_start _ _ _ _, ?_⟩
      refine ⟨.ref x2, rfl, x2, dx2, _, rfl, hx2, x2, dx2, _, _, rfl, hx2, rflds_period _ _ _ _, ?_⟩
      refine ⟨.ref x3, rfl, x3, dx3, _, rfl, hx3, x3, dx3, _, _, rfl, hx3, rflds_start _ _ _ _, ?_⟩
      refine ⟨.ref x3, rfl, x3, dx3, _, rfl, hx3, x3, dx3, _, _, rfl, hx3, rflds_period _ _ _ _, ?_⟩
      refine ⟨.ref x3, rfl, x3, dx3, _, rfl, hx3, x3, dx3, _, _, rfl, hx3, rflds_numbers _ _ _ _, ?_⟩
      have e80 : (10 : Nat) ^ 20 < 2 ^ 80 := by decide +kernel
      have e400 : (2 : Nat) ^ 80 < 2 ^ 400000 := Nat.pow_lt_pow_right (by decide) (by decide)
      have st : (a3 (0 + 1) - a3 0).natAbs < 2 ^ 80 := by
        rw [e3, e3]
        omega
      refine ⟨.ref x3, rfl, 10, 20, rfl, rfl, ⟨by decide, by decide, by decide⟩, x3, dx3, _, rfl, hx3, x3, a3, 0, 1, _, rfl, rc4, .inl ⟨10 ^ 20, congrArg V.int z20, by omega, by omega, fun B1 t1 => ?_⟩⟩
      refine ⟨szn 8, fun tl ntl => ?_⟩
      generalize hB3 : upd B1 tl _ = B3
      obtain ⟨t3', e3'⟩ := alloc_eq ntl hB3
      exact ⟨tl, e3', t1.trans t3', rfl⟩
    rintro σ' H5 ⟨tl, etl, t5, rfl⟩
    have ht5 := sqt_same t5 ht3
    -- if repr
    refine ⟨fun σ' H' => Same H5 H' ∧ σ' = [some (.ref p), some (.int low), some (.int gain), some (.ref x1), some (.ref x2), some (.ref x3), some (.ref tl), none, none], ?_, ?_⟩
    · refine ⟨.ref tl, rfl, tl, largeD low (a3 (10 ^ 20)), rfl, .lst (.of etl) (.cons (.int _) (.cons (.int _) (.cons (.int _) (.cons (.int _) (.cons (.int _) (.cons (.int _) (.cons (.tup ht5 (.cons (.int _) .nil)) (.cons (.int _) .nil)))))))), sh.lay, sh.sh, Nat.le_trans sh.dp (by decide), shl, ?_⟩
      refine ⟨.int low, rfl, szn 1, fun l1 nl1 => ?_⟩
      generalize hB1 : upd H5 l1 _ = B1
      obtain ⟨w1, u1⟩ := alloc_eq nl1 hB1
      refine ⟨.int low, rfl, 10, 20, rfl, rfl, ⟨by decide, by decide, by decide⟩, .int gain, rfl, _, _, rfl, rfl, .inr ⟨by omega, by omega⟩, _, _, rfl, rfl, szn 8, fun l2 nl2 => ?_⟩
      generalize hB2 : upd B1 l2 _ = B2
      obtain ⟨w2, u2⟩ := alloc_eq nl2 hB2
      refine ⟨l2, largeD low (a3 (10 ^ 20)), rfl, .lst (.of u2) (.cons (.int _) (.cons (.int _) (.cons (.int _) (.cons (.int _) (.cons (.int _) (.cons (.int _) (.cons (.tup (.of (w2 _ _ u1)) (.cons (.int _) .nil)) (.cons ?_ .nil)))))))), sh.lay, sh.sh, Nat.le_trans sh.dp (by decide), shl, rfl, _, rfl, ?_⟩
      · dsimp only
        rw [z20, e3]
        exact .int _
      rw [decide_eq_true rfl]
      exact iteF ⟨w1.trans w2, rfl⟩
    rintro σ' H6 ⟨t6, rfl⟩
    have s16 := ((((t2.trans t3).trans t4).trans t5).trans t6)
    have P6 := P1.same s16
    have k6 : But p H H6 := k1.trans (.same s16)
    have hT6 : Tabs Tb H6 := LC.Tabs.but hT k6 hp0
    -- heard
    refine ⟨fun σ' H' => ∃ hl : Addr, Hrd K Tb p c hl (n + 2) H6 H' [("many", .int 2000)] ∧ σ' = [some (.ref p), some (.int low), some (.int gain), some (.ref x1), some (.ref x2), some (.ref x3), some (.ref tl), some (.ref hl), none], ?_, ?_⟩
    · refine heard_many (ns := List.replicate 2000 low ++ [low + 1]) (p := 2001) (st := gain) hT6 (fun N d cn le => ?_) (fun H0 R e0 k => ?_) (fun t H2 e2 T2 h2 => ⟨szn 1, fun hl nhl => ?_⟩)
      · obtain ⟨rfl, rfl⟩ : N = 0 ∧ d = 2001 := whole_all (m := 2000) (by decide) cn
        decide
      · refine rd_rep (k := 2000) (zs := [.int (low + 1)]) rfl rfl (by decide) (nle rfl) (fun B1 R t1 q1 => rd_one rfl q1) fun b B2 t2 e2 => ?_
        exact ⟨.int gain, rfl, k _ _ _ _ t2 (rep_arg e2 rfl (nle rfl) (by decide) (nle rfl))⟩
      generalize hH3 : upd H2 hl _ = B3
      obtain ⟨s3, e3⟩ := alloc_eq nhl hH3
      exact ⟨hl, ⟨(ButT.ext e2).trans (.of s3), (P6.ext e2).same s3, Tabs.ext T2 s3, ⟨_, e3, .cons ⟨t, rfl, .of (s3 _ _ h2)⟩ .nil⟩, (P6.ext e2).newP nhl, (P6.ext e2).newC nhl, Free.back (ButT.ext e2) (Free.of nhl) ((P6.ext e2).newP nhl)⟩, rfl⟩
    rintro σ' H7 ⟨hl, B7, rfl⟩
    refine ⟨fun σ' H' => Hrd K Tb p c hl (n + 2) H6 H' [("many", .int 2000), ("many", .int 2000)] ∧ σ' = [some (.ref p), some (.int low), some (.int gain), some (.ref x1), some (.ref x2), some (.ref x3), some (.ref tl), some (.ref hl), none], ?_, ?_⟩
    · obtain ⟨ts, et, _⟩ := id B7.ex
      refine ⟨.ref hl, rfl, .inl ⟨rfl, _, .inl (.inl et)⟩, ?_⟩
      refine heard_many (ns := List.replicate 1999 low ++ [low + 5, low]) (p := 1) (st := 0) B7.tabs (fun N d cn le => ?_) (fun H0 R e0 k => ?_) (fun t H2 e2 T2 h2 => ?_)
      · obtain ⟨rfl, rfl⟩ : N = 2000 ∧ d = 1 := late_all (m := 1999) cn
        decide
      · refine rd_rep (k := 1999) (zs := [.int (low + 5), .int low]) rfl rfl (by decide) (nle rfl) (fun B1 R t1 q1 => rd_two rfl q1) fun b B2 t2 e2 => ?_
        exact k _ _ _ _ t2 (rep_arg e2 rfl (nle rfl) (by decide) (nle rfl))
      · have B8 := B7.ext e2 T2
        obtain ⟨vs, ev2, r2⟩ := id B8.ex
        exact ⟨hl, _, _, rfl, rfl, ev2, sz_lt (by rw [r2.length]; show 1 < 100000; decide), B8.add ev2 ⟨t, rfl, .of h2⟩ rfl, rfl⟩
    rintro σ' H8 ⟨B8, rfl⟩
    refine ⟨fun σ' H' => Hrd K Tb p c hl (n + 2) H6 H' [("many", .int 2000), ("many", .int 2000), ("number", .non)] ∧ σ' = [some (.ref p), some (.int low), some (.int gain), some (.ref x1), some (.ref x2), some (.ref x3), some (.ref tl), some (.ref hl), none], ?_, ?_⟩
    · obtain ⟨ts, et, _⟩ := id B8.ex
      refine ⟨.ref hl, rfl, .inl ⟨rfl, _, .inl (.inl et)⟩, ?_⟩
      refine heard_row (v := .non) B8.tabs (fun H0 R e0 k => ?_) (fun t H2 e2 T2 h2 => ?_)
      · refine rd_rep (k := 2000) (zs := [.non, .int low]) rfl rfl (by decide) (nle rfl) (fun B1 R t1 q1 => rd_non rfl q1) fun b B2 t2 e2 => ?_
        refine ⟨.int gain, rfl, k _ _ _ _ t2 ?_⟩
        refine .item (as := List.replicate 2000 low) (v := .non) (bs := [.int low]) (p := 3) (n := "NoneType") ⟨b, rfl, .inl (.of (by rw [List.map_replicate]; exact e2))⟩ ?_ rfl (by decide) ?_ rfl ⟨by decide, .base .non, fun z e => nomatch e⟩ rfl
        · rw [List.length_append, List.length_map, List.length_replicate]
          exact nle rfl
        · rw [List.length_append, List.length_map, List.length_replicate]
          exact nle rfl
      · have B9 := B8.ext e2 T2
        obtain ⟨vs, ev2, r2⟩ := id B9.ex
        exact ⟨hl, _, _, rfl, rfl, ev2, sz_lt (by rw [r2.length]; show 2 < 100000; decide), B9.add ev2 ⟨t, rfl, .of h2⟩ rfl, rfl⟩
    rintro σ' H9 ⟨B9, rfl⟩
    have wx : ∀ h, Paired (WX K h) [("many", .int 2000), ("many", .int 2000), ("number", .non)] [wvD "many" (.int 2000), wvD "many" (.int 2000), wvD "number" .none] := fun h =>
      .cons ⟨_, rfl, valD_int (by decide), by decide +kernel, by decide +kernel⟩ (.cons ⟨_, rfl, valD_int (by decide), by decide +kernel, by decide +kernel⟩ (.cons ⟨_, rfl, valD_non, by decide +kernel, by decide +kernel⟩ .nil))
    obtain ⟨ts, et, rt⟩ := id B9.ex
    have shx := ShX.lst (wx_sh (wx H9))
    refine ⟨.ref hl, rfl, hl, _, rfl, .lst (.of et) (twosX rt (wx H9)), shx.sh, Nat.le_trans shx.dp (by decide), shx.len (by show 400 * 3 ≤ 50000; decide), ?_⟩
    refine ⟨szn 2, fun a1 n1 => ?_⟩
    generalize hB1 : upd H9 a1 _ = B1
    obtain ⟨w1, u1⟩ := alloc_eq n1 hB1
    refine ⟨szn 2, fun a2 n2 => ?_⟩
    generalize hB2 : upd B1 a2 _ = B2
    obtain ⟨w2, u2⟩ := alloc_eq n2 hB2
    refine ⟨szn 2, fun a3' n3 => ?_⟩
    generalize hB3 : upd B2 a3' _ = B3
    obtain ⟨w3, u3⟩ := alloc_eq n3 hB3
    refine ⟨szn 3, fun a4 n4 => ?_⟩
    generalize hB4 : upd B3 a4 _ = B4
    obtain ⟨w4, u4⟩ := alloc_eq n4 hB4
    have pd : Paired (TwoV K B4) [.ref a1, .ref a2, .ref a3'] [("many", .int 2000), ("many", .int 2000), ("number", .non)] := .cons ⟨a1, rfl, .of (w4 _ _ (w3 _ _ (w2 _ _ u1)))⟩ (.cons ⟨a2, rfl, .of (w4 _ _ (w3 _ _ u2))⟩ (.cons ⟨a3', rfl, .of (w4 _ _ u3)⟩ .nil))
    have BE := B9.same (((w1.trans w2).trans w3).trans w4)
    refine ⟨a4, _, rfl, .lst (.of u4) (twosX pd (wx B4)), shx.sh, Nat.le_trans shx.dp (by decide), shx.len (by show 400 * 3 ≤ 50000; decide), rfl, ?_⟩
    rw [decide_eq_true rfl]
    exact q B4 (k6.t.trans BE.k) BE.tabs BE.pen
end
end LC
/-! LcWord: a one and many noughts. -/
namespace LC
open PySem PySem.Spec PyProof.Rows L2 TL
theorem op_mulS {X : Cx} : OpR X (binaryOp .Mult) (fun x y H Q => ∃ z n, x = .str z ∧ y = .int n ∧ MulOk z n ∧ Q (.str (Txt.mul z n)) H) := by
  intro pins s σ H x y v u Q I rx ry h
  obtain ⟨z, n, rfl, rfl, ok, q⟩ := h
  obtain ⟨t, rfl⟩ := rx
  obtain ⟨t', rfl⟩ := ry
  exact PySem.SB.mul ok (fun t' tk => ⟨.str _, H, I.tok _, ⟨_, rfl⟩, q⟩)
theorem fold_tl (a : Array Nat) : ∀ (m : Nat) (acc : Array Nat), ((List.replicate m a).foldl (· ++ ·) acc).toList = acc.toList ++ (List.replicate m a.toList).flatten
  | 0, acc => by simp
  | m + 1, acc => by
    rw [List.replicate_succ, List.foldl_cons, fold_tl a m, List.replicate_succ, List.flatten_cons, Array.toList_append, List.append_assoc]
@[irreducible] def noughts : Str := Txt.mul "0" 7552
theorem noughts_tl : tl noughts = List.replicate 7552 48 := by
  unfold noughts Txt.mul
  rw [if_neg (by decide), if_neg (by decide +kernel)]
  show ((List.replicate (7552 : Int).toNat ("0" : Str).cps).foldl (· ++ ·) #[]).toList = _
  rw [fold_tl, show ("0" : Str).cps.toList = [48] by decide +kernel, show (7552 : Int).toNat = 7552 from rfl]
  show [] ++ (List.replicate 7552 [48]).flatten = _
  rw [List.nil_append, List.flatten_replicate_singleton]
theorem joinL_nil : ∀ l : List (List Nat), joinL [] l = l.flatten
  | [] => rfl
  | [p] => by simp [joinL]
  | p :: q :: r => by
    show p ++ ([] ++ joinL [] (q :: r)) = _
    rw [joinL_nil (q :: r)]
    simp
@[irreducible] def gWord : Str := ("1" : Str) ++ noughts
theorem gWord_def : ("1" : Str) ++ Txt.mul "0" 7552 = gWord := by
  unfold gWord noughts
  rfl
theorem gWord_tl : tl gWord = 49 :: List.replicate 7552 48 := by
  unfold gWord
  rw [tl_append, noughts_tl, show tl ("1" : Str) = [49] by decide +kernel]
  rfl
theorem noughts_len : (Txt.mul "0" 7552).length = 7552 := by
  have h := noughts_tl
  unfold noughts at h
  rw [len_tl, h, List.length_replicate]
theorem mulOk : MulOk "0" 7552 := ⟨by decide, fun _ _ => by decide +kernel, fun _ _ => by decide +kernel⟩
theorem slen (a b : Str) : (a ++ b).length = a.length + b.length := by rw [len_tl, tl_append, List.length_append, ← len_tl, ← len_tl]
theorem gWord_len : gWord.length = 7553 := by
  rw [len_tl, gWord_tl, List.length_cons, List.length_replicate]
theorem z64_tl : tl z64 = List.replicate 64 48 := by decide +kernel
theorem decW_tl (b : Bool) : tl (Txt.join "" (decW b 118)) = (if b then [45] else []) ++ tl gWord := by
  have e0 : tl ("" : Str) = [] := by decide +kernel
  have e1 : tl ("1" : Str) = [49] := by decide +kernel
  have e2 : tl ("-" : Str) = [45] := by decide +kernel
  have ef : (List.replicate 118 (List.replicate 64 48)).flatten = List.replicate (118 * 64) 48 := List.flatten_replicate_replicate
  rw [join_eq, tl_join, e0, joinL_nil, gWord_tl]
  unfold decW
  rw [List.map_append, List.map_cons, List.map_replicate, z64_tl, List.flatten_append, List.flatten_cons, ef, e1]
  have ez : (118 * 64 : Nat) = 7552 := by decide
  rw [ez]
  generalize List.replicate 7552 48 = w
  cases b with
  | true =>
    rw [if_pos rfl, if_pos rfl, List.map_cons, List.map_nil, e2]
    simp
  | false =>
    rw [if_neg (by decide), if_neg (by decide), List.map_nil]
    simp
theorem dec_great {g : Nat} (h : g = tenP 118) : decS (g : Int) = gWord := by
  rw [decS_great (i := (g : Int)) (by rw [Int.natAbs_natCast, h]), decide_eq_false (by omega)]
  refine ext_tl ?_
  rw [decW_tl, if_neg (by decide), List.nil_append]
theorem dec_low {g : Nat} (h : g = tenP 118) : tl (decS (-(g : Int))) = 45 :: tl gWord := by
  have tp := tenP_pos 118
  rw [decS_great (i := -(g : Int)) (by rw [Int.natAbs_neg, Int.natAbs_natCast, h]), decide_eq_true (by omega), decW_tl, if_pos rfl, List.cons_append, List.nil_append]
/-! ### the rows -/
theorem zero_evens (s : Int) : evens 0 s 1 = [0] := by
  unfold evens
  simp
theorem zero_at (s : Int) (n : Nat) : tellAt [0] 1 s n = (n : Int) * s := by
  have e := even_at (low := 0) (gain := s) (m := 1) (by decide) n
  rw [zero_evens] at e
  rw [e]
  omega
theorem zero_all {s : Int} {N d : Nat} (h : Can (tellAt [0] 1 s) N d) : N = 0 ∧ d = 1 := by
  rw [← zero_evens s] at h
  exact even_all (by decide) h
theorem five_at {g : Int} (n : Nat) : tellAt [5, g] 1 g n = if n = 0 then 5 else (n : Int) * g := by
  match n with
  | 0 => rfl
  | 1 =>
    show g = ((1 : Nat) : Int) * g
    omega
  | n + 2 =>
    rw [tell_ge (by show 2 ≤ n + 2; omega), if_neg (by omega)]
    show [5, g].getD (2 - 1 + (n + 2 - 2) % 1) 0 + (((n + 2 - 2) / 1 + 1 : Nat) : Int) * g = _
    rw [Nat.mod_one, Nat.div_one, Nat.add_sub_cancel]
    show g + ((n + 1 : Nat) : Int) * g = ((n + 2 : Nat) : Int) * g
    rw [show ((n + 2 : Nat) : Int) = ((n + 1 : Nat) : Int) + 1 by omega, Int.add_mul, Int.one_mul]
    omega
theorem five3_at {g : Int} (n : Nat) : tellAt [5, g, 2 * g] 1 g n = tellAt [5, g] 1 g n := by
  match n with
  | 0 => rfl
  | 1 => rfl
  | 2 =>
    rw [five_at, if_neg (by decide)]
    rfl
  | n + 3 =>
    rw [tell_ge (by show 3 ≤ n + 3; omega), five_at, if_neg (by omega)]
    show [5, g, 2 * g].getD (3 - 1 + (n + 3 - 3) % 1) 0 + (((n + 3 - 3) / 1 + 1 : Nat) : Int) * g = _
    rw [Nat.mod_one, Nat.div_one, Nat.add_sub_cancel]
    show 2 * g + ((n + 1 : Nat) : Int) * g = ((n + 3 : Nat) : Int) * g
    rw [show ((n + 3 : Nat) : Int) = ((n + 1 : Nat) : Int) + 2 by omega, Int.add_mul]
    omega
theorem five_can {g : Int} : Can (tellAt [5, g] 1 g) 1 1 := by
  have e : tellAt [5, g] 1 g = fun n : Nat => if n = 0 then 5 else (n : Int) * g := funext five_at
  rw [e]
  have r : ∀ n : Nat, 1 ≤ n → rise (fun n : Nat => if n = 0 then (5 : Int) else (n : Int) * g) n = g := fun n hn => by
    unfold rise
    dsimp only
    rw [if_neg (by omega), if_neg (by omega), Int.natCast_succ, Int.add_mul, Int.one_mul]
    omega
  refine ⟨by omega, fun n hn => ?_, fun M f hf ev => ?_, fun _ _ h _ => h⟩
  · rw [r n hn, r (n + 1) (by omega)]
  · refine Nat.le_of_not_lt fun l => ?_
    have e0 := ev 0 (by omega)
    rw [r (0 + f) (by omega)] at e0
    unfold rise at e0
    dsimp only at e0
    rw [if_neg (by omega), if_pos rfl] at e0
    have : ((0 + 1 : Nat) : Int) * g = g := by simp
    omega
/-! ### the texts -/
theorem row_five {g : Nat} (h : g = tenP 118) : rowT (tellAt [5, (g : Int)] 1 g) 1 1 = ((("5 | " : Str) ++ gWord) ++ " + ") ++ gWord := by
  have a1 : tellAt [5, (g : Int)] 1 g 1 = g := rfl
  have a2 : tellAt [5, (g : Int)] 1 g (1 + 1) - tellAt [5, (g : Int)] 1 g 1 = g := by
    rw [five_at, if_neg (by decide), a1]
    omega
  have f : firsts (tellAt [5, (g : Int)] 1 g) (1 + 1) = [5, (g : Int)] := rfl
  have d5 : decS 5 = "5" := by
    rw [decS_small (by decide)]
    decide +kernel
  unfold rowT
  rw [a2, f]
  unfold rowW
  show Txt.join " " [decS 5, "|", decS (g : Int), "+", decS (g : Int)] = _
  rw [dec_great h, d5]
  refine ext_tl ?_
  rw [join_eq, tl_join]
  simp only [tl_append, List.map_cons, List.map_nil]
  generalize tl gWord = w
  have e1 : tl (" " : Str) = [32] := by decide +kernel
  have e2 : tl ("5" : Str) = [53] := by decide +kernel
  have e3 : tl ("|" : Str) = [124] := by decide +kernel
  have e4 : tl ("+" : Str) = [43] := by decide +kernel
  have e5 : tl ("5 | " : Str) = [53, 32, 124, 32] := by decide +kernel
  have e6 : tl (" + " : Str) = [32, 43, 32] := by decide +kernel
  rw [e1, e2, e3, e4, e5, e6]
  simp [joinL]
theorem row_falls {g : Nat} (h : g = tenP 118) : rowT (tellAt [0] 1 (-(g : Int))) 0 1 = ("| 0 + -" : Str) ++ gWord := by
  have a2 : tellAt [0] 1 (-(g : Int)) (0 + 1) - tellAt [0] 1 (-(g : Int)) 0 = -(g : Int) := by
    rw [zero_at, zero_at]
    omega
  have f : firsts (tellAt [0] 1 (-(g : Int))) (0 + 1) = [0] := rfl
  have d0 : decS 0 = "0" := by
    rw [decS_small (by decide)]
    decide +kernel
  unfold rowT
  rw [a2, f]
  unfold rowW
  show Txt.join " " ["|", decS 0, "+", decS (-(g : Int))] = _
  rw [d0]
  refine ext_tl ?_
  rw [join_eq, tl_join]
  simp only [tl_append, List.map_cons, List.map_nil]
  rw [dec_low h]
  generalize tl gWord = w
  have e1 : tl (" " : Str) = [32] := by decide +kernel
  have e2 : tl ("0" : Str) = [48] := by decide +kernel
  have e3 : tl ("|" : Str) = [124] := by decide +kernel
  have e4 : tl ("+" : Str) = [43] := by decide +kernel
  have e5 : tl ("| 0 + -" : Str) = [124, 32, 48, 32, 43, 32, 45] := by decide +kernel
  rw [e1, e2, e3, e4, e5]
  simp [joinL]
theorem great_ten : 10 ^ (59 * 2 ^ 7) = tenP 118 := by
  unfold tenP
  rw [← Nat.pow_mul]
theorem great_small {i : Nat} (h : i ≤ 7) : 10 ^ (59 * 2 ^ i) < 2 ^ 40000 := by
  have a : (10 : Nat) ^ (59 * 2 ^ i) ≤ 16 ^ (59 * 2 ^ i) := Nat.pow_le_pow_left (by decide) _
  have b : (16 : Nat) ^ (59 * 2 ^ i) = 2 ^ (4 * (59 * 2 ^ i)) := by
    rw [show (16 : Nat) = 2 ^ 4 from rfl, ← Nat.pow_mul]
  have c : 2 ^ i ≤ 2 ^ 7 := Nat.pow_le_pow_right (by decide) h
  have d : (2 : Nat) ^ (4 * (59 * 2 ^ i)) < 2 ^ 40000 := Nat.pow_lt_pow_right (by decide) (by
    have : (2 : Nat) ^ 7 = 128 := rfl
    omega)
  exact Nat.lt_of_le_of_lt a (by rw [b]; exact d)
end LC
namespace LC
open PySem PySem.Spec PyProof.Rows L2
def spGreatRight : Sp := fun vs H Q _ => vs = [] ∧ ∀ H', Same H H' → Q (.bl true) H'
section
variable {P : Program} {w : World} {K : PySem.W.Frag} {mg : Str → Option Value} {base : Heap}
abbrev s_great_right : Stmt := topS 40
theorem sc_great_right : FnScope ["great", "turn", "low", "word", "made", "falls", "told"] [] (defScope s_great_right) := ⟨rfl, rfl, rfl, by decide +kernel, rfl, by decide +kernel, by decide +kernel⟩
theorem ok_great_right {f C CB CM : Addr} {fd : FuncData} (T : Txt mg) (RK : RowKit P w K mg base C CB CM) (F : FnP K "_law_great_right" s_great_right f fd) : GOk P w K mg base CX0 7 f fd [] spGreatRight := by
  have sc := sc_great_right
  have S := RK.S
  obtain ⟨fG, fdG, OG, FG, BG⟩ := RK.get
  obtain ⟨fE, fdE, OE, FE, BE⟩ := RK.eq
  obtain ⟨fT, fdT, OT, FT, BT⟩ := RK.str
  obtain ⟨fI, fdI, M, FI, BI, _⟩ := RK.mkr
  refine g_of F sc (fun vs H Q E h => ?_) (fun cdv A outer s H vs Q E hg hr h => ?_)
  · obtain ⟨rfl, _⟩ := h
    rfl
  · obtain ⟨rfl, q⟩ := h
    refine ⟨_, PSs.nox (pss_cons (ps_set (i := 0) sc.nd rfl (.inl rfl) (pe_op op_pow pe_int pe_int))
(Evl.pss_cut (ps_for PassesOwn.never rfl (pi_range1 rfl T.n_range (pa_cons pe_int pa_nil)) (pg_name (i := 1) sc.nd rfl (.inl rfl))
  (pss_one (ps_set (i := 0) sc.nd rfl (.inl rfl) (pe_ixO OG FG BG (hr.mono (by decide)) passL (pe_make M FI (hr.mono (by decide)) (by rfl) RK.S.g_Row BI .nil passL (pa_cons (pe_lst (pa_cons pe_int pa_nil)) (pa_cons pe_int (pa_cons (pv 0) pa_nil)))) (pv 0)))))
(Evl.pss_cut (ps_par (i := 2) (j := 3) (by rfl) sc.nd rfl rfl (by decide) rfl rfl (pa_cons (pe_ixO OG FG BG (hr.mono (by decide)) passL (pe_make M FI (hr.mono (by decide)) (by rfl) RK.S.g_Row BI .nil passL (pa_cons (pe_lst (pa_cons pe_int pa_nil)) (pa_cons pe_int (pa_cons (pe_un un_neg pe_int) pa_nil)))) (pv 0)) (pa_cons (pe_op op_add_str pe_str (pe_op op_mulS pe_str pe_int)) pa_nil)) (by rfl))
(Evl.pss_cut (ps_par (i := 4) (j := 5) (by rfl) sc.nd rfl rfl (by decide) rfl rfl (pa_cons (pe_make M FI (hr.mono (by decide)) (by rfl) RK.S.g_Row BI .nil passL (pa_cons (pe_lst (pa_cons pe_int (pa_cons (pv 0) pa_nil))) (pa_cons pe_int (pa_cons (pv 0) pa_nil)))) (pa_cons (pe_make M FI (hr.mono (by decide)) (by rfl) RK.S.g_Row BI .nil passL (pa_cons (pe_lst (pa_cons pe_int pa_nil)) (pa_cons pe_int (pa_cons (pv 2) pa_nil)))) pa_nil)) (by rfl))
(Evl.pss_cut (ps_set (i := 6) sc.nd rfl (.inl rfl) (pe_lst (pa_cons (pe_cmpR op_eq (pe_callTy (call_strO OT FT BT (hr.mono (by decide)) pass0) (by rfl) T.n_str (by decide +kernel) (pa_cons (pv 4) pa_nil)) (pe_op op_add_str (pe_op op_add_str (pe_op op_add_str pe_str (pv 3)) pe_str) (pv 3)) (nomark _)) (pa_cons (pe_cmpR op_eq (pe_callTy (call_strO OT FT BT (hr.mono (by decide)) pass0) (by rfl) T.n_str (by decide +kernel) (pa_cons (pv 5) pa_nil)) (pe_op op_add_str pe_str (pv 3)) (nomark _)) (pa_cons (pe_cmpR op_eq (pe_ixO OG FG BG (hr.mono (by decide)) passL (pv 4) pe_int) (pe_op op_mul pe_int (pv 0)) (nomark _)) pa_nil)))))
(Evl.pss_cut (ps_set (i := 6) sc.nd rfl (.inl rfl) (pe_op op_cat (pv 6) (pe_lst (pa_cons (pe_cmpR op_eq (pe_ixO OG FG BG (hr.mono (by decide)) passL (pv 4) (pv 0)) (pe_op op_mulW (pv 0) (pv 0)) (nomark _)) (pa_cons (pe_cmpR op_eq (pe_ixO OG FG BG (hr.mono (by decide)) passL (pv 5) pe_int) (pe_op op_mul (pe_un un_neg pe_int) (pv 0)) (nomark _)) (pa_cons (pe_cmpR (op_eqO OE FE BE (hr.mono (by decide)) pass0) (pv 4) (pe_make M FI (hr.mono (by decide)) (by rfl) RK.S.g_Row BI .nil passL (pa_cons (pe_lst (pa_cons pe_int (pa_cons (pv 0) (pa_cons (pe_ixO OG FG BG (hr.mono (by decide)) passL (pv 4) pe_int) pa_nil)))) (pa_cons pe_int (pa_cons (pv 0) pa_nil)))) (nomark _)) pa_nil))))))
(pss_one (ps_ret (pe_cmpR op_eq (pe_callB (call_reprD hg hr.units) (by rfl) T.n_repr (by decide +kernel) (pa_cons (pe_op op_cat (pv 6) (pe_lst (pa_cons (pe_cmpR (op_eqO OE FE BE (hr.mono (by decide)) pass0) (pv 4) (pv 5) (nomark _)) pa_nil))) pa_nil)) (pe_callB (call_reprD hg hr.units) (by rfl) T.n_repr (by decide +kernel) (pa_cons (pe_op op_cat (pe_op op_rep (pe_lst (pa_cons pe_bl pa_nil)) pe_int) (pe_lst (pa_cons pe_bl pa_nil))) pa_nil)) (nomark _)))))))))), ?_⟩
    have bd : ∀ {g : Nat}, g < 2 ^ 40000 → g < 2 ^ 400000 := fun h => Nat.lt_trans h (Nat.pow_lt_pow_right (by decide) (by decide))
    have zstep : ∀ (s : Int), tellAt [0] 1 s (0 + 1) - tellAt [0] 1 s 0 = s := fun s => by
      rw [zero_at, zero_at]
      omega
    refine ⟨10, 59, rfl, rfl, ⟨by decide, by decide, by decide⟩, ?_⟩
    -- for turn
    refine ⟨fun σ' H' => Same H H' ∧ ∃ o1 : Option V, σ' = [some (.int ((10 ^ (59 * 2 ^ 7) : Nat) : Int)), o1, none, none, none, none, none], ?_, ?_⟩
    · refine ⟨7, rfl, by decide, by decide, ?_⟩
      refine for_range (lo := 0) (n := 7) (fun i σ H' => Same H H' ∧ ∃ o1 : Option V, σ = [some (.int ((10 ^ (59 * 2 ^ i) : Nat) : Int)), o1, none, none, none, none, none]) ⟨Same.refl _, none, ?_⟩ ?_ ?_
      · exact congrArg (fun z => [some (V.int z), none, none, none, none, none, none]) (by decide)
      · rintro i σ B1 hi ⟨t1, o1, rfl⟩
        have gs := great_small (i := i) (by omega)
        have ge : (10 ^ (59 * 2 ^ i)) * (10 ^ (59 * 2 ^ i)) = 10 ^ (59 * 2 ^ (i + 1)) := by
          rw [← Nat.pow_add, Nat.pow_succ]
          congr 1
          omega
        rw [← ge]
        generalize 10 ^ (59 * 2 ^ i) = g at gs
        refine ⟨szn 1, fun l nl => ?_⟩
        generalize hB2 : upd B1 l _ = B2
        obtain ⟨t2, e2⟩ := alloc_eq nl hB2
        refine ⟨.int g, rfl, ?_⟩
        refine mk_row (o := .ok ([0], 1, (g : Int))) (.ok ⟨l, rfl, .inl (.of e2)⟩ (by decide) rfl (by decide) (by decide) rfl) ?_
        refine rowEnd_few (K := K) (C := C) (by decide) fun N d cn le x B3 nx t3 ra => ?_
        obtain ⟨rfl, rfl⟩ := zero_all cn
        obtain ⟨_, _, dx, Tx, hx, _⟩ := id ra
        refine ⟨.int g, rfl, x, dx, _, rfl, hx, x, _, 0, 1, .int g, rfl, ra, .inl ⟨g, rfl, bd gs, ?_, fun B4 t4 => ?_⟩⟩
        · rw [zstep, Int.natAbs_natCast]
          exact bd gs
        · rw [zero_at]
          exact ⟨((t1.trans t2).trans t3).trans t4, _, by rw [show (((g * g : Nat)) : Int) = (g : Int) * (g : Int) from Int.natCast_mul g g]; rfl⟩
      · rintro σ B1 ⟨t1, o1, rfl⟩
        exact ⟨t1, o1, rfl⟩
    rintro σ' H1 ⟨t1, o1, rfl⟩
    have gs := great_small (i := 7) (by decide)
    have gt := great_ten
    have g5 : 10 ^ 64 ≤ (10 ^ (59 * 2 ^ 7) : Nat) := Nat.pow_le_pow_right (by decide) (by decide)
    generalize (10 ^ (59 * 2 ^ 7) : Nat) = g at gs gt g5
    have gb : ((g : Nat) : Int).natAbs < 2 ^ 400000 := by rw [Int.natAbs_natCast]; exact bd gs
    have gbn : (-((g : Nat) : Int)).natAbs < 2 ^ 400000 := by rw [Int.natAbs_neg]; exact gb
    have g10 : 10 ≤ g := Nat.le_trans (by decide +kernel) g5
    have nfs := RK.nfs
    have small3 : ∀ {n : Nat}, n ≤ 3 → n < 2 ^ 400000 := fun h => bd (Nat.lt_of_le_of_lt h (Nat.lt_of_lt_of_le (show 3 < 2 ^ 2 by decide) (Nat.pow_le_pow_right (by decide) (by decide))))
    -- low, word
    refine ⟨fun σ' H' => Same H H' ∧ σ' = [some (.int (g : Int)), o1, some (.int (-(g : Int))), some (.str gWord), none, none, none], ?_, ?_⟩
    · refine ⟨szn 1, fun l nl => ?_⟩
      generalize hB2 : upd H1 l _ = B2
      obtain ⟨t2, e2⟩ := alloc_eq nl hB2
      refine ⟨1, rfl, ?_⟩
      refine mk_row (o := .ok ([0], 1, -1)) (.ok ⟨l, rfl, .inl (.of e2)⟩ (by decide) rfl (by decide) (by decide) rfl) ?_
      refine rowEnd_few (K := K) (C := C) (by decide) fun N d cn le x B3 nx t3 ra => ?_
      obtain ⟨rfl, rfl⟩ := zero_all cn
      obtain ⟨_, _, dx, Tx, hx, _⟩ := id ra
      refine ⟨.int g, rfl, x, dx, _, rfl, hx, x, _, 0, 1, .int g, rfl, ra, .inl ⟨g, rfl, bd gs, ?_, fun B4 t4 => ?_⟩⟩
      · rw [zstep]
        exact small3 (n := 1) (by decide)
      · rw [zero_at, show (g : Int) * -1 = -(g : Int) by omega]
        refine ⟨"0", 7552, rfl, rfl, mulOk, _, _, rfl, rfl, sz_le (by rw [noughts_len]; decide +kernel), ?_⟩
        rw [gWord_def]
        exact ⟨_, _, rfl, ((t1.trans t2).trans t3).trans t4, rfl⟩
    rintro σ' H2 ⟨t2, rfl⟩
    -- made, falls
    refine ⟨fun σ' H' => ∃ m f : Addr, RowAt K C H' m (tellAt [5, (g : Int)] 1 g) 1 1 ∧ RowAt K C H' f (tellAt [0] 1 (-(g : Int))) 0 1 ∧ Same H H' ∧ σ' = [some (.int (g : Int)), o1, some (.int (-(g : Int))), some (.str gWord), some (.ref m), some (.ref f), none], ?_, ?_⟩
    · refine ⟨.int g, rfl, szn 2, fun l nl => ?_⟩
      generalize hB2 : upd H2 l _ = B2
      obtain ⟨w2, e2⟩ := alloc_eq nl hB2
      refine ⟨.int g, rfl, ?_⟩
      refine mk_row (o := .ok ([5, (g : Int)], 1, (g : Int))) (.ok ⟨l, rfl, .inl (.of e2)⟩ (nle rfl) rfl (by decide) (nle rfl) rfl) ?_
      refine rowEnd_few (K := K) (C := C) (nle rfl) fun N d cn le x B3 nx t3 ra => ?_
      obtain ⟨rfl, rfl⟩ := cn.uniq five_can
      refine ⟨szn 1, fun l2 nl2 => ?_⟩
      generalize hB4 : upd B3 l2 _ = B4
      obtain ⟨w4, e4⟩ := alloc_eq nl2 hB4
      refine ⟨.int (-(g : Int)), rfl, ?_⟩
      refine mk_row (o := .ok ([0], 1, -(g : Int))) (.ok ⟨l2, rfl, .inl (.of e4)⟩ (by decide) rfl (by decide) (by decide) rfl) ?_
      refine rowEnd_few (K := K) (C := C) (by decide) fun N d cn le y B5 ny t5 rb => ?_
      obtain ⟨rfl, rfl⟩ := zero_all cn
      exact ⟨_, _, rfl, x, y, ra.same (w4.trans t5), rb, (((t2.trans w2).trans t3).trans w4).trans t5, rfl⟩
    rintro σ' H3 ⟨m, f, rm, rf, t3, rfl⟩
    have mstep : tellAt [5, (g : Int)] 1 g (1 + 1) - tellAt [5, (g : Int)] 1 g 1 = g := by
      rw [five_at, five_at, if_neg (by decide), if_neg (by decide)]
      omega
    obtain ⟨_, _, dm, Tm, hm, _⟩ := id rm
    obtain ⟨_, _, df, Tf, hf, _⟩ := id rf
    have okm : ∀ n, n < 1 + 1 → DecOk (tellAt [5, (g : Int)] 1 g n) := fun n hn => by
      rw [five_at]
      split
      · exact .inl (by decide)
      · have : n = 1 := by omega
        rw [this]
        exact .inr (by rw [← gt]; omega)
    have okms : DecOk (tellAt [5, (g : Int)] 1 g (1 + 1) - tellAt [5, (g : Int)] 1 g 1) := by
      rw [mstep]
      exact .inr (by rw [Int.natAbs_natCast, gt])
    have okf : ∀ n, n < 0 + 1 → DecOk (tellAt [0] 1 (-(g : Int)) n) := fun n hn => by
      have : n = 0 := by omega
      rw [this, zero_at]
      exact .inl (by simp)
    have okfs : DecOk (tellAt [0] 1 (-(g : Int)) (0 + 1) - tellAt [0] 1 (-(g : Int)) 0) := by
      rw [zstep]
      exact .inr (by rw [Int.natAbs_neg, Int.natAbs_natCast, gt])
    have m3 : tellAt [5, (g : Int)] 1 g 3 = 3 * (g : Int) := by
      rw [five_at, if_neg (by decide)]
      rfl
    have l5 : ("5 | " : Str).length = 4 := by decide +kernel
    have l6 : (" + " : Str).length = 3 := by decide +kernel
    have l7 : ("| 0 + -" : Str).length = 7 := by decide +kernel
    have gl := gWord_len
    -- told
    refine ⟨fun σ' H' => ∃ tl : Addr, H' tl = some (.lst [.bl true, .bl true, .bl true]) ∧ Same H3 H' ∧ σ' = [some (.int (g : Int)), o1, some (.int (-(g : Int))), some (.str gWord), some (.ref m), some (.ref f), some (.ref tl)], ?_, ?_⟩
    · refine ⟨.ref m, rfl, m, dm, _, rfl, hm, m, _, 1, 1, rfl, rm, okm, okms, fun B1 w1 => ⟨_, rfl, ?_⟩⟩
      rw [row_five gt]
      refine ⟨.str gWord, rfl, _, _, rfl, rfl, sz_le (by rw [l5, gl]; decide), _, _, rfl, rfl, sz_le (by rw [slen, l5, l6, gl]; decide), .str gWord, rfl, _, _, rfl, rfl, sz_le (by rw [slen, slen, l5, l6, gl]; decide), rfl, ?_⟩
      rw [decide_eq_true rfl]
      refine ⟨.ref f, rfl, f, df, _, rfl, w1 _ _ hf, f, _, 0, 1, rfl, rf.same w1, okf, okfs, fun B2 w2 => ⟨_, rfl, ?_⟩⟩
      rw [row_falls gt]
      refine ⟨.str gWord, rfl, _, _, rfl, rfl, sz_le (by rw [l7, gl]; decide), rfl, ?_⟩
      rw [decide_eq_true rfl]
      have w12 := w1.trans w2
      refine ⟨.ref m, rfl, m, dm, _, rfl, w12 _ _ hm, m, _, 1, 1, .int 3, rfl, rm.same w12, .inl ⟨3, rfl, small3 (by decide), by rw [mstep]; exact gb, fun B3 w3 => ?_⟩⟩
      rw [m3]
      refine ⟨.int g, rfl, _, _, rfl, rfl, .inl ⟨by decide, by decide⟩, rfl, ?_⟩
      rw [decide_eq_true rfl]
      refine ⟨szn 3, fun tl ntl => ?_⟩
      generalize hB4 : upd B3 tl _ = B4
      obtain ⟨w4, e4⟩ := alloc_eq ntl hB4
      exact ⟨tl, e4, (w12.trans w3).trans w4, rfl⟩
    rintro σ' H4 ⟨tl, etl, t4, rfl⟩
    have rm4 := rm.same t4
    have rf4 := rf.same t4
    have mg : tellAt [5, (g : Int)] 1 g g = (g : Int) * (g : Int) := by
      rw [five_at, if_neg (by omega)]
    have f3 : tellAt [0] 1 (-(g : Int)) 3 = -3 * (g : Int) := by
      rw [zero_at]
      omega
    have m2 : tellAt [5, (g : Int)] 1 g 2 = 2 * (g : Int) := by
      rw [five_at, if_neg (by decide)]
      rfl
    -- told = told + ..
    refine ⟨fun σ' H' => ∃ tl : Addr, H' tl = some (.lst [.bl true, .bl true, .bl true, .bl true, .bl true, .bl true]) ∧ Same H4 H' ∧ σ' = [some (.int (g : Int)), o1, some (.int (-(g : Int))), some (.str gWord), some (.ref m), some (.ref f), some (.ref tl)], ?_, ?_⟩
    · refine ⟨.ref tl, rfl, .ref m, rfl, .int g, rfl, m, dm, _, rfl, t4 _ _ hm, m, _, 1, 1, .int g, rfl, rm4, .inl ⟨g, rfl, bd gs, by rw [mstep]; exact gb, fun B1 w1 => ?_⟩⟩
      rw [mg]
      refine ⟨.int g, rfl, .int g, rfl, _, _, rfl, rfl, ?_, rfl, ?_⟩
      · have lg : (g : Int).natAbs.log2 < 400000 := by
          rw [Int.natAbs_natCast]
          exact (Nat.log2_lt (by omega)).mpr (bd gs)
        show (g : Int).natAbs.log2 + (g : Int).natAbs.log2 < 1000000
        omega
      rw [decide_eq_true rfl]
      refine ⟨.ref f, rfl, f, df, _, rfl, w1 _ _ (t4 _ _ hf), f, _, 0, 1, .int 3, rfl, rf4.same w1, .inl ⟨3, rfl, small3 (by decide), by rw [zstep]; exact gbn, fun B2 w2 => ?_⟩⟩
      rw [f3]
      refine ⟨3, rfl, .int g, rfl, _, _, rfl, rfl, .inl ⟨by decide, by decide⟩, rfl, ?_⟩
      rw [decide_eq_true rfl]
      have w12 := w1.trans w2
      refine ⟨.ref m, rfl, .int g, rfl, .ref m, rfl, m, dm, _, rfl, w12 _ _ (t4 _ _ hm), m, _, 1, 1, .int 2, rfl, rm4.same w12, .inl ⟨2, rfl, small3 (by decide), by rw [mstep]; exact gb, fun B3 w3 => ?_⟩⟩
      rw [m2]
      refine ⟨szn 3, fun l nl => ?_⟩
      generalize hB4 : upd B3 l _ = B4
      obtain ⟨w4, e4⟩ := alloc_eq nl hB4
      refine ⟨.int g, rfl, ?_⟩
      refine mk_row (o := .ok ([5, (g : Int), 2 * (g : Int)], 1, (g : Int))) (.ok ⟨l, rfl, .inl (.of e4)⟩ (nle rfl) rfl (by decide) (nle rfl) rfl) ?_
      refine rowEnd_few (K := K) (C := C) (nle rfl) fun N d cn le r B5 nr w5 rr => ?_
      have w15 := ((w12.trans w3).trans w4).trans w5
      refine ⟨m, dm, _, .ref C, rfl, w15 _ _ (t4 _ _ hm), row_ty S RK.I rr, nfs, m, _, 1, 1, .ref r, rfl, rm4.same w15, .inr ⟨r, _, N, d, rfl, rr, fun q1 h1 => ⟨q1, rfl, ?_⟩⟩⟩
      cases h1.mpr fun n => (five3_at n).symm
      refine ⟨szn 3, fun l2 nl2 => ?_⟩
      generalize hB6 : upd B5 l2 _ = B6
      obtain ⟨w6, e6⟩ := alloc_eq nl2 hB6
      have w16 := w15.trans w6
      refine ⟨tl, l2, _, _, rfl, rfl, w16 _ _ etl, e6, sz_le (by decide), fun l3 nl3 => ?_⟩
      generalize hB7 : upd B6 l3 _ = B7
      obtain ⟨w7, e7⟩ := alloc_eq nl3 hB7
      exact ⟨l3, e7, w16.trans w7, rfl⟩
    rintro σ' H5 ⟨tl2, etl2, t5, rfl⟩
    have t45 := t4.trans t5
    have rf5 := rf4.same t5
    refine ⟨.ref tl2, rfl, .ref m, rfl, .ref f, rfl, m, dm, _, .ref C, rfl, t45 _ _ hm, row_ty S RK.I rf5, nfs, m, _, 1, 1, .ref f, rfl, rm4.same t5, .inr ⟨f, _, 0, 1, rfl, rf5, fun q1 h1 => ⟨q1, rfl, ?_⟩⟩⟩
    have eq1 : q1 = false := by
      cases q1 with
      | false => rfl
      | true =>
        have z := h1.mp rfl 0
        rw [five_at, zero_at, if_pos rfl] at z
        simp at z
    rw [eq1]
    refine ⟨szn 1, fun l1 nl1 => ?_⟩
    generalize hB1 : upd H5 l1 _ = B1
    obtain ⟨w1, e1⟩ := alloc_eq nl1 hB1
    refine ⟨tl2, l1, _, _, rfl, rfl, w1 _ _ etl2, e1, sz_le (by decide), fun l2 nl2 => ?_⟩
    generalize hB2 : upd B1 l2 _ = B2
    obtain ⟨w2, e2⟩ := alloc_eq nl2 hB2
    have sh : Shw (.list [.bool true, .bool true, .bool true, .bool true, .bool true, .bool true, .bool false]) 1 7 := (Shw.lst (ShwL.cons (Shw.bl _) (ShwL.cons (Shw.bl _) (ShwL.cons (Shw.bl _) (ShwL.cons (Shw.bl _) (ShwL.cons (Shw.bl _) (ShwL.cons (Shw.bl _) (ShwL.cons (Shw.bl _) ShwL.nil)))))))).mono (by decide) (by decide)
    refine ⟨l2, .list [.bool true, .bool true, .bool true, .bool true, .bool true, .bool true, .bool false], rfl, .lst (.of e2) (.cons (.bl _) (.cons (.bl _) (.cons (.bl _) (.cons (.bl _) (.cons (.bl _) (.cons (.bl _) (.cons (.bl _) .nil))))))), sh.lay, sh.sh, Nat.le_trans sh.dp (by decide), sh.len (by decide), ?_⟩
    refine ⟨szn 1, fun l3 nl3 => ?_⟩
    generalize hB3 : upd B2 l3 _ = B3
    obtain ⟨w3, e3⟩ := alloc_eq nl3 hB3
    refine ⟨l3, 6, _, rfl, rfl, e3, by decide, by decide, sz_le (by decide), fun l4 nl4 => ?_⟩
    generalize hB4 : upd B3 l4 _ = B4
    obtain ⟨w4, e4⟩ := alloc_eq nl4 hB4
    refine ⟨szn 1, fun l5 nl5 => ?_⟩
    generalize hB5 : upd B4 l5 _ = B5
    obtain ⟨w5, e5⟩ := alloc_eq nl5 hB5
    refine ⟨l4, l5, _, _, rfl, rfl, w5 _ _ e4, e5, sz_le (by decide), fun l6 nl6 => ?_⟩
    generalize hB6 : upd B5 l6 _ = B6
    obtain ⟨w6, e6⟩ := alloc_eq nl6 hB6
    refine ⟨l6, .list [.bool true, .bool true, .bool true, .bool true, .bool true, .bool true, .bool false], rfl, .lst (.of e6) (.cons (.bl _) (.cons (.bl _) (.cons (.bl _) (.cons (.bl _) (.cons (.bl _) (.cons (.bl _) (.cons (.bl _) .nil))))))), sh.lay, sh.sh, Nat.le_trans sh.dp (by decide), sh.len (by decide), rfl, ?_⟩
    rw [decide_eq_true rfl]
    exact q B6 ((t3.trans t45).trans (((((w1.trans w2).trans w3).trans w4).trans w5).trans w6))
end
end LC
namespace LC
open PySem PySem.Spec PyProof.Rows L2 TL LamX
theorem CalG.mono {P : Program} {w : World} {K : PySem.W.Frag} {mg : Str → Option Value} {base : Heap} {CX : CXT} {j k : Nat} {x : Str} {ps : List Str} {sp : Sp} (c : CalG P w K mg base CX j x ps sp) (h : j ≤ k) : CalG P w K mg base CX k x ps sp := by
  obtain ⟨f, fd, m, F, kp, b⟩ := c
  exact ⟨f, fd, m, F.mono h, kp, b⟩
theorem pe_calG0 {X : Cx} {CX : CXT} {k : Nat} {x : Str} {sp : Sp} {E : XK} {p pos : Pos} (c : CalG X.prog X.w X.K X.mg X.base CX k x [] sp) (hgd : X.A.guards = some []) (hr : Room k X.A) (hg : Gl X x) (hx : Passes CX X E) (hdb : (x == ("__debug__" : Str)) = false := by decide) : PE X (.Call (.Name x p) [] [] pos) (tCal sp E tNil) := by
  obtain ⟨f, fd, m, F, kp, b⟩ := c
  constructor
  intro pins s σ H Q I h
  refine wpAny_Call_Name_kw (ld_glob I hg m ?_ hdb)
  refine PySem.W.callWith_K0 I.kIn kp ?_
  have hb := b s [] I.kIn rfl
  refine wpAny_call (codeAny_mono (F.go X.A X.stack s H ⟨[], []⟩ [] [] Q E hgd hr I.env0 hb .nil h) fun res s' hq => ?_)
  match res, hq with
  | .error z, hq => exact hx pins σ H s z s' I hq
  | .ok (.ret u), hq => exact I.after hq
  | .ok .next, hq => exact False.elim hq
  | .ok .brk, hq => exact False.elim hq
  | .ok .cont, hq => exact False.elim hq
section
variable {P : Program} {w : World} {K : PySem.W.Frag} {mg : Str → Option Value} {base : Heap}
abbrev s_pen : Stmt := topS 24
theorem sc_pen : FnScope ["script"] ["script"] (defScope s_pen) := ⟨rfl, rfl, rfl, by decide +kernel, rfl, by decide +kernel, by decide +kernel⟩
def spPen (K : PySem.W.Frag) : Sp := fun vs H Q _ => ∃ (a : Addr) (ns : List Int), vs = [.ref a] ∧ SqL K H a (ns.map V.int) ∧ ns.length ≤ 63 ∧ ∀ (p c : Addr) (H' : Hp), Same H H' → Pen H' p c 0 → Q (.ref p) H'
theorem ok_pen {f : Addr} {fd : FuncData} (T : Txt mg) (F : FnP K "_law_pen" s_pen f fd) : FnOk P w K mg base CX0 1 f fd ["script"] (spPen K) := by
  have sc := sc_pen
  refine F.ok sc (fun vs H Q E h => ?_) (fun cdv A outer s H vs Q E hr h => ?_)
  · obtain ⟨a, ns, rfl, _⟩ := h
    rfl
  · obtain ⟨a, ns, rfl, ha, hl, q⟩ := h
    refine ⟨_, PSs.nox (pss_one (ps_ret (pe_lst (pa_cons (pe_callTy call_list_of (by rfl) T.n_list (by decide +kernel) (pa_cons (pe_slice sl_list (pv 0) po_none (po_some pe_int)) pa_nil)) (pa_cons pe_int (pa_cons pe_int pa_nil)))))), ?_⟩
    have e : cutV (ns.map V.int) none (some 63) = ns.map V.int := by
      unfold cutV
      have e2 : HT.sIx (ns.map V.int).length (ns.map V.int).length (some 63) = min 63 (ns.map V.int).length := HT.sIx_nat _ _ 63
      rw [HT.sIx_none, List.drop_zero, e2]
      exact List.take_of_length_le (by rw [List.length_map]; omega)
    refine ⟨.ref a, rfl, 63, rfl, a, _, rfl, ha, fun sl n1 => ?_⟩
    rw [e]
    generalize hH1 : upd H sl _ = H1
    obtain ⟨s1, e1⟩ := alloc_eq n1 hH1
    refine ⟨sl, _, rfl, .inl (.of e1), fun c n2 => ?_⟩
    generalize hH2 : upd H1 c _ = H2
    obtain ⟨s2, e2⟩ := alloc_eq n2 hH2
    refine ⟨szn 3, fun p n3 => ?_⟩
    generalize hH3 : upd H2 p _ = H3
    obtain ⟨s3, e3⟩ := alloc_eq n3 hH3
    exact q p c H3 ((s1.trans s2).trans s3) ⟨ns, 0, 0, e3, s3 _ _ e2, hl, Int.le_refl _, Int.le_refl _⟩
abbrev s_law : Stmt := topS 41
theorem sc_law : FnScope ["script", "pen", "bout", "told"] ["script"] (defScope s_law) := ⟨rfl, rfl, rfl, by decide +kernel, rfl, by decide +kernel, by decide +kernel⟩
def spLaw (K : PySem.W.Frag) (Tb : List (Addr × Str)) : Sp := fun vs H Q _ => ∃ (a : Addr) (ns : List Int), vs = [.ref a] ∧ SqL K H a (ns.map V.int) ∧ ns.length ≤ 63 ∧ Tabs Tb H ∧ ∀ H', Q (.bl true) H'
theorem ok_law {f C CB CM : Addr} {fd : FuncData} {Tb : List (Addr × Str)} (T : Txt mg) (RK : RowKit P w K mg base C CB CM) (F : FnP K "law" s_law f fd) (c__law_pen : Cal P w K mg base CX0 10 "_law_pen" ["script"] (spPen K)) (c__law_told : Cal P w K mg base CX0 10 "_law_told" ["pen"] spTold)
    (c__law_great_right : CalG P w K mg base CX0 10 "_law_great_right" [] spGreatRight) (c__law_right : CalG P w K mg base CX0 10 "_law_right" ["pen", "told"] spRight) (c__law_equal_right : CalG P w K mg base CX0 10 "_law_equal_right" ["pen", "told"] spEqualRight) (c__law_refused : CalG P w K mg base CX0 10 "_law_refused" ["pen", "told"] (spRefused Tb))
    (c__law_large_right : CalG P w K mg base CX0 10 "_law_large_right" ["pen"] (spLargeRight Tb)) (c__law_long_right : CalG P w K mg base CX0 10 "_law_long_right" ["pen"] spLongRight) : GOk P w K mg base CX0 11 f fd ["script"] (spLaw K Tb) := by
  have sc := sc_law
  refine g_of F sc (fun vs H Q E h => ?_) (fun cdv A outer s H vs Q E hg hr h => ?_)
  · obtain ⟨a, ns, rfl, _⟩ := h
    rfl
  · obtain ⟨a, ns, rfl, ha, hl, hT, q⟩ := h
    refine ⟨_, PSs.nox (pss_cons (ps_set (i := 1) sc.nd rfl (.inl rfl) (pe_cal c__law_pen hr (by rfl) pass0 (pa_cons (pv 0) pa_nil)))
(pss_cons (ps_if (pt_not (pt_val (pe_calG0 c__law_great_right hg hr (by rfl) pass0)))
  (pss_one (ps_ret pe_bl))
  pss_nil)
(pss_cons (ps_for PassesOwn.never rfl (pi_range1 rfl T.n_range (pa_cons pe_int pa_nil)) (pg_name (i := 2) sc.nd rfl (.inl rfl))
  (pss_cons (ps_set (i := 3) sc.nd rfl (.inl rfl) (pe_cal c__law_told hr (by rfl) pass0 (pa_cons (pv 1) pa_nil)))
  (pss_one (ps_if (PW.pt (pw_or (pt_not (pt_val (pe_calG c__law_right hg hr (by rfl) pass0 (pa_cons (pv 1) (pa_cons (pv 3) pa_nil))))) (pw_or (pt_not (pt_val (pe_calG c__law_equal_right hg hr (by rfl) pass0 (pa_cons (pv 1) (pa_cons (pv 3) pa_nil))))) (pw_or1 (pt_not (pt_val (pe_calG c__law_refused hg hr (by rfl) pass0 (pa_cons (pv 1) (pa_cons (pv 3) pa_nil)))))))))
    (pss_one (ps_ret pe_bl))
    pss_nil))))
(pss_one (ps_ret (pe_and (pe_calG c__law_large_right hg hr (by rfl) pass0 (pa_cons (pv 1) pa_nil)) (pe_one (pe_calG c__law_long_right hg hr (by rfl) pass0 (pa_cons (pv 1) pa_nil))))))))), ?_⟩
    refine ⟨.ref a, rfl, a, ns, rfl, ha, hl, fun p c H0 s0 P0 => ?_⟩
    have T0 := Tabs.ext hT s0
    refine ⟨rfl, fun H1 t1 => ⟨_, rfl, iteF ?_⟩⟩
    have P1 := P0.same t1
    have T1 := Tabs.ext T0 t1
    refine ⟨_, rfl, by decide, by decide, ?_⟩
    refine for_range (n := 8) (fun i σ H' => (∃ o2 o3 : Option V, σ = [some (.ref a), some (.ref p), o2, o3]) ∧ Pen H' p c (90 * i) ∧ Tabs Tb H') ?_ ?_ ?_
    · exact ⟨⟨none, none, rfl⟩, P1, T1⟩
    · rintro i σ H2 hi ⟨⟨o2, o3, rfl⟩, P2, T2⟩
      obtain ⟨p2, hp2⟩ := P2.at_
      refine ⟨.ref p, rfl, p, c, _, rfl, P2, by omega, fun v ns' span step H3 hv sm l24 k3 P3 => ?_⟩
      obtain ⟨p3, hp3⟩ := P3.at_
      have T3 := LC.Tabs.but T2 k3 hp2
      refine ⟨.ref p, rfl, v, rfl, p, c, _, v, ns', span, step, rfl, P3, by omega, hv, sm, l24, fun H4 k4 P4 => ⟨_, rfl, iteF ?_⟩⟩
      obtain ⟨p4, hp4⟩ := P4.at_
      have T4 := LC.Tabs.but T3 k4 hp3
      refine ⟨.ref p, rfl, v, rfl, p, c, _, v, ns', span, step, rfl, P4, by omega, hv.but k4, sm, l24, fun H5 k5 P5 => ⟨_, rfl, iteF ?_⟩⟩
      have T5 := LC.Tabs.but T4 k5 hp4
      refine ⟨.ref p, rfl, v, rfl, p, c, _, v, ns', span, step, rfl, P5, by omega, (hv.but k4).but k5, sm, l24, T5, fun H6 k6 T6 P6 => ⟨_, rfl, iteF ?_⟩⟩
      exact ⟨⟨_, _, rfl⟩, P6.mono (by omega), T6⟩
    · rintro σ H2 ⟨⟨o2, o3, rfl⟩, P2, T2⟩
      refine ⟨.ref p, rfl, p, c, _, rfl, P2, by omega, T2, fun H3 k3 T3 P3 => ⟨true, rfl, iteT ?_⟩⟩
      exact ⟨.ref p, rfl, p, c, _, rfl, P3, by omega, fun H4 m k4 P4 => q H4⟩
end
end LC
/-! LcHead: what the look at the head's end asks of classes of exceptions, properties, class methods. -/
namespace LC
open PySem PySem.Spec PyProof.Rows L2 TL ClX LamX
def oexB (K : PySem.W.Frag) (C : Addr) : Bool := (match K.lookup C with
  | some ⟨.type c, _, .cls r, sl⟩ => decide (c = "type") && (match r.mro with
    | .ref a :: bm => decide (a = C) && PySem.HandSPX.refsVE bm
    | _ => false) && r.hasDict && !r.hasDel && (match sl.toList with
    | [_, _, _, _, some (.builtin s), _] => decide (s = "ValueError.__new__")
    | _ => false)
  | _ => false) && decide (PySem.W.findIn K (.ref C) "__setattr__" = some (some (.builtin "object.__setattr__"))) && decide (PySem.W.subIn K (.ref C) (.type "BaseException") = some true) && decide (PySem.W.typeIn K (.ref C) = some (.type "type")) && PySem.W.keepIn K (.ref C)
theorem oexC_of {K : PySem.W.Frag} {C : Addr} (h : oexB K C = true) : OexC K C := by
  unfold oexB at h
  simp only [Bool.and_eq_true, decide_eq_true_eq] at h
  obtain ⟨⟨⟨⟨h1, h2⟩, h3⟩, h4⟩, h5⟩ := h
  refine ⟨?_, h2, h3, h4, h5⟩
  cases q : K.lookup C with
  | none =>
    rw [q] at h1
    cases h1
  | some o =>
    obtain ⟨oc, od, dt, osl⟩ := o
    rw [q] at h1
    cases oc with
    | type c =>
      cases dt with
      | cls r =>
        obtain ⟨nm, bs, mro, ns, qn, hd, sn, sub, ab, col, del⟩ := r
        simp only [Bool.and_eq_true, decide_eq_true_eq, Bool.not_eq_true'] at h1
        obtain ⟨⟨⟨⟨c1, c2⟩, c3⟩, c4⟩, c5⟩ := h1
        obtain ⟨bm, rfl, rv⟩ : ∃ bm, mro = .ref C :: bm ∧ PySem.HandSPX.refsVE bm = true := by
          split at c2
          · rename_i a bm
            obtain ⟨ea, rv⟩ := Bool.and_eq_true_iff.mp c2
            exact ⟨bm, by rw [of_decide_eq_true ea], rv⟩
          · cases c2
        obtain ⟨k0, k1, k2, k3, k5, esl⟩ : ∃ k0 k1 k2 k3 k5, osl.toList = [k0, k1, k2, k3, some (.builtin "ValueError.__new__"), k5] := by
          split at c5
          · rename_i k0 k1 k2 k3 s k5 e
            exact ⟨k0, k1, k2, k3, k5, by rw [e, of_decide_eq_true c5]⟩
          · cases c5
        have e2 : osl = #[k0, k1, k2, k3, some (.builtin "ValueError.__new__"), k5] := by
          rw [← Array.toArray_toList (xs := osl), esl]
        subst c1 c3 c4 e2
        exact ⟨nm, qn, ns, bs, bm, sn, sub, ab, col, od, k0, k1, k2, k3, k5, rfl, rv⟩
      | _ => cases h1
    | _ => cases dt <;> cases h1
/-! ### a def at an address -/
def fnAt (K : PySem.W.Frag) (a : Addr) : He.FnW := match K.lookup a with
  | some ⟨_, _, .func fd, _⟩ => some (fd.name, fd.qualname, fd.params, fd.body, fd.scope, fd.globals, fd.closure, fd.builtins)
  | _ => none
def okAt (K : PySem.W.Frag) (a : Addr) (d : He.DefD) : Bool := PySem.W.keepIn K (.ref a) && (match K.lookup a with
  | some ⟨_, _, .func fd, _⟩ => PySem.W.codeIn K fd.code d.qual && (He.dflB K fd.defaults (d.dvs K) && He.kwdB K fd.kwdefaults (d.kws K))
  | _ => false)
theorem funAt {K : PySem.W.Frag} {a : Addr} {d : He.DefD} (e : fnAt K a = d.val) (c : okAt K a d = true) : ∃ fd, FunD K d.name d.qual d.params d.body d.scope (d.dvs K) (d.kws K) a fd := by
  obtain ⟨kp, c2⟩ := He.ba c
  unfold fnAt at e
  cases q : K.lookup a with
  | none =>
    rw [q] at c2
    cases c2
  | some o =>
    obtain ⟨oc, od, dt, osl⟩ := o
    rw [q] at c2 e
    cases dt with
    | func fd =>
      obtain ⟨n1, n2, n3, n4, n5, n6, n7, n8, n9, n10, n11, n12, n13, n14, n15⟩ := fd
      have e2 : (some (n1, n2, n3, n4, n5, n6, n7, n15) : He.FnW) = some (d.name, d.qual, d.params, .stmts d.body, d.scope, mainGlobals, [], builtinsNs) := e
      simp only [Option.some.injEq, Prod.mk.injEq] at e2
      obtain ⟨h1, h2, h3, h4, h5, h6, h7, h8⟩ := e2
      subst h1 h2 h3 h4 h5 h6 h7 h8
      have c3 : (PySem.W.codeIn K n13 d.qual && (He.dflB K n8 (d.dvs K) && He.kwdB K n9 (d.kws K))) = true := c2
      obtain ⟨k1, k2⟩ := He.ba c3
      obtain ⟨k3, k4⟩ := He.ba k2
      exact ⟨_, ⟨oc, od, n8, n9, n10, n11, n12, n13, n14, osl, rfl, q, k1, He.dflB_ok k3, He.kwdB_ok k4⟩, kp⟩
    | _ => cases c2
/-- what a record tells first -/
def recOf (K : PySem.W.Frag) (p : Addr) (kind : String) : Addr := match PySem.W.recIn K p kind with
  | some (.ref g :: _) => g
  | _ => 0
def propB (K : PySem.W.Frag) (C : Addr) (f : Str) : Bool := decide (PySem.W.findIn K (.ref C) f = some (some (.ref (He.ma K C f)))) && decide (PySem.W.specialIn K (.ref (He.ma K C f)) "__get__" = some (some (.builtin "property.__get__"))) && decide (PySem.W.takesIn K (.ref (He.ma K C f)) = some true) && (match PySem.W.recIn K (He.ma K C f) "property" with
  | some (.ref _ :: _) => true
  | _ => false)
theorem prop_of {K : PySem.W.Frag} {C : Addr} {f : Str} (h : propB K C f = true) : PropOf K C f (He.ma K C f) (recOf K (He.ma K C f) "property") := by
  unfold propB at h
  simp only [Bool.and_eq_true, decide_eq_true_eq] at h
  obtain ⟨⟨⟨h1, h2⟩, h3⟩, h4⟩ := h
  refine ⟨h1, h2, h3, ?_⟩
  unfold recOf
  split at h4
  · rename_i g r e
    rw [e]
    exact ⟨_, rfl⟩
  · cases h4
def cmetB (K : PySem.W.Frag) (C : Addr) (mc : Value) (m : Str) : Bool := PySem.W.readsIn K C mc && decide (PySem.W.specialIn K (.ref C) "__getattribute__" = some (some (.builtin "type.__getattribute__"))) && (match PySem.W.findCls K (.ref C) mc m with
  | some (.get (.builtin s) (.ref p) .none (.ref D)) => decide (s = "classmethod.__get__") && decide (p = He.ma K C m) && decide (D = C)
  | _ => false) && (match PySem.W.recIn K (He.ma K C m) "classmethod" with
  | some (.ref _ :: _) => true
  | _ => false) && PySem.W.fnIn K (recOf K (He.ma K C m) "classmethod")
theorem cmet_of {K : PySem.W.Frag} {C : Addr} {mc : Value} {m : Str} (h : cmetB K C mc m = true) : CRead K C mc ∧ CMet K C mc m (He.ma K C m) (recOf K (He.ma K C m) "classmethod") := by
  unfold cmetB at h
  simp only [Bool.and_eq_true, decide_eq_true_eq] at h
  obtain ⟨⟨⟨⟨h1, h2⟩, h3⟩, h4⟩, h5⟩ := h
  refine ⟨⟨h1, h2⟩, ?_, ?_, h5⟩
  · split at h3
    · rename_i s p D e
      simp only [Bool.and_eq_true, decide_eq_true_eq] at h3
      obtain ⟨⟨e1, e2⟩, e3⟩ := h3
      rw [e, e1, e2, e3]
    · cases h3
  · unfold recOf
    split at h4
    · rename_i g r e
      rw [e]
      exact ⟨_, rfl⟩
    · cases h4
/-! ### the hook: HeadHook4's, over the interpreter's statics too, and defs at addresses -/
abbrev Gs : Type := List ((PySem.W.Frag → Addr) × He.DefD)
structure SaysY (fa : List He.Fa) (fn : List He.DefD) (tf : List He.Defn) (gs : Gs) (ex : PySem.W.Frag → Bool) (w : World) (h : Heap) (K : PySem.W.Frag) : Prop where
  x : He.SaysX fa fn [] tf (fun K => ex K && gs.all fun q => okAt K (q.1 K) q.2) w h K
  g : gs.map (fun q => fnAt K (q.1 K)) = gs.map (·.2.val)
/-- what is looked at -/
def KY (n : Nat) (g : Addr → Option Obj) : PySem.W.Frag := He.frT g (cStatics :: sysModules :: He.asD g n)
abbrev AlY : Type := (He.AlT × Bool) × List He.FnW
def lookY (fa : List He.Fa) (fn : List He.DefD) (tf : List He.Defn) (gs : Gs) (ex : PySem.W.Frag → Bool) (g : Addr → Option Obj) (K : PySem.W.Frag) : AlY := ((He.obsT fa fn [] K, (ex K && gs.all fun q => okAt K (q.1 K) q.2) && He.tabsB g tf K), gs.map fun q => fnAt K (q.1 K))
def obsY (n : Nat) (fa : List He.Fa) (fn : List He.DefD) (tf : List He.Defn) (gs : Gs) (ex : PySem.W.Frag → Bool) (g : Addr → Option Obj) : AlY := lookY fa fn tf gs ex g (KY n g)
def valY (fn : List He.DefD) (gs : Gs) (w : World) : AlY := ((He.valT fn [] w, true), gs.map (·.2.val))
theorem saysY_of {fa : List He.Fa} {fn : List He.DefD} {tf : List He.Defn} {gs : Gs} {ex : PySem.W.Frag → Bool} {w : World} {h : Heap} {as : List Addr} (e : lookY fa fn tf gs ex h.get? (He.frT h.get? as) = valY fn gs w) : SaysY fa fn tf gs ex w h (He.frT h.get? as) := by
  have eT := congrArg (fun z : AlY => z.1.1) e
  have eB := congrArg (fun z : AlY => z.1.2) e
  have eG := congrArg (fun z : AlY => z.2) e
  obtain ⟨eM, eE⟩ := Bool.and_eq_true_iff.mp eB
  have tell : ∀ p ∈ tf, PySem.W.codeHdIn (He.frT h.get? as) (He.cT (He.frT h.get? as) p).1 (He.cT (He.frT h.get? as) p).2 = true ∧ ∃ ob, h.get? (He.cT (He.frT h.get? as) p).2 = some ob ∧ He.emptyTab ob = true := by
    intro p hp
    obtain ⟨a, b⟩ := Bool.and_eq_true_iff.mp (List.all_eq_true.mp eE p hp)
    refine ⟨a, ?_⟩
    split at b
    · rename_i ob eq
      exact ⟨ob, eq, b⟩
    · cases b
  exact ⟨⟨eT, eM, fun p hp => (tell p hp).1, fun p hp => (tell p hp).2.elim fun _ z => He.frT_none z.1 z.2, fun p hp => (tell p hp).2.elim fun _ z => z.1.trans (congrArg some (He.emptyTab_eq z.2))⟩, eG⟩
def hookY (n : Nat) (fa : List He.Fa) (fn : List He.DefD) (tf : List He.Defn) (gs : Gs) (ex : PySem.W.Frag → Bool) : PySem.W.Hook where
  α := AlY
  obs := fun s => obsY n fa fn tf gs ex s.heap.get?
  val := fun w => valY fn gs w
  says := fun w h => ∃ K : PySem.W.Frag, K.In h ∧ SaysY fa fn tf gs ex w h K
  of := fun _ _ e => ⟨_, He.frT_in, saysY_of e⟩
  keeps := fun _ _ _ ⟨K, hK, c⟩ k => ⟨K, PySem.W.Frag.In.keeps hK k, ⟨⟨c.x.t, c.x.more, c.x.hd, c.x.out, fun p hp => k _ _ (c.x.empty p hp)⟩, c.g⟩⟩
theorem obsY_eq {n : Nat} {fa : List He.Fa} {fn : List He.DefD} {tf : List He.Defn} {gs : Gs} {ex : PySem.W.Frag → Bool} {g : Addr → Option Obj} {s : Shared} (h : ∀ a, g a = s.heap.get? a) : obsY n fa fn tf gs ex g = (hookY n fa fn tf gs ex).obs s := by
  have same : g = s.heap.get? := funext h
  rw [same] <;> rfl
section
variable {fa : List He.Fa} {fn : List He.DefD} {tf : List He.Defn} {gs : Gs} {ex : PySem.W.Frag → Bool} {w : World} {h : Heap} {K : PySem.W.Frag}
theorem SaysY.told (c : SaysY fa fn tf gs ex w h K) : ex K = true := (Bool.and_eq_true_iff.mp c.x.more).1
theorem SaysY.def_ (c : SaysY fa fn tf gs ex w h K) (i : Nat) {q : (PySem.W.Frag → Addr) × He.DefD} (hi : gs[i]? = some q := by rfl) : ∃ fd, FunD K q.2.name q.2.qual q.2.params q.2.body q.2.scope (q.2.dvs K) (q.2.kws K) (q.1 K) fd := by
  have c2 := (Bool.and_eq_true_iff.mp c.x.more).2
  have e2 : (gs.map (fun q => fnAt K (q.1 K)))[i]? = (gs.map (·.2.val))[i]? := by rw [c.g]
  rw [List.getElem?_map, List.getElem?_map, hi] at e2
  exact funAt (Option.some.inj e2) (List.all_eq_true.mp c2 q (List.mem_of_getElem? hi))
end
end LC
/-! LcEndT: the end of a law whose defs make lambdas and call repr. -/
namespace LC
open PySem PySem.Spec PyProof.Rows L2 LamX
/-- an empty table of code objects -/
abbrev bareTab : Obj := { cls := .none, data := .fields #[] }
theorem law_callGT {P : Program} {w : World} {K : PySem.W.Frag} {mg mb : Str → Option Value} {CX : CXT} {k : Nat} {fa scr : Addr} {tabs : List (Addr × Addr)} {fd : FuncData} {x : Str} {sp : Sp} {st : Shared} {items : List Value} {nums : List Int}
    (inK : K.In st.heap) (glob : st.heap.Ns mainGlobals mg) (boot : st.heap.Ns builtinsNs mb) (bootN : ∀ y : Str, y ≠ "__name__" → mb y = bootBuiltins y) (lim : st.heap.NoLimit) (noGen : st.gens = #[])
    (bare : ∀ q ∈ tabs, st.heap.get? q.2 = some bareTab) (outK : ∀ q ∈ tabs, K.lookup q.2 = none) (heads : ∀ q ∈ tabs, PySem.W.codeHdIn K q.1 q.2 = true)
    (bmod : ∃ (bm : Addr) (ob : Obj), mg "__builtins__" = some (.ref bm) ∧ bm ≠ builtinsNs ∧ st.heap.get? bm = some ob ∧ ob.cls = .type "module" ∧ ob.dict = some builtinsNs ∧ ob.data = .plain)
    (at_ : st.heap.get? scr = some { cls := .type "list", data := .seq items.toArray }) (are : IntsAre items nums) (few : nums.length ≤ sizeLine) (room : Room k callerA)
    (F : ∀ base : Heap, K.In base → base.Ns mainGlobals mg → (∀ q ∈ tabs, TabB base mg q.1 q.2) → GOk P w K mg base CX k fa fd [x] sp) (binds : ∀ (s : Shared) (u : Value), BindsTo s fd ⟨[u], []⟩ [(x, u)])
    (told : ∀ H : Hp, (∀ q ∈ tabs, H q.2 = some (.tbl #[])) → SqL K H scr (nums.map V.int) → sp [.ref scr] H (fun v _ => v = .bl true) fun _ _ _ => False) (calm : ∀ H e s', CX [] H st (fun _ _ _ => False) e s' → False) :
    codeAny (model P w) callerA (.call (.ref fa) ⟨[.ref scr], []⟩) (fun r s' => r = .ok (.ret (.bool true)) ∧ OldK st.heap s'.heap ∧ s'.os = st.os ∧ AllBare s'.gens) st := by
  have rel := vals_ints are
  let isTab : Addr → Prop := fun b => ∃ q ∈ tabs, q.2 = b
  have tabAt : ∀ b, isTab b → st.heap.get? b = some bareTab := fun b hb => by
    obtain ⟨q, hq, rfl⟩ := hb
    exact bare q hq
  have scrOut : ¬ isTab scr := fun z => by
    have e := tabAt scr z
    rw [at_] at e
    have d := congrArg Obj.data (Option.some.inj e)
    cases d
  have main : ∀ H : Hp, (∀ q ∈ tabs, H q.2 = some (.tbl #[])) → (∀ b, H b = none ∨ isTab b ∨ ∃ o xs, H b = some (.frz o (.lst xs))) → SqL K H scr (nums.map V.int) → HOk P w H st.heap → (∀ b u, H b = some u → b = scr ∨ isTab b) → (∀ u, H scr = some u → K.lookup scr = none) →
      codeAny (model P w) callerA (.call (.ref fa) ⟨[.ref scr], []⟩) (fun r s' => r = .ok (.ret (.bool true)) ∧ OldK st.heap s'.heap ∧ s'.os = st.os ∧ AllBare s'.gens) st := by
    intro H hTab hForm hScr hok hOnly hFree
    have clear : ∀ {b : Addr} {o : Obj}, st.heap.get? b = some o → (∀ vs n, o.data ≠ .seq vs n) → (∀ vs, o.data ≠ .fields vs) → H b = none := fun {b o} e n1 n2 => by
      cases z : H b with
      | none => rfl
      | some u =>
        rcases hOnly b u z with rfl | t
        · rw [at_] at e
          rw [← Option.some.inj e] at n1
          exact absurd rfl (n1 _ _)
        · rw [tabAt b t] at e
          rw [← Option.some.inj e] at n2
          exact absurd rfl (n2 _)
    have clearD : ∀ {b : Addr} {o : Obj} {es : Array DictEntry} {ep : Nat}, st.heap.get? b = some o → o.data = .dict es ep → H b = none := fun {b o es ep} e d => clear e (fun vs n z => by rw [d] at z; cases z) fun vs z => by rw [d] at z; cases z
    have clearP : ∀ {b : Addr} {o : Obj}, st.heap.get? b = some o → o.data = .plain → H b = none := fun {b o} e d => clear e (fun vs n z => by rw [d] at z; cases z) fun vs z => by rw [d] at z; cases z
    have nsAt : ∀ {b : Addr} {m : Str → Option Value}, st.heap.Ns b m → (hidT st.heap H).Ns b m := fun {b m} ⟨o, es, ep, e, d, r⟩ => ⟨o, es, ep, hidT_get e (clearD e d), d, r⟩
    have kinB : K.In (hidT st.heap H) := fun b o e => hidT_get (inK b o e) (by
      cases z : H b with
      | none => rfl
      | some u =>
        rcases hOnly b u z with rfl | ⟨q, hq, rfl⟩
        · rw [hFree u z] at e
          cases e
        · rw [outK q hq] at e
          cases e)
    obtain ⟨mc, l1, l2⟩ := lim
    have modB : Mod K mg (hidT st.heap H) := ⟨kinB, nsAt glob, ⟨mb, nsAt boot, bootN⟩, ⟨mc, nsAt l1, l2⟩⟩
    have noFr : ∀ b : Addr, b ∉ frs [] := fun b z => by cases z
    have env : Env0 P w K mg (hidT st.heap H) callerA [] st H := ⟨rfl, modB, fun b o e => of_hidT e, Nat.le_of_eq (hidT_size _ _), trivial, fun b z => absurd z (noFr b), hok, .of_eq noGen⟩
    have TB : ∀ q ∈ tabs, TabB (hidT st.heap H) mg q.1 q.2 := fun q hq => by
      obtain ⟨bm, ob, m1, m2, m3, m4, m5, m6⟩ := bmod
      have gMain : bm ≠ mainGlobals := fun z => by
        obtain ⟨o, es, ep, e, d, _⟩ := glob
        rw [← z, m3] at e
        rw [← Option.some.inj e, m6] at d
        cases d
      have gTab : bm ≠ q.2 := fun z => by
        have e := bare q hq
        rw [← z, m3] at e
        rw [Option.some.inj e] at m6
        cases m6
      refine NdefX.tabB_of_K kinB (heads q hq) ⟨bm, ob, m1, m2, gMain, gTab, hidT_get m3 (clearP m3 m6), m4, m5, m6⟩ fun z => ?_
      obtain ⟨o, es, ep, e, d, _⟩ := glob
      rw [z, bare q hq] at e
      rw [← Option.some.inj e] at d
      cases d
    refine codeAny_mono ((F _ kinB (nsAt glob) TB).go callerA [] st H ⟨[.ref scr], []⟩ [.ref scr] [.ref scr] _ _ rfl room env (binds st (.ref scr)) (.cons rfl .nil) (told H hTab hScr)) fun r s' out => ?_
    match r, out with
    | .error e, out => exact (calm H e s' out).elim
    | .ok .next, out => exact False.elim out
    | .ok .brk, out => exact False.elim out
    | .ok .cont, out => exact False.elim out
    | .ok (.ret u), out =>
      obtain ⟨v, H', os, gensB, un, hok', ru, ev⟩ := out
      cases (show v = .bl true from ev)
      cases (show u = Value.bool true from ru)
      have stays : ∀ b o, ¬ isTab b → st.heap.get? b = some o → s'.heap.get? b = some o := fun b o nt e => by
        cases z : H b with
        | none => exact un.keep b o e z (noFr b) (fun y => by cases y)
        | some u =>
          rcases hForm b with y | y | ⟨ob, xs, y⟩
          · rw [z] at y
            cases y
          · exact absurd y nt
          · have e1 := And.left (hok b _ y)
            have e2 := And.left (hok' b _ (un.frzs b ob _ y))
            rw [e] at e1
            cases e1
            exact e2
      have grows : ∀ q ∈ tabs, ∃ more : Array Value, s'.heap.get? q.2 = some { cls := .none, data := .fields more } := fun q hq => by
        obtain ⟨more, z⟩ := un.tbls q.2 #[] (hTab q hq)
        exact ⟨_, hok' q.2 _ z⟩
      refine ⟨rfl, ⟨fun b o e => ?_, fun b o e => ?_⟩, os, gensB⟩
      · by_cases t : isTab b
        · obtain ⟨q, hq, rfl⟩ := t
          obtain ⟨more, hm⟩ := grows q hq
          rw [bare q hq] at e
          cases e
          refine .inr (.inl ⟨((PySem.W.codeHd_of_K inK (heads q hq)).tab (bare q hq)).isCodeTable, rfl, #[], more, rfl, ?_⟩)
          rw [hm, Array.empty_append]
        · exact .inl (stays b o t e)
      · by_cases t : isTab b
        · obtain ⟨q, hq, rfl⟩ := t
          obtain ⟨more, hm⟩ := grows q hq
          exact ⟨_, hm⟩
        · exact ⟨o, stays b o t e⟩
  have tq : ∀ q ∈ tabs, isTab q.2 := fun q hq => ⟨q, hq, rfl⟩
  have nlen : (nums.map V.int).length ≤ sizeLine := by
    rw [List.length_map]
    exact few
  open Classical in
  cases hk : K.lookup scr with
  | some o =>
    have e := inK scr o hk
    rw [at_] at e
    cases e
    have form : ∀ b u, (fun b : Addr => if isTab b then some (HO.tbl #[]) else none) b = some u → isTab b ∧ u = HO.tbl #[] := fun b u z => by
      by_cases t : isTab b
      · exact ⟨t, (Option.some.inj ((if_pos t).symm.trans z)).symm⟩
      · cases (if_neg t).symm.trans z
    refine main (fun b => if isTab b then some (.tbl #[]) else none) (fun q hq => if_pos (tq q hq)) (fun b => ?_) (.inr ⟨_, items.toArray, _, hk, rfl, rfl, rfl, ?_, by simpa using rel⟩) (fun b u z => ?_) (fun b u z => .inr (form b u z).1) fun u z => absurd (form scr u z).1 scrOut
    · by_cases t : isTab b
      · exact .inr (.inl t)
      · exact .inl (if_neg t)
    · rw [List.size_toArray, are.length]
      exact few
    · obtain ⟨t, rfl⟩ := form b u z
      exact tabAt b t
  | none =>
    have form : ∀ b u, (fun b : Addr => if b = scr then some (HO.frz { cls := .type "list", data := .seq items.toArray } (.lst (nums.map V.int))) else if isTab b then some (HO.tbl #[]) else none) b = some u → (b = scr ∧ u = HO.frz { cls := .type "list", data := .seq items.toArray } (.lst (nums.map V.int))) ∨ (isTab b ∧ u = HO.tbl #[]) := fun b u z => by
      by_cases s : b = scr
      · exact .inl ⟨s, (Option.some.inj ((if_pos s).symm.trans z)).symm⟩
      · have z := (if_neg s).symm.trans z
        by_cases t : isTab b
        · exact .inr ⟨t, (Option.some.inj ((if_pos t).symm.trans z)).symm⟩
        · cases (if_neg t).symm.trans z
    refine main (fun b => if b = scr then some (.frz { cls := .type "list", data := .seq items.toArray } (.lst (nums.map V.int))) else if isTab b then some (.tbl #[]) else none) (fun q hq => ?_) (fun b => ?_) (.inl (.inr ⟨_, if_pos rfl⟩)) (fun b u z => ?_) (fun b u z => (form b u z).imp (·.1) (·.1)) fun _ _ => hk
    · have s : ¬ q.2 = scr := fun z => scrOut ⟨q, hq, z⟩
      show (if q.2 = scr then _ else _) = _
      rw [if_neg s]
      exact if_pos (tq q hq)
    · by_cases s : b = scr
      · exact .inr (.inr ⟨_, _, if_pos s⟩)
      · by_cases t : isTab b
        · exact .inr (.inl t)
        · exact .inl ((if_neg s).trans (if_neg t))
    · rcases form b u z with ⟨rfl, rfl⟩ | ⟨t, rfl⟩
      · exact ⟨at_, nlen, items, _, rel, at_⟩
      · exact tabAt b t
theorem walk_GT {l : PySem.W.OpenLaw} {n k : Nat} {q : Program} {loose : List Str} {XP : (Str → Option Value) → Heap → Prop} {YP : World → Heap → Prop} {d : DefRec} {CX : World → CXT} {x : Str} (hn : l.most = some n) (hn2 : n ≤ sizeLine) (hdf : d.params.defaults = []) (hr : Room k callerA)
    (F : ∀ (w : World) (mg : Str → Option Value) (fa : Addr) (h : Heap), YP w h → h.Ns mainGlobals mg → mg d.name = some (.ref fa) →
      ∃ (K : PySem.W.Frag) (fd : FuncData) (sp : Sp) (tabs : List (Addr × Addr)), K.In h ∧ (∀ q ∈ tabs, h.get? q.2 = some bareTab) ∧ (∀ q ∈ tabs, K.lookup q.2 = none) ∧ (∀ q ∈ tabs, PySem.W.codeHdIn K q.1 q.2 = true) ∧ (∀ (s : Shared) (u : Value), BindsTo s fd ⟨[u], []⟩ [(x, u)]) ∧
        (∀ (H : Hp) (a : Addr) (ns : List Int), ns.length ≤ n → (∀ q ∈ tabs, H q.2 = some (.tbl #[])) → SqL K H a (ns.map V.int) → sp [.ref a] H (fun v _ => v = .bl true) fun _ _ _ => False) ∧
        ∀ base : Heap, K.In base → base.Ns mainGlobals mg → (∀ q ∈ tabs, TabB base mg q.1 q.2) → GOk l.prog w K mg base (CX w) k fa fd [x] sp)
    (hCX : ∀ (w : World) (H : Hp) (s : Shared) (e : Value) (s' : Shared), CX w [] H s (fun _ _ _ => False) e s' → False) : PySem.W.WalkO q loose XP YP l.row.toRowW d [] (fun f vs => PySem.call f vs) := by
  refine Att.attach_call hn hdf fun w s0 s1 mg mb fa o pm cd doc a vs ns G Y ho hd hcd hmg hobj hints hlen hg => ?_
  obtain ⟨K, fd, sp, tabs, KX, bare, outK, heads, hb, hsp, hF⟩ := F w mg fa _ Y G.T.g hmg
  exact law_callGT KX G.T.g G.T.b G.T.builtins G.T.nolimit hg bare outK heads G.T.bmain hobj hints (Nat.le_trans hlen hn2) hr hF hb (fun H t hS => hsp H a ns hlen t hS) fun H e s' => hCX w H s1 e s'
end LC
namespace LC
open PySem PySem.Spec PyProof.Rows L2
/-- a def of the top, a method -/
def dP (x : Str) (st : Stmt) : He.DefD := ⟨(x, none), x, x, defArgs st, defBody st, defScope st, [], []⟩
def dC (C m q : Str) (st : Stmt) : He.DefD := ⟨(C, some m), m, q, defArgs st, defBody st, defScope st, [], []⟩
def d_is_integer : He.DefD := dP "is_integer" s_is_integer
def d_is_from : He.DefD := dP "is_from" s_is_from
def d_is_within : He.DefD := dP "is_within" s_is_within
def d_decimal : He.DefD := dP "decimal" s_decimal
def d_check_row : He.DefD := dP "check_row" s_check_row
def d_least_period : He.DefD := dP "least_period" s_least_period
def d_least_start : He.DefD := dP "least_start" s_least_start
def d_row_words : He.DefD := dP "row_words" s_row_words
def d_pen : He.DefD := dP "_law_pen" s_pen
def d_draw : He.DefD := dP "_law_draw" s_draw
def d_pick : He.DefD := dP "_law_pick" s_pick
def d_told : He.DefD := dP "_law_told" s_told
def d_at : He.DefD := dP "_law_at" s_at
def d_least : He.DefD := dP "_law_least" s_least
def d_other : He.DefD := dP "_law_other" s_other
def d_row : He.DefD := dP "_law_row" s_row
def d_right : He.DefD := dP "_law_right" s_right
def d_equal_right : He.DefD := dP "_law_equal_right" s_equal_right
def d_heard : He.DefD := dP "_law_heard" s_heard
def d_no_integer : He.DefD := dP "_law_no_integer" s_no_integer
def d_refused : He.DefD := dP "_law_refused" s_refused
def d_long_right : He.DefD := dP "_law_long_right" s_long_right
def d_large_right : He.DefD := dP "_law_large_right" s_large_right
def d_great_right : He.DefD := dP "_law_great_right" s_great_right
def d_law : He.DefD := dP "law" s_law
def d_BadNumber_init : He.DefD := dC "BadNumber" "__init__" "BadNumber.__init__" s_BadNumber_init
def d_TooMany_init : He.DefD := dC "TooMany" "__init__" "TooMany.__init__" s_TooMany_init
def d_Row_init : He.DefD := dC "Row" "__init__" "Row.__init__" s_Row_init
def d_Row_getitem : He.DefD := dC "Row" "__getitem__" "Row.__getitem__" s_Row_getitem
def d_Row_eq : He.DefD := dC "Row" "__eq__" "Row.__eq__" s_Row_eq
def d_Row_str : He.DefD := dC "Row" "__str__" "Row.__str__" s_Row_str
def d_Row_start : He.DefD := dC "Row" "start" "Row.start" s_Row_start
def d_Row_period : He.DefD := dC "Row" "period" "Row.period" s_Row_period
def d_Row_step : He.DefD := dC "Row" "step" "Row.step" s_Row_step
def d_Row_numbers : He.DefD := dC "Row" "numbers" "Row.numbers" s_Row_numbers
def fn : List He.DefD := [d_is_integer, d_is_from, d_is_within, d_decimal, d_check_row, d_least_period, d_least_start, d_row_words, d_pen, d_draw, d_pick, d_told, d_at, d_least, d_other, d_row, d_right, d_equal_right, d_heard, d_no_integer, d_refused, d_long_right, d_large_right, d_great_right, d_law, d_BadNumber_init, d_TooMany_init, d_Row_init, d_Row_getitem, d_Row_eq, d_Row_str]
def gs : Gs := [(fun K => recOf K (He.ma K (He.ga K "Row") "start") "property", d_Row_start), (fun K => recOf K (He.ma K (He.ga K "Row") "period") "property", d_Row_period), (fun K => recOf K (He.ma K (He.ga K "Row") "step") "property", d_Row_step), (fun K => recOf K (He.ma K (He.ga K "Row") "numbers") "property", d_Row_numbers)]
def fa0 : List He.Fa := [.glo "is_integer", .glo "is_from", .glo "is_within", .glo "decimal", .glo "check_row", .glo "least_period", .glo "least_start", .glo "row_words", .glo "_law_pen", .glo "_law_draw", .glo "_law_pick", .glo "_law_told", .glo "_law_at", .glo "_law_least", .glo "_law_other", .glo "_law_row", .glo "_law_right", .glo "_law_equal_right", .glo "_law_heard", .glo "_law_no_integer", .glo "_law_refused", .glo "_law_long_right", .glo "_law_large_right", .glo "_law_great_right", .glo "law", .glo "Row", .glo "LeastError", .glo "BadNumber", .glo "TooMany", .glo "BadCode"]
def fa1 : List He.Fa := [.glo "BadInput", .glo "BadPrice", .glo "BadSlots", .glo "BadWork", .free "len", .free "int", .free "list", .free "abs", .free "range", .free "tuple", .free "str", .free "bool", .free "isinstance", .free "repr", .free "divmod", .free "ValueError", .int "BLOCK_DIGITS" 64, .int "BLOCK" (10 ^ 64), .int "MOST_NUMBERS" 2000, .cls "Row", .noat "Row" "_start", .noat "Row" "_period", .noat "Row" "_step", .noat "Row" "_numbers", .mkr "Row", .meth "Row" "__eq__", .meth "Row" "__str__", .meth "Row" "__getitem__", .meth "BadNumber" "__init__", .meth "TooMany" "__init__"]
def fa : List He.Fa := fa0 ++ fa1
def exL (K : PySem.W.Frag) : List Bool := [heldB K (He.ga K "BadNumber"),
  heldB K (He.ga K "TooMany"),
  oexB K (He.ga K "BadNumber"),
  oexB K (He.ga K "TooMany"),
  decide (PySem.W.exmOne K (.ref (He.ga K "BadNumber")) (.ref (He.ga K "LeastError")) = some true),
  decide (PySem.W.kitAny K (.ref (He.ga K "BadNumber")) [.ref (He.ga K "BadCode"), .ref (He.ga K "BadInput"), .ref (He.ga K "BadPrice"), .ref (He.ga K "BadSlots"), .ref (He.ga K "BadWork")] = some false),
  decide (PySem.W.kitOne K (.ref (He.ga K "BadNumber")) (.type "ValueError") = some true),
  decide (PySem.W.typeIn K (.ref (He.ma K (He.ga K "BadNumber") "__init__")) = some (.type "function")),
  decide (PySem.W.exmOne K (.ref (He.ga K "TooMany")) (.ref (He.ga K "LeastError")) = some true),
  decide (PySem.W.kitAny K (.ref (He.ga K "TooMany")) [.ref (He.ga K "BadCode"), .ref (He.ga K "BadInput"), .ref (He.ga K "BadPrice"), .ref (He.ga K "BadSlots"), .ref (He.ga K "BadWork")] = some false),
  decide (PySem.W.kitOne K (.ref (He.ga K "TooMany")) (.type "ValueError") = some true),
  decide (PySem.W.typeIn K (.ref (He.ma K (He.ga K "TooMany") "__init__")) = some (.type "function")),
  decide (PySem.W.kitOne K (.ref (He.ga K "BadNumber")) (.ref (He.ga K "BadNumber")) = some true),
  decide (PySem.W.kitOne K (.ref (He.ga K "BadNumber")) (.ref (He.ga K "TooMany")) = some false),
  decide (PySem.W.kitOne K (.ref (He.ga K "TooMany")) (.ref (He.ga K "BadNumber")) = some false),
  decide (PySem.W.kitOne K (.ref (He.ga K "TooMany")) (.ref (He.ga K "TooMany")) = some true),
  He.eqO (PySem.W.findIn K (.ref (He.ga K "BadNumber")) "value") (some none),
  He.eqO (PySem.W.findIn K (.ref (He.ga K "TooMany")) "most") (some none),
  He.eqO (PySem.W.findIn K (.ref (He.ga K "Row")) "__class__") (some (some (.builtin "object.__class__"))),
  He.eqO (PySem.W.specialIn K (.builtin "object.__class__") "__get__") (some (some (.builtin "getset_descriptor.__get__"))),
  decide (PySem.W.takesIn K (.builtin "object.__class__") = some true),
  decide (PySem.W.mroIn K (He.ga K "Row") (.type "object") = some true),
  decide (PySem.W.kitOne K (.ref (He.ga K "Row")) (.ref (He.ga K "Row")) = some true),
  kinds.all fun n => decide (PySem.W.kitOne K (.type n) (.ref (He.ga K "Row")) = some false),
  kinds.all fun n => PySem.W.notFirst K (He.ga K "Row") (.type n),
  He.eqO (PySem.W.findIn K (.ref (He.ga K "Row")) "__ne__") (some (some (.builtin "object.__ne__"))),
  PySem.W.fnIn K (He.ma K (He.ga K "Row") "__getitem__"),
  propB K (He.ga K "Row") "start",
  propB K (He.ga K "Row") "period",
  propB K (He.ga K "Row") "step",
  propB K (He.ga K "Row") "numbers",
  decide ((He.cT K ("_law_refused", none)).2 ≠ (He.cT K ("_law_large_right", none)).2),
  sysB K]
def exB (K : PySem.W.Frag) : Bool := (exL K).all id
theorem exB_at {K : PySem.W.Frag} (h : exB K = true) (i : Nat) {b : Bool} (e : (exL K)[i]? = some b) : b = true := List.all_eq_true.mp h b (List.mem_of_getElem? e)
abbrev tf : List He.Defn := [("_law_refused", none), ("_law_large_right", none)]
abbrev SY (w : World) (h : Heap) (K : PySem.W.Frag) : Prop := SaysY fa fn tf gs exB w h K
abbrev TB (K : PySem.W.Frag) : List (Addr × Str) := [((He.cT K ("_law_refused", none)).2, "_law_refused.<locals>.<lambda>"), ((He.cT K ("_law_large_right", none)).2, "_law_large_right.<locals>.<lambda>")]
theorem kb_row {f : Addr} {K : PySem.W.Frag} {fd : FuncData} (F : FunD K "__init__" "Row.__init__" (defArgs s_Row_init) (defBody s_Row_init) (defScope s_Row_init) [] [] f fd) : KBn K fd ["self", "numbers", "period", "step"] 1 ["numbers", "period", "step"] (fun a b => a ++ b) (fun a b => a ++ b) := by
  obtain ⟨oc, od, dV, kV, doc, pm, an, cdv, ct, osl, rfl, lk, hcd, hD, hK⟩ := F.ex
  rcases hD with ⟨_, rfl⟩ | ⟨e, _⟩
  · refine ⟨fun s us ws X l1 l2 => ?_, fun r1 r2 => r1.append r2⟩
    match us, l1, ws, l2 with
    | [u], _, [m1, m2, m3], _ => exact .of_eq rfl
  · exact absurd rfl e
theorem tabs_of {K : PySem.W.Frag} {H : Hp} (h : ∀ q ∈ [He.cT K ("_law_refused", none), He.cT K ("_law_large_right", none)], H q.2 = some (.tbl #[])) : LamX.Tabs (TB K) H := fun p hp => by
  have key : ∀ q ∈ [He.cT K ("_law_refused", none), He.cT K ("_law_large_right", none)], ∀ z, LamX.TabS H q.2 z := fun q hq z => ⟨#[], h q hq, by first | trivial | exact .nil | decide, fun pos cv hc => by cases hc⟩
  rcases List.mem_cons.mp hp with rfl | hp
  · exact key _ (List.mem_cons_self ..) _
  · rcases List.mem_cons.mp hp with rfl | hp
    · exact key _ (List.mem_cons_of_mem _ (List.mem_cons_self ..)) _
    · cases hp
theorem cd_of {K : PySem.W.Frag} {x : Str} {st : Stmt} {fd : FuncData} {p : He.Defn} (F : FunD K x x (defArgs st) (defBody st) (defScope st) [] [] (He.fAd K p) fd) : fd.code = .ref (He.cT K p).1 := by
  obtain ⟨oc, od, dV, kV, doc, pm, an, cdv, ct, osl, rfl, lk, hcd, hD, hK⟩ := F.ex
  obtain ⟨cc, e⟩ := He.codeIn_ref hcd
  have z := He.codeOf_eq lk e
  show cdv = .ref (He.codeOf K p)
  rw [z, ← e]
theorem facts {P : Program} {w : World} {K : PySem.W.Frag} {h : Heap} {mg : Str → Option Value} {f : Addr} (X : K.In h) (G : h.Ns mainGlobals mg) (hfa : mg ("law" : Str) = some (.ref f)) (c : SY w h K) :
    ∃ fd : FuncData, (∀ (s : Shared) (v : Value), BindsTo s fd ⟨[v], []⟩ [("script", v)]) ∧ ∀ base : Heap, K.In base → base.Ns mainGlobals mg → (∀ q ∈ [He.cT K ("_law_refused", none), He.cT K ("_law_large_right", none)], LamX.TabB base mg q.1 q.2) → GOk P w K mg base CX0 11 f fd ["script"] (spLaw K (TB K)) := by
  have XE : exB K = true := c.told
  obtain ⟨fd_is_integer, F_is_integer⟩ := c.x.t.d.def_ 0 (d := d_is_integer) rfl
  obtain ⟨fd_is_from, F_is_from⟩ := c.x.t.d.def_ 1 (d := d_is_from) rfl
  obtain ⟨fd_is_within, F_is_within⟩ := c.x.t.d.def_ 2 (d := d_is_within) rfl
  obtain ⟨fd_decimal, F_decimal⟩ := c.x.t.d.def_ 3 (d := d_decimal) rfl
  obtain ⟨fd_check_row, F_check_row⟩ := c.x.t.d.def_ 4 (d := d_check_row) rfl
  obtain ⟨fd_least_period, F_least_period⟩ := c.x.t.d.def_ 5 (d := d_least_period) rfl
  obtain ⟨fd_least_start, F_least_start⟩ := c.x.t.d.def_ 6 (d := d_least_start) rfl
  obtain ⟨fd_row_words, F_row_words⟩ := c.x.t.d.def_ 7 (d := d_row_words) rfl
  obtain ⟨fd_pen, F_pen⟩ := c.x.t.d.def_ 8 (d := d_pen) rfl
  obtain ⟨fd_draw, F_draw⟩ := c.x.t.d.def_ 9 (d := d_draw) rfl
  obtain ⟨fd_pick, F_pick⟩ := c.x.t.d.def_ 10 (d := d_pick) rfl
  obtain ⟨fd_told, F_told⟩ := c.x.t.d.def_ 11 (d := d_told) rfl
  obtain ⟨fd_at, F_at⟩ := c.x.t.d.def_ 12 (d := d_at) rfl
  obtain ⟨fd_least, F_least⟩ := c.x.t.d.def_ 13 (d := d_least) rfl
  obtain ⟨fd_other, F_other⟩ := c.x.t.d.def_ 14 (d := d_other) rfl
  obtain ⟨fd_row, F_row⟩ := c.x.t.d.def_ 15 (d := d_row) rfl
  obtain ⟨fd_right, F_right⟩ := c.x.t.d.def_ 16 (d := d_right) rfl
  obtain ⟨fd_equal_right, F_equal_right⟩ := c.x.t.d.def_ 17 (d := d_equal_right) rfl
  obtain ⟨fd_heard, F_heard⟩ := c.x.t.d.def_ 18 (d := d_heard) rfl
  obtain ⟨fd_no_integer, F_no_integer⟩ := c.x.t.d.def_ 19 (d := d_no_integer) rfl
  obtain ⟨fd_refused, F_refused⟩ := c.x.t.d.def_ 20 (d := d_refused) rfl
  obtain ⟨fd_long_right, F_long_right⟩ := c.x.t.d.def_ 21 (d := d_long_right) rfl
  obtain ⟨fd_large_right, F_large_right⟩ := c.x.t.d.def_ 22 (d := d_large_right) rfl
  obtain ⟨fd_great_right, F_great_right⟩ := c.x.t.d.def_ 23 (d := d_great_right) rfl
  obtain ⟨fd_law, F_law⟩ := c.x.t.d.def_ 24 (d := d_law) rfl
  obtain ⟨fd_BadNumber_init, F_BadNumber_init⟩ := c.x.t.d.def_ 25 (d := d_BadNumber_init) rfl
  obtain ⟨fd_TooMany_init, F_TooMany_init⟩ := c.x.t.d.def_ 26 (d := d_TooMany_init) rfl
  obtain ⟨fd_Row_init, F_Row_init⟩ := c.x.t.d.def_ 27 (d := d_Row_init) rfl
  obtain ⟨fd_Row_getitem, F_Row_getitem⟩ := c.x.t.d.def_ 28 (d := d_Row_getitem) rfl
  obtain ⟨fd_Row_eq, F_Row_eq⟩ := c.x.t.d.def_ 29 (d := d_Row_eq) rfl
  obtain ⟨fd_Row_str, F_Row_str⟩ := c.x.t.d.def_ 30 (d := d_Row_str) rfl
  obtain ⟨fd_Row_start, F_Row_start⟩ := c.def_ 0 (q := (fun K => recOf K (He.ma K (He.ga K "Row") "start") "property", d_Row_start)) rfl
  obtain ⟨fd_Row_period, F_Row_period⟩ := c.def_ 1 (q := (fun K => recOf K (He.ma K (He.ga K "Row") "period") "property", d_Row_period)) rfl
  obtain ⟨fd_Row_step, F_Row_step⟩ := c.def_ 2 (q := (fun K => recOf K (He.ma K (He.ga K "Row") "step") "property", d_Row_step)) rfl
  obtain ⟨fd_Row_numbers, F_Row_numbers⟩ := c.def_ 3 (q := (fun K => recOf K (He.ma K (He.ga K "Row") "numbers") "property", d_Row_numbers)) rfl
  have e := hfa.symm.trans (He.glo_ok X G (c.x.t.d.fact 24 (f := .glo "law") rfl))
  cases e
  have T : Txt mg := ⟨He.free_ok X G (c.x.t.d.fact 34 (f := .free "len") rfl), He.free_ok X G (c.x.t.d.fact 35 (f := .free "int") rfl), He.free_ok X G (c.x.t.d.fact 36 (f := .free "list") rfl), He.free_ok X G (c.x.t.d.fact 37 (f := .free "abs") rfl), He.free_ok X G (c.x.t.d.fact 38 (f := .free "range") rfl), He.free_ok X G (c.x.t.d.fact 39 (f := .free "tuple") rfl), He.free_ok X G (c.x.t.d.fact 40 (f := .free "str") rfl), He.free_ok X G (c.x.t.d.fact 41 (f := .free "bool") rfl), He.free_ok X G (c.x.t.d.fact 42 (f := .free "isinstance") rfl), He.free_ok X G (c.x.t.d.fact 43 (f := .free "repr") rfl), He.free_ok X G (c.x.t.d.fact 44 (f := .free "divmod") rfl), He.int_ok X G (c.x.t.d.fact 46 (f := .int "BLOCK_DIGITS" 64) rfl), He.int_ok X G (c.x.t.d.fact 47 (f := .int "BLOCK" (10 ^ 64)) rfl), He.int_ok X G (c.x.t.d.fact 48 (f := .int "MOST_NUMBERS" 2000) rfl)⟩
  have S : RowTxt K mg (He.ga K "Row") := ⟨He.cls_ok (c.x.t.d.fact 49 (f := .cls "Row") rfl), He.noat_ok (c.x.t.d.fact 50 (f := .noat "Row" "_start") rfl), He.noat_ok (c.x.t.d.fact 51 (f := .noat "Row" "_period") rfl), He.noat_ok (c.x.t.d.fact 52 (f := .noat "Row" "_step") rfl), He.noat_ok (c.x.t.d.fact 53 (f := .noat "Row" "_numbers") rfl), He.glo_ok X G (c.x.t.d.fact 25 (f := .glo "Row") rfl)⟩
  have M := He.mkr_ok (c.x.t.d.fact 54 (f := .mkr "Row") rfl)
  have mE := He.meth_ok (c.x.t.d.fact 55 (f := .meth "Row" "__eq__") rfl)
  have mStr := He.meth_ok (c.x.t.d.fact 56 (f := .meth "Row" "__str__") rfl)
  have mG := He.meth_ok (c.x.t.d.fact 57 (f := .meth "Row" "__getitem__") rfl)
  have mB := He.meth_ok (c.x.t.d.fact 58 (f := .meth "BadNumber" "__init__") rfl)
  have mM := He.meth_ok (c.x.t.d.fact 59 (f := .meth "TooMany" "__init__") rfl)
  have I : RowIs K (He.ga K "Row") := ⟨(He.eqO_ok (exB_at XE 18 (b := He.eqO (PySem.W.findIn K (.ref (He.ga K "Row")) "__class__") (some (some (.builtin "object.__class__")))) rfl)), (He.eqO_ok (exB_at XE 19 (b := He.eqO (PySem.W.specialIn K (.builtin "object.__class__") "__get__") (some (some (.builtin "getset_descriptor.__get__")))) rfl)), (of_decide_eq_true (exB_at XE 20 (b := decide (PySem.W.takesIn K (.builtin "object.__class__") = some true)) rfl)), (of_decide_eq_true (exB_at XE 21 (b := decide (PySem.W.mroIn K (He.ga K "Row") (.type "object") = some true)) rfl)), (of_decide_eq_true (exB_at XE 22 (b := decide (PySem.W.kitOne K (.ref (He.ga K "Row")) (.ref (He.ga K "Row")) = some true)) rfl)), fun n hn => of_decide_eq_true (List.all_eq_true.mp (exB_at XE 23 (b := kinds.all fun n => decide (PySem.W.kitOne K (.type n) (.ref (He.ga K "Row")) = some false)) rfl) n hn)⟩
  have HF : HeardF K mg (He.ga K "LeastError") (He.ga K "BadNumber") (He.ga K "TooMany") (He.ga K "BadCode") (He.ga K "BadInput") (He.ga K "BadPrice") (He.ga K "BadSlots") (He.ga K "BadWork") := ⟨He.free_ok X G (c.x.t.d.fact 45 (f := .free "ValueError") rfl), (He.glo_ok X G (c.x.t.d.fact 26 (f := .glo "LeastError") rfl)), (He.glo_ok X G (c.x.t.d.fact 27 (f := .glo "BadNumber") rfl)), (He.glo_ok X G (c.x.t.d.fact 28 (f := .glo "TooMany") rfl)), (He.glo_ok X G (c.x.t.d.fact 29 (f := .glo "BadCode") rfl)), (He.glo_ok X G (c.x.t.d.fact 30 (f := .glo "BadInput") rfl)), (He.glo_ok X G (c.x.t.d.fact 31 (f := .glo "BadPrice") rfl)), (He.glo_ok X G (c.x.t.d.fact 32 (f := .glo "BadSlots") rfl)), (He.glo_ok X G (c.x.t.d.fact 33 (f := .glo "BadWork") rfl)), heldC_of (exB_at XE 0 (b := heldB K (He.ga K "BadNumber")) rfl), heldC_of (exB_at XE 1 (b := heldB K (He.ga K "TooMany")) rfl), (of_decide_eq_true (exB_at XE 4 (b := decide (PySem.W.exmOne K (.ref (He.ga K "BadNumber")) (.ref (He.ga K "LeastError")) = some true)) rfl)), (of_decide_eq_true (exB_at XE 8 (b := decide (PySem.W.exmOne K (.ref (He.ga K "TooMany")) (.ref (He.ga K "LeastError")) = some true)) rfl)), (of_decide_eq_true (exB_at XE 5 (b := decide (PySem.W.kitAny K (.ref (He.ga K "BadNumber")) [.ref (He.ga K "BadCode"), .ref (He.ga K "BadInput"), .ref (He.ga K "BadPrice"), .ref (He.ga K "BadSlots"), .ref (He.ga K "BadWork")] = some false)) rfl)), (of_decide_eq_true (exB_at XE 9 (b := decide (PySem.W.kitAny K (.ref (He.ga K "TooMany")) [.ref (He.ga K "BadCode"), .ref (He.ga K "BadInput"), .ref (He.ga K "BadPrice"), .ref (He.ga K "BadSlots"), .ref (He.ga K "BadWork")] = some false)) rfl)), (of_decide_eq_true (exB_at XE 6 (b := decide (PySem.W.kitOne K (.ref (He.ga K "BadNumber")) (.type "ValueError") = some true)) rfl)), (of_decide_eq_true (exB_at XE 10 (b := decide (PySem.W.kitOne K (.ref (He.ga K "TooMany")) (.type "ValueError") = some true)) rfl)), (of_decide_eq_true (exB_at XE 12 (b := decide (PySem.W.kitOne K (.ref (He.ga K "BadNumber")) (.ref (He.ga K "BadNumber")) = some true)) rfl)), (of_decide_eq_true (exB_at XE 13 (b := decide (PySem.W.kitOne K (.ref (He.ga K "BadNumber")) (.ref (He.ga K "TooMany")) = some false)) rfl)), (of_decide_eq_true (exB_at XE 14 (b := decide (PySem.W.kitOne K (.ref (He.ga K "TooMany")) (.ref (He.ga K "BadNumber")) = some false)) rfl)), (of_decide_eq_true (exB_at XE 15 (b := decide (PySem.W.kitOne K (.ref (He.ga K "TooMany")) (.ref (He.ga K "TooMany")) = some true)) rfl)), (He.eqO_ok (exB_at XE 16 (b := He.eqO (PySem.W.findIn K (.ref (He.ga K "BadNumber")) "value") (some none)) rfl)), (He.eqO_ok (exB_at XE 17 (b := He.eqO (PySem.W.findIn K (.ref (He.ga K "TooMany")) "most") (some none)) rfl))⟩
  have b_is_integer := F_is_integer.bindsN (ps := ["value"]) fun _ _ _ _ _ _ us hl => match us, hl with | [_], _ => rfl
  have b_is_from := F_is_from.bindsN (ps := ["value", "least"]) fun _ _ _ _ _ _ us hl => match us, hl with | [_, _], _ => rfl
  have b_is_within := F_is_within.bindsN (ps := ["value", "least", "most"]) fun _ _ _ _ _ _ us hl => match us, hl with | [_, _, _], _ => rfl
  have b_decimal := F_decimal.bindsN (ps := ["number"]) fun _ _ _ _ _ _ us hl => match us, hl with | [_], _ => rfl
  have b_check_row := F_check_row.bindsN (ps := ["numbers", "period", "step"]) fun _ _ _ _ _ _ us hl => match us, hl with | [_, _, _], _ => rfl
  have b_least_period := F_least_period.bindsN (ps := ["rises"]) fun _ _ _ _ _ _ us hl => match us, hl with | [_], _ => rfl
  have b_least_start := F_least_start.bindsN (ps := ["rises", "period", "start"]) fun _ _ _ _ _ _ us hl => match us, hl with | [_, _, _], _ => rfl
  have b_row_words := F_row_words.bindsN (ps := ["numbers", "start", "step"]) fun _ _ _ _ _ _ us hl => match us, hl with | [_, _, _], _ => rfl
  have b_pen := F_pen.bindsN (ps := ["script"]) fun _ _ _ _ _ _ us hl => match us, hl with | [_], _ => rfl
  have b_draw := F_draw.bindsN (ps := ["pen", "many"]) fun _ _ _ _ _ _ us hl => match us, hl with | [_, _], _ => rfl
  have b_pick := F_pick.bindsN (ps := ["pen", "some"]) fun _ _ _ _ _ _ us hl => match us, hl with | [_, _], _ => rfl
  have b_told := F_told.bindsN (ps := ["pen"]) fun _ _ _ _ _ _ us hl => match us, hl with | [_], _ => rfl
  have b_at := F_at.bindsN (ps := ["told", "n"]) fun _ _ _ _ _ _ us hl => match us, hl with | [_, _], _ => rfl
  have b_least := F_least.bindsN (ps := ["told"]) fun _ _ _ _ _ _ us hl => match us, hl with | [_], _ => rfl
  have b_other := F_other.bindsN (ps := ["pen", "told"]) fun _ _ _ _ _ _ us hl => match us, hl with | [_, _], _ => rfl
  have b_row := F_row.bindsN (ps := ["told", "is_list"]) fun _ _ _ _ _ _ us hl => match us, hl with | [_, _], _ => rfl
  have b_right := F_right.bindsN (ps := ["pen", "told"]) fun _ _ _ _ _ _ us hl => match us, hl with | [_, _], _ => rfl
  have b_equal_right := F_equal_right.bindsN (ps := ["pen", "told"]) fun _ _ _ _ _ _ us hl => match us, hl with | [_, _], _ => rfl
  have b_heard := F_heard.bindsN (ps := ["ask"]) fun _ _ _ _ _ _ us hl => match us, hl with | [_], _ => rfl
  have b_no_integer := F_no_integer.bindsN (ps := ["pen"]) fun _ _ _ _ _ _ us hl => match us, hl with | [_], _ => rfl
  have b_refused := F_refused.bindsN (ps := ["pen", "told"]) fun _ _ _ _ _ _ us hl => match us, hl with | [_, _], _ => rfl
  have b_long_right := F_long_right.bindsN (ps := ["pen"]) fun _ _ _ _ _ _ us hl => match us, hl with | [_], _ => rfl
  have b_large_right := F_large_right.bindsN (ps := ["pen"]) fun _ _ _ _ _ _ us hl => match us, hl with | [_], _ => rfl
  have b_great_right := F_great_right.bindsN (ps := []) fun _ _ _ _ _ _ us hl => match us, hl with | [], _ => rfl
  have b_BadNumber_init := F_BadNumber_init.bindsN (ps := ["self", "value"]) fun _ _ _ _ _ _ us hl => match us, hl with | [_, _], _ => rfl
  have b_TooMany_init := F_TooMany_init.bindsN (ps := ["self", "most"]) fun _ _ _ _ _ _ us hl => match us, hl with | [_, _], _ => rfl
  have b_Row_init := F_Row_init.bindsN (ps := ["self", "numbers", "period", "step"]) fun _ _ _ _ _ _ us hl => match us, hl with | [_, _, _, _], _ => rfl
  have b_Row_getitem := F_Row_getitem.bindsN (ps := ["self", "at"]) fun _ _ _ _ _ _ us hl => match us, hl with | [_, _], _ => rfl
  have b_Row_eq := F_Row_eq.bindsN (ps := ["self", "other"]) fun _ _ _ _ _ _ us hl => match us, hl with | [_, _], _ => rfl
  have b_Row_str := F_Row_str.bindsN (ps := ["self"]) fun _ _ _ _ _ _ us hl => match us, hl with | [_], _ => rfl
  have b_Row_start := F_Row_start.bindsN (ps := ["self"]) fun _ _ _ _ _ _ us hl => match us, hl with | [_], _ => rfl
  have b_Row_period := F_Row_period.bindsN (ps := ["self"]) fun _ _ _ _ _ _ us hl => match us, hl with | [_], _ => rfl
  have b_Row_step := F_Row_step.bindsN (ps := ["self"]) fun _ _ _ _ _ _ us hl => match us, hl with | [_], _ => rfl
  have b_Row_numbers := F_Row_numbers.bindsN (ps := ["self"]) fun _ _ _ _ _ _ us hl => match us, hl with | [_], _ => rfl
  have bL := F_law.bindsA (ps := ["script"]) fun _ _ _ _ _ _ us hl => match us, hl with | [_], _ => rfl
  have c1 := cd_of (K := K) (x := "_law_refused") (st := s_refused) (p := ("_law_refused", none)) F_refused
  have c2 := cd_of (K := K) (x := "_law_large_right") (st := s_large_right) (p := ("_law_large_right", none)) F_large_right
  have ne2 := (of_decide_eq_true (exB_at XE 31 (b := decide ((He.cT K ("_law_refused", none)).2 ≠ (He.cT K ("_law_large_right", none)).2)) rfl))
  have pr1 := prop_of (exB_at XE 27 (b := propB K (He.ga K "Row") "start") rfl)
  have pr2 := prop_of (exB_at XE 28 (b := propB K (He.ga K "Row") "period") rfl)
  have pr3 := prop_of (exB_at XE 29 (b := propB K (He.ga K "Row") "step") rfl)
  have pr4 := prop_of (exB_at XE 30 (b := propB K (He.ga K "Row") "numbers") rfl)
  have kbr := kb_row F_Row_init
  have SD : SysD K := sysD_of (exB_at XE 32 (b := sysB K) rfl)
  refine ⟨fd_law, fun s v => bL s [v] rfl, fun base _ _ tabB => ?_⟩
  have tb1 := tabB _ (List.mem_cons_self ..)
  have tb2 := tabB _ (List.mem_cons_of_mem _ (List.mem_cons_self ..))
  have EB : ErrC P w K mg base "BadNumber" "value" (He.ga K "BadNumber") _ fd_BadNumber_init := ⟨(He.glo_ok X G (c.x.t.d.fact 27 (f := .glo "BadNumber") rfl)), oexC_of (exB_at XE 2 (b := oexB K (He.ga K "BadNumber")) rfl), mB.1, (of_decide_eq_true (exB_at XE 7 (b := decide (PySem.W.typeIn K (.ref (He.ma K (He.ga K "BadNumber") "__init__")) = some (.type "function"))) rfl)), ok_BadNumber (oexC_of (exB_at XE 2 (b := oexB K (He.ga K "BadNumber")) rfl)) (He.eqO_ok (exB_at XE 16 (b := He.eqO (PySem.W.findIn K (.ref (He.ga K "BadNumber")) "value") (some none)) rfl)) F_BadNumber_init, b_BadNumber_init⟩
  have EM : ErrC P w K mg base "TooMany" "most" (He.ga K "TooMany") _ fd_TooMany_init := ⟨(He.glo_ok X G (c.x.t.d.fact 28 (f := .glo "TooMany") rfl)), oexC_of (exB_at XE 3 (b := oexB K (He.ga K "TooMany")) rfl), mM.1, (of_decide_eq_true (exB_at XE 11 (b := decide (PySem.W.typeIn K (.ref (He.ma K (He.ga K "TooMany") "__init__")) = some (.type "function"))) rfl)), ok_TooMany (oexC_of (exB_at XE 3 (b := oexB K (He.ga K "TooMany")) rfl)) (He.eqO_ok (exB_at XE 17 (b := He.eqO (PySem.W.findIn K (.ref (He.ga K "TooMany")) "most") (some none)) rfl)) F_TooMany_init, b_TooMany_init⟩
  have k_draw : Cal P w K mg base CX0 1 "_law_draw" _ _ := ⟨_, _, (He.glo_ok X G (c.x.t.d.fact 9 (f := .glo "_law_draw") rfl)), ok_draw T F_draw, F_draw.kp, b_draw⟩
  have k_pick : Cal P w K mg base CX0 2 "_law_pick" _ _ := ⟨_, _, (He.glo_ok X G (c.x.t.d.fact 10 (f := .glo "_law_pick") rfl)), ok_pick T F_pick k_draw, F_pick.kp, b_pick⟩
  have k_is_integer : Cal P w K mg base CX0 1 "is_integer" _ _ := ⟨_, _, (He.glo_ok X G (c.x.t.d.fact 0 (f := .glo "is_integer") rfl)), ok_is_integer T F_is_integer, F_is_integer.kp, b_is_integer⟩
  have k_is_within : Cal P w K mg base CX0 2 "is_within" _ _ := ⟨_, _, (He.glo_ok X G (c.x.t.d.fact 2 (f := .glo "is_within") rfl)), ok_is_within T F_is_within k_is_integer, F_is_within.kp, b_is_within⟩
  have k_is_from : Cal P w K mg base CX0 2 "is_from" _ _ := ⟨_, _, (He.glo_ok X G (c.x.t.d.fact 1 (f := .glo "is_from") rfl)), ok_is_from T F_is_from k_is_integer, F_is_from.kp, b_is_from⟩
  have k_check_row : Cal P w K mg base (L2.CX P w) 3 "check_row" _ _ := ⟨_, _, (He.glo_ok X G (c.x.t.d.fact 4 (f := .glo "check_row") rfl)), ok_check_row T EB F_check_row (k_is_integer.mono (by decide)) k_is_within, F_check_row.kp, b_check_row⟩
  have k_least_period : Cal P w K mg base CX0 1 "least_period" _ _ := ⟨_, _, (He.glo_ok X G (c.x.t.d.fact 5 (f := .glo "least_period") rfl)), ok_least_period T F_least_period, F_least_period.kp, b_least_period⟩
  have k_least_start : Cal P w K mg base CX0 1 "least_start" _ _ := ⟨_, _, (He.glo_ok X G (c.x.t.d.fact 6 (f := .glo "least_start") rfl)), ok_least_start T F_least_start, F_least_start.kp, b_least_start⟩
  have k_decimal : Cal P w K mg base CX0 1 "decimal" _ _ := ⟨_, _, (He.glo_ok X G (c.x.t.d.fact 3 (f := .glo "decimal") rfl)), ok_decimal T F_decimal, F_decimal.kp, b_decimal⟩
  have k_row_words : Cal P w K mg base CX0 2 "row_words" _ _ := ⟨_, _, (He.glo_ok X G (c.x.t.d.fact 7 (f := .glo "row_words") rfl)), ok_row_words T F_row_words k_decimal, F_row_words.kp, b_row_words⟩
  have FI := ok_row_init T S EM F_Row_init k_check_row (k_least_period.mono (by decide)) (k_least_start.mono (by decide))
  have RK : RowKit P w K mg base (He.ga K "Row") (He.ga K "BadNumber") (He.ga K "TooMany") := ⟨S, I, ⟨_, _, M, FI, b_Row_init, kbr⟩, ⟨_, _, _, pr1, ok_getStart S F_Row_start, b_Row_start⟩, ⟨_, _, _, pr2, ok_getPeriod S F_Row_period, b_Row_period⟩, ⟨_, _, _, pr3, ok_getStep S F_Row_step, b_Row_step⟩, ⟨_, _, _, pr4, ok_getNumbers S F_Row_numbers, b_Row_numbers⟩, ⟨_, _, ⟨mG.1, (exB_at XE 26 (b := PySem.W.fnIn K (He.ma K (He.ga K "Row") "__getitem__")) rfl), mG.2⟩, ok_row_get T S EB F_Row_getitem k_is_from, b_Row_getitem⟩, ⟨_, _, ⟨mE.1, mE.2, (He.eqO_ok (exB_at XE 25 (b := He.eqO (PySem.W.findIn K (.ref (He.ga K "Row")) "__ne__") (some (some (.builtin "object.__ne__")))) rfl)), (of_decide_eq_true (exB_at XE 21 (b := decide (PySem.W.mroIn K (He.ga K "Row") (.type "object") = some true)) rfl))⟩, ok_row_eq T S I F_Row_eq, b_Row_eq⟩, ⟨_, _, ⟨mStr.1, mStr.2⟩, ok_row_str T S F_Row_str k_row_words, b_Row_str⟩, fun n hn => List.all_eq_true.mp (exB_at XE 24 (b := kinds.all fun n => PySem.W.notFirst K (He.ga K "Row") (.type n)) rfl) n hn⟩
  have DH : HeardD P w K mg (He.ga K "BadNumber") (He.ga K "TooMany") := ⟨_, _, _, _, _, _, _, _, HF, F_heard, (He.glo_ok X G (c.x.t.d.fact 18 (f := .glo "_law_heard") rfl)), b_heard⟩
  have k_told : Cal P w K mg base CX0 3 "_law_told" _ _ := ⟨_, _, (He.glo_ok X G (c.x.t.d.fact 11 (f := .glo "_law_told") rfl)), ok_told T F_told (k_draw.mono (by decide)) k_pick, F_told.kp, b_told⟩
  have k_at : Cal P w K mg base CX0 1 "_law_at" _ _ := ⟨_, _, (He.glo_ok X G (c.x.t.d.fact 12 (f := .glo "_law_at") rfl)), ok_at T F_at, F_at.kp, b_at⟩
  have k_least : Cal P w K mg base CX0 2 "_law_least" _ _ := ⟨_, _, (He.glo_ok X G (c.x.t.d.fact 13 (f := .glo "_law_least") rfl)), ok_least T F_least k_at, F_least.kp, b_least⟩
  have k_other : Cal P w K mg base CX0 2 "_law_other" _ _ := ⟨_, _, (He.glo_ok X G (c.x.t.d.fact 14 (f := .glo "_law_other") rfl)), ok_other T F_other k_draw k_at, F_other.kp, b_other⟩
  have k_row : Cal P w K mg base (L2.CX P w) 6 "_law_row" _ _ := ⟨_, _, (He.glo_ok X G (c.x.t.d.fact 15 (f := .glo "_law_row") rfl)), ok_law_row T RK F_row, F_row.kp, b_row⟩
  have k_right : CalG P w K mg base CX0 7 "_law_right" _ _ := ⟨_, _, (He.glo_ok X G (c.x.t.d.fact 16 (f := .glo "_law_right") rfl)), ok_right T RK F_right (k_draw.mono (by decide)) (k_least.mono (by decide)) k_row (k_at.mono (by decide)), F_right.kp, b_right⟩
  have k_equal_right : CalG P w K mg base CX0 7 "_law_equal_right" _ _ := ⟨_, _, (He.glo_ok X G (c.x.t.d.fact 17 (f := .glo "_law_equal_right") rfl)), ok_equal_right T RK F_equal_right (k_draw.mono (by decide)) (k_other.mono (by decide)) k_row (k_at.mono (by decide)), F_equal_right.kp, b_equal_right⟩
  have k_no_integer : Cal P w K mg base CX0 3 "_law_no_integer" _ _ := ⟨_, _, (He.glo_ok X G (c.x.t.d.fact 19 (f := .glo "_law_no_integer") rfl)), ok_no_integer T F_no_integer k_pick, F_no_integer.kp, b_no_integer⟩
  have MK1 : Mkr K mg base (TB K) (He.cT K ("_law_refused", none)).1 (He.cT K ("_law_refused", none)).2 "_law_refused.<locals>.<lambda>" := ⟨tb1, List.mem_cons_self .., fun p hp e => by
    rcases List.mem_cons.mp hp with rfl | hp
    · rfl
    · rcases List.mem_cons.mp hp with rfl | hp
      · exact absurd e.symm ne2
      · cases hp⟩
  have MK2 : Mkr K mg base (TB K) (He.cT K ("_law_large_right", none)).1 (He.cT K ("_law_large_right", none)).2 "_law_large_right.<locals>.<lambda>" := ⟨tb2, List.mem_cons_of_mem _ (List.mem_cons_self ..), fun p hp e => by
    rcases List.mem_cons.mp hp with rfl | hp
    · exact absurd e ne2
    · rcases List.mem_cons.mp hp with rfl | hp
      · rfl
      · cases hp⟩
  have k_refused : CalG P w K mg base CX0 9 "_law_refused" _ _ := ⟨_, _, (He.glo_ok X G (c.x.t.d.fact 20 (f := .glo "_law_refused") rfl)), ok_refused T SD RK DH F_refused c1 MK1 (k_draw.mono (by decide)) (k_pick.mono (by decide)) (k_no_integer.mono (by decide)) (k_row.mono (by decide)), F_refused.kp, b_refused⟩
  have k_long_right : CalG P w K mg base CX0 7 "_law_long_right" _ _ := ⟨_, _, (He.glo_ok X G (c.x.t.d.fact 21 (f := .glo "_law_long_right") rfl)), ok_long_right T RK F_long_right (k_draw.mono (by decide)) (k_pick.mono (by decide)) (k_other.mono (by decide)) k_row (k_at.mono (by decide)), F_long_right.kp, b_long_right⟩
  have k_large_right : CalG P w K mg base CX0 9 "_law_large_right" _ _ := ⟨_, _, (He.glo_ok X G (c.x.t.d.fact 22 (f := .glo "_law_large_right") rfl)), ok_large_right T SD RK DH F_large_right c2 MK2 (k_draw.mono (by decide)), F_large_right.kp, b_large_right⟩
  have k_great_right : CalG P w K mg base CX0 7 "_law_great_right" _ _ := ⟨_, _, (He.glo_ok X G (c.x.t.d.fact 23 (f := .glo "_law_great_right") rfl)), ok_great_right T RK F_great_right, F_great_right.kp, b_great_right⟩
  have k_pen : Cal P w K mg base CX0 1 "_law_pen" _ _ := ⟨_, _, (He.glo_ok X G (c.x.t.d.fact 8 (f := .glo "_law_pen") rfl)), ok_pen T F_pen, F_pen.kp, b_pen⟩
  exact ok_law T RK F_law (k_pen.mono (by decide)) (k_told.mono (by decide)) (k_great_right.mono (by decide)) (k_right.mono (by decide)) (k_equal_right.mono (by decide)) (k_refused.mono (by decide)) (k_large_right.mono (by decide)) (k_long_right.mono (by decide))
def loose0 : List Str := ["LeastError", "BadNumber", "BadPrice", "BadSlots", "TooMany", "BadWork", "BadInput", "BadCode", "BLOCK_DIGITS", "BLOCK", "is_integer", "is_from", "is_within", "decimal", "MOST_NUMBERS", "check_row", "least_period", "least_start", "row_words", "Row", "_law_pen", "_law_draw", "_law_pick", "_law_some"]
def loose1 : List Str := ["_law_told", "_law_at", "_law_least", "_law_other", "_law_row", "_law_right", "_law_equal_right", "_law_heard", "_law_no_integer", "_law_refused", "_law_long_right", "_law_large_right", "_law_great_right"]
abbrev loose : List Str := loose0 ++ loose1
end LC
namespace LC
open PySem PySem.Spec PyProof.Rows L2
abbrev R : PySem.W.OpenRow := PySem.W.OpenLaw.row PySem.Challenge.rw_leastcode_k06_rows
abbrev hk : PySem.W.Hook := hookY 5 fa fn tf gs exB
def ob (s : PySem.W.SharedT) : AlY := obsY 5 fa fn tf gs exB (HandSHeadRun.getT s)
theorem ob_eq (s : PySem.W.SharedT) : ob s = hk.obs s.abs := obsY_eq (HandSHeadRun.getT_eq s)
theorem run (w : World) : HandSHeadRun.RunEq R (PySem.W.view R.prog [41]) hk ob 20000 loose w := by
  intro os
  kernel_rfl
end LC
open PySem PySem.W PySem.Calls PyProof.Rows
theorem PySem.Challenge.cw_leastcode_k06_rows_holds : PySem.Challenge.rw_leastcode_k06_rows.Holds := by
  w_on; o_law
  refine HandSHeadRun.head_any (r := LC.R) (q := view LC.R.prog [41]) (H := LC.hk) (ob := LC.ob) (M := 20000) (loose := LC.loose) (d := HandSHeadRun.topDef LC.R.prog 41) (kwd := []) LC.ob_eq
    (by kernel_rfl) (fun s => by kernel_rfl) LC.run (by kernel_rfl) (by kernel_rfl) (by kernel_rfl) (by rfl) (by first | assumption | decide +kernel) (by decide +kernel) ⟨rfl, rfl, rfl, rfl, rfl, by decide +kernel⟩ ?hw ?hc
  case hw => w_witness2
  case hc =>
    refine LC.walk_GT (l := PySem.Challenge.rw_leastcode_k06_rows) (n := 63) (k := 11) (x := "script") (CX := fun _ => L2.CX0) rfl (by decide) (by kernel_rfl) ⟨rfl, by decide, by decide⟩ ?F (fun _ _ _ _ _ z => z)
    intro w mg fa h Y G hmg0
    obtain ⟨K, KX, c⟩ := Y
    have hmg : mg ("law" : PySem.Str) = some (.ref fa) := by
      have e : (HandSHeadRun.topDef LC.R.prog 41).name = ("law" : PySem.Str) := by kernel_rfl
      rw [← e]
      exact hmg0
    obtain ⟨fd, hb, hF⟩ := LC.facts (P := (PySem.Challenge.rw_leastcode_k06_rows).prog) (w := w) KX G hmg c
    refine ⟨K, fd, LC.spLaw K (LC.TB K), [He.cT K ("_law_refused", none), He.cT K ("_law_large_right", none)], KX, ?_, ?_, ?_, hb, ?_, hF⟩
    · intro q hq
      obtain ⟨p, hp, rfl⟩ := List.mem_map.mp (show q ∈ LC.tf.map (He.cT K) from hq)
      exact c.x.empty p hp
    · intro q hq
      obtain ⟨p, hp, rfl⟩ := List.mem_map.mp (show q ∈ LC.tf.map (He.cT K) from hq)
      exact c.x.out p hp
    · intro q hq
      obtain ⟨p, hp, rfl⟩ := List.mem_map.mp (show q ∈ LC.tf.map (He.cT K) from hq)
      exact c.x.hd p hp
    · intro H a ns hl hT hS
      exact ⟨a, ns, rfl, hS, hl, LC.tabs_of hT, fun _ => rfl⟩
