import PyProof.Rows.All
import Wide.All
import OpenK.AllK
import Wide.FinOn
import PySem.Challenge.RW_wholeshares_k02_rules_refused
import HandS.Gcd
import HandS.Wide
import HandS.ForMost
import HandS.ForExc
import HandS.Codes
import HandS.WideBits
import HandS.RaiseMore
import HandS.StrMore
import HandS.FStr
import HandS.IsInst
import HandS.Flow
import HandS.Style
import HandS.SortInts
import PyProof.ReprRoads
import KE.GoesEnum
import KE.GoesMore
import HandS.Iter
import HandS.Star
import HandS.ClsMeth
import KE.KStar
import HandS.SetFor
import HandS.Strs
import HandS.OwnEq
import HandS.More
import PyProof.InstEq
import KE.KCallOwn
import HandS.ExcInit
import HandS.ExcField
import HandS.ExcIs
import HandS.Lambda
import KE.KExcIs
import HandS.EndTab
import HandS.Exc
import HandS.TryMany
import HandS.Deep
import HandS.DictEq
import PyProof.EqKinds
import HandS.Conv
set_option Elab.async false
set_option linter.all false
set_option maxRecDepth 100000
set_option exponentiation.threshold 17000
/-! math.lcm of two ints of less than 8000 bits. -/
namespace LW
open L2 PySem.Spec PyProof.Rows PySem
theorem lcm_le (m n : Nat) : m.lcm n ≤ m * n := by
  unfold Nat.lcm
  exact Nat.div_le_self _ _
def rLcm : List V → Hp → VK → Prop := fun vs H Q => ∃ a b : Int, vs = [.int a, .int b] ∧ a.natAbs < 2 ^ 8000 ∧ b.natAbs < 2 ^ 8000 ∧ Q (.int ((Nat.lcm a.natAbs b.natAbs : Nat) : Int)) H
theorem cr_lcm {X : Cx} : CallR X (.builtin "math.lcm") rLcm := by
  intro pins s σ H vs
        us Q I r h
  obtain ⟨a, b, rfl, ha, hb, q⟩ := h
  obtain ⟨t, u, rfl⟩ :=
        Vals.int2 r
  have e1 : Nat.lcm 1 a.natAbs = a.natAbs := by simp [Nat.lcm]
  have l1 : (max 1 a.natAbs).log2 ≤ 7999 := PySem.W.mg_log (by
    have : 1 < 2 ^ (7999 + 1) := Nat.one_lt_two_pow (by decide)
    have e : 7999 + 1 = 8000 := rfl
    rw [e] at this ⊢
    exact Nat.max_lt.mpr ⟨this, ha⟩)
  have l2 : (max a.natAbs b.natAbs).log2 ≤ 7999 := PySem.W.mg_log (by
    have e : 7999 + 1 = 8000 := rfl
    rw [e]
    exact Nat.max_lt.mpr ⟨ha, hb⟩)
  have sz : ((((Nat.lcm 1 a.natAbs).lcm b.natAbs : Nat) : Int)).natAbs.log2 < bitsLine := by
    rw [e1, Int.natAbs_natCast]
    have z : a.natAbs.lcm b.natAbs < 2 ^ (15999 + 1) := by
      have z1 := Nat.mul_lt_mul'' ha hb
      rw [← Nat.pow_add] at z1
      exact Nat.lt_of_le_of_lt (lcm_le _ _) z1
    have := PySem.W.mg_log z
    have e : bitsLine = 134217728
          := by decide
    rw [e]
    omega
  refine PySem.call_function_meets PySem.W.MGF.kind_lcm PySem.W.MGF.plain_lcm PySem.W.MGF.entry_lcm (PySem.W.MGF.args_lcm _ _) (PySem.W.mg_run_lcm a t b u (by omega) (by omega) sz).meets ?_
  rw [e1]
  exact ⟨.int _, H, I.tok _, ⟨_, rfl⟩, q⟩
end LW

set_option Elab.async false
set_option linter.all false
set_option maxRecDepth 100000
set_option maxHeartbeats 4000100
/-! views of the abstract heap, data in them -/
namespace LW
open L2 PySem.Spec PyProof.Rows PySem

/-- H without what stands at the addresses of A -/
def hv (A : List Addr) (H : Hp) : Hp := fun b => if b ∈ A then none else H b
theorem hv_in {A : List Addr} {H : Hp} {b : Addr} (h : b ∈ A) : hv A H b = none := if_pos h
theorem hv_out {A : List Addr} {H : Hp} {b : Addr} (h : b ∉ A) : hv A H b = H b := if_neg h
theorem hv_nil {H : Hp} : hv [] H = H := by
  funext b
  exact hv_out (by simp)
theorem hv_le {A : List Addr} {H : Hp} : Same (hv A H) H := fun b o h => by
  by_cases hb : b ∈ A
  · rw [hv_in hb] at h; cases h
  · rw [hv_out hb] at h; exact h
theorem hv_cons_le {A : List Addr} {a : Addr} {H : Hp} : Same (hv (a :: A) H) (hv A H) := fun b o h => by
  by_cases hb : b ∈ a :: A
  · rw [hv_in hb] at h; cases h
  · rw [hv_out hb] at h
    rw [hv_out fun z => hb (List.mem_cons_of_mem _ z)]
    exact h
/-- every address of A is held -/
def Hd (A : List Addr) (H : Hp) : Prop := ∀ a ∈ A, H a ≠ none
theorem Hd.nil {H : Hp} : Hd [] H := fun _ h => by cases h
theorem Hd.cons {A : List Addr} {H : Hp} {a : Addr} {o : HO} (e : H a = some o) (h : Hd A H) : Hd (a :: A) H := fun b hb => by
  rcases List.mem_cons.mp
        hb with z | z
  · subst z; rw [e]; exact fun z => by cases z
  · exact h b z
theorem Hd.out {A : List Addr} {H : Hp} {p : Addr} (h : Hd A H) (n : H p = none) : p ∉ A := fun z => h p z n

/-- all that stood outside A stands as before, and A is still held -/
structure Go (A : List Addr) (H H' : Hp) : Prop where
  keep : ∀ b o, b ∉ A → H b = some o → H' b = some o
  held : Hd A H → Hd A H'
theorem Go.refl {A : List Addr} {H : Hp} : Go A H H := ⟨fun _ _ _ h => h, fun h => h⟩
theorem Go.trans {A : List Addr} {H H1 H2 : Hp} (a : Go A H H1) (b : Go A H1 H2) : Go A H H2 := ⟨fun c o n h => b.keep c o n (a.keep c o n h), fun h => b.held (a.held h)⟩
theorem Go.of {A : List Addr} {H H' : Hp} (s : Same H H') : Go A H H' := ⟨fun b o _ h => s b o h, fun h a ha z => by
  cases q : H a with
  | none => exact h a ha q
  | some o => rw [s a o q] at z; cases z⟩
theorem Go.same {H H' : Hp} (s : Go [] H H') : Same H H' := fun b o h => s.keep b o (by simp) h
theorem Go.hv {A : List Addr} {H H' : Hp} (s : Go A H H') : Same (LW.hv A H) (LW.hv A H') := fun b o h => by
  by_cases hb : b ∈ A
  · rw [hv_in hb] at h; cases h
  · rw [hv_out hb] at h ⊢; exact s.keep b o hb h
theorem Go.free {A : List Addr} {H H' : Hp} (s : Go A H H') (h : Hd A H) {p : Addr} (n : H' p = none) : H p = none := by
  cases q : H p with
  | none => rfl
  | some o =>
    by_cases hp : p ∈ A
    · exact absurd n (s.held h p hp)
    · rw [s.keep p o hp q] at n; cases n
/-- a new thing -/
theorem same_new {H : Hp} {p : Addr} {o : HO} (n : H p = none) : Same H (upd H p o) := fun b u e => by
  rw [upd_ne (ne_of_none e n)]; exact e
theorem Go.new {A : List Addr} {H : Hp} {p : Addr} {o : HO} (n : H p = none) : Go A H (upd H p o) := .of (same_new n)
/-- a change within A -/
theorem Go.chg {A : List Addr} {H : Hp} {p : Addr} {o : HO} (h : p ∈ A) : Go A H (upd H p o) :=
  ⟨fun b u n e => by rw [upd_ne fun z => n (by rw [z]; exact h)]; exact e, fun hd a ha z => by
    by_cases e : a = p
    · subst e; rw [upd_same] at z; cases z
    · rw [upd_ne e] at z; exact hd a ha z⟩
/-- fewer hidden -/
theorem Go.drop {A : List Addr} {a : Addr} {H H' : Hp} (s : Go (a :: A) H H') (h : Hd (a :: A) H) (n : ∀ o, H a = some o → H' a = some o) : Go A H H' :=
  ⟨fun b o hb e => by
    by_cases z : b = a
    · subst z; exact n o e
    · exact s.keep b o (fun y => (List.mem_cons.mp y).elim z hb) e, fun _ b hb => s.held h b (List.mem_cons_of_mem _ hb)⟩
/-- a local thing at a, new since H, is forgotten -/
theorem Go.local {A : List Addr} {a : Addr} {H H1 H2 : Hp} (n : H a = none) (s1 : Go A H H1) (s : Go (a :: A) H1 H2) (hd : Hd (a :: A) H1) : Go A H H2 :=
  ⟨fun b o hb e => s.keep b o (fun y => by
    rcases List.mem_cons.mp y with y | y
    · subst y; rw [n] at e; cases e
    · exact hb y) (s1.keep b o hb e), fun _ b hb => s.held hd b (List.mem_cons_of_mem _ hb)⟩

section
variable {K : PySem.W.Frag} {H H' : Hp}
theorem seqT_same (e : Same H H') {a : Addr} {xs : List V} (h : SqT K H a xs) : SqT K H' a xs := by
  rcases h with (h | ⟨o,
        h⟩) | h
  · exact .inl (.inl (e _ _ h))
  · exact .inl (.inr ⟨o,
        e _ _ h⟩)
  · exact .inr h
end
/-- v is the data d: None, bools, ints, texts, lists, tuples, and the empty dict -/
inductive D (K : PySem.W.Frag) (H : Hp) : V → PyData → Prop
  | non : D K H .non .none
  | bl (b : Bool) : D K H (.bl b) (.bool b)
  | int (i : Int) : D K H (.int i) (.int i)
  | str (x : Str) : D K H (.str x) (.str x)
  | lst {a : Addr} {xs : List V} {ds : List PyData} (h : SqL K H a xs) (len : xs.length = ds.length) (all : ∀ (i : Nat) (v : V) (d : PyData), xs[i]? = some v → ds[i]? = some d → D K H v d) : D K H (.ref a) (.list ds)
  | tup {a : Addr} {xs : List V} {ds : List PyData} (h : SqT K H a xs) (len : xs.length = ds.length) (all : ∀ (i : Nat) (v : V) (d : PyData), xs[i]? = some v → ds[i]? = some d → D K H v d) : D K H (.ref a) (.tuple ds)
  | dct {a : Addr} (h : H a = some (.dK [])) (ne : a ≠ sysModules) : D K H (.ref a) (.dict [])
/-- .. of each -/
structure DAll (K : PySem.W.Frag) (H : Hp) (xs : List V) (ds : List PyData) : Prop where
  len : xs.length = ds.length
  all : ∀ (i : Nat) (v : V) (d : PyData), xs[i]? = some v → ds[i]? = some d → D K H v d
section
variable {K : PySem.W.Frag} {H H' : Hp}
theorem DAll.nil : DAll K H [] [] := ⟨rfl, fun i v d h => by simp at h⟩
theorem DAll.cons {v : V} {d : PyData} {vs : List V} {ds : List PyData} (h : D K H v d) (r : DAll K H vs ds) : DAll K H (v :: vs) (d :: ds) :=
  ⟨by rw [List.length_cons, List.length_cons, r.len], fun i w e h1 h2 => by
    cases i with
    | zero =>
      have e1 : v = w := Option.some.inj h1
      have e2 : d = e := Option.some.inj h2
      rw [← e1, ← e2]
      exact h
    | succ i => exact r.all i w e h1 h2⟩
theorem D.lst' {a : Addr} {xs : List V} {ds : List PyData} (h : SqL K H a xs) (r : DAll K H xs ds) : D K H (.ref a) (.list ds) := .lst h r.len r.all
theorem D.tup' {a : Addr} {xs : List V} {ds : List PyData} (h : SqT K H a xs) (r : DAll K H xs ds) : D K H (.ref a) (.tuple ds) := .tup h r.len r.all
theorem D.same (e : Same H H') {v : V} {d : PyData} (h : D K H v d) : D K H' v d := by
  induction h with
  | non => exact .non
  | bl b => exact .bl b
  | int i => exact .int i
  | str x => exact .str x
  | lst h len all ih => exact .lst (e.seq h) len ih
  | tup h len all ih => exact .tup (seqT_same e h) len ih
  | dct h ne => exact .dct (e _ _ h) ne
theorem DAll.same (e : Same H H') {vs : List V} {ds : List PyData} (h : DAll K H vs ds) : DAll K H' vs ds := ⟨h.len, fun i v d h1 h2 => D.same e (h.all i v d h1 h2)⟩
theorem hasDict_get {d : PyData} : ∀ {ds : List PyData} {i : Nat}, PyData.hasDictAll ds = false → ds[i]? = some d → d.hasDict = false
  | [], _, _, h => by simp at h
  | c :: ds, 0, q, h => by
    have e : c = d := Option.some.inj h
    subst e
    rw [PyData.hasDictAll, Bool.or_eq_false_iff] at q
    exact q.1
  | c :: ds, i + 1, q, h => by
    rw [PyData.hasDictAll, Bool.or_eq_false_iff] at q
    exact hasDict_get (i := i) q.2 h
theorem dpAll_of : ∀ {xs : List V} {ds : List PyData}, xs.length = ds.length → (∀ (i : Nat) (v : V) (d : PyData), xs[i]? = some v → ds[i]? = some d → Dp K H v d) → DpAll K H xs ds
  | [], [], _, _ => .nil
  | [], d :: ds, h, _ => by simp at h
  | v :: xs, [], h, _ => by simp at h
  | v :: xs, d :: ds, h, q => .cons (q 0 v d rfl rfl) (dpAll_of (by simpa using h) fun i w e h1 h2 => q (i + 1) w e h1 h2)
theorem D.dp {v : V} {d : PyData} (h : D K H v d) : d.hasDict = false → Dp K H v d := by
  induction h with
  | non => exact fun _ => .non
  | bl b => exact fun _ => .bl b
  | int i => exact fun _ => .int i
  | str x => exact fun _ => .str x
  | lst h len all ih => exact fun z => .lst h (dpAll_of len fun i v d h1 h2 => ih i v d h1 h2 (hasDict_get (by simpa [PyData.hasDict] using z) h2))
  | tup h len all ih => exact fun z => .tup h (dpAll_of len fun i v d h1 h2 => ih i v d h1 h2 (hasDict_get (by simpa [PyData.hasDict] using z) h2))
  | dct h ne => exact fun z => by simp [PyData.hasDict] at z
end
section
variable {X : Cx} {pins : List (Addr × Obj)} {σ :
      L2.St} {H : Hp} {s : Shared}
theorem readsAll_of {h : Heap} {P : List Addr → Prop} (p0 : P []) (pa : ∀ a b, P a → P b → P (a ++ b)) : ∀ {us : List Value} {ds : List PyData}, us.length = ds.length → (∀ (i : Nat) (u : Value) (d : PyData), us[i]? = some u → ds[i]? = some d → ∃ as, Reads h u d as ∧ P as) → ∃ as, ReadsAll h us ds as ∧ P as
  | [], [], _, _ => ⟨_, .nil, p0⟩
  | [], d :: ds, h, _ => by simp at h
  | v :: xs, [], h, _ => by simp at h
  | v :: xs, d :: ds, h, q => by
    obtain ⟨as, r1, h1⟩ := q 0 v d rfl rfl
    obtain ⟨bs, r2, h2⟩ := readsAll_of p0 pa (us := xs) (ds := ds) (by simpa using h) fun i w e h1 h2 => q (i + 1) w e h1 h2
    exact ⟨_, .cons r1 r2, pa _ _ h1 h2⟩
theorem vals_get' : ∀ {xs : List V} {us : List Value} {i : Nat} {u : Value}, Vals xs us → us[i]? = some u → ∃ x, xs[i]? = some x ∧ RelV x u
  | _, _, _, _, .nil, e =>
        by simp at e
  | _, _, 0, _, .cons r _, e => by
        simp at e; subst e; exact ⟨_, rfl, r⟩
  | _, _, i + 1, x, .cons
        _ t, e => by
    obtain ⟨u, h1, h2⟩ := vals_get' (i := i) (u := x) t (by simpa using e)
    exact ⟨u, by
          simpa using h1, h2⟩
/-- the model's own reading of data -/
theorem D.reads (I : Inv X pins σ H s) {v : V} {d : PyData} (h : D X.K H v d) : ∀ u, RelV v u → ∃ as, Reads s.heap u d as := by
  induction h with
  | non => intro u r; cases r; exact ⟨_, .none⟩
  | bl b => intro u r; cases r; exact ⟨_, .bool b⟩
  | int i => intro u r; obtain ⟨t, rfl⟩ := r; exact ⟨_, .int i t⟩
  | str x => intro u r; obtain ⟨t, rfl⟩ := r; exact ⟨_, .str x t⟩
  | lst h len all ih =>
    intro u r
    cases r
    obtain ⟨its, rv, ⟨o, n, ho, hc, _, hd⟩, _⟩ := I.list h
    obtain ⟨as, hr, _⟩ := readsAll_of (P := fun _ => True) (h := s.heap) (us := its) trivial (fun _ _ _ _ => trivial) (by rw [← rv.length, len]) fun i u d h1 h2 => by
      obtain ⟨x, e, rx⟩ := vals_get' rv h1
      obtain ⟨as, q⟩ := ih i x d e h2 u rx
      exact ⟨as, q, trivial⟩
    exact ⟨_, .list ho hc hd hr⟩
  | tup h len all ih =>
    intro u r
    cases r
    obtain ⟨its, rv, ⟨o, ho, hc, n, hd⟩, _⟩ := I.tuple h
    obtain ⟨as, hr, _⟩ := readsAll_of (P := fun _ => True) (h := s.heap) (us := its) trivial (fun _ _ _ _ => trivial) (by rw [← rv.length, len]) fun i u d h1 h2 => by
      obtain ⟨x, e, rx⟩ := vals_get' rv h1
      obtain ⟨as, q⟩ := ih i x d e h2 u rx
      exact ⟨as, q, trivial⟩
    exact ⟨_, .tuple ho hc hd hr⟩
  | dct h ne =>
    intro u r
    cases r
    obtain ⟨_, _, vs, kv, o, es, ep, ho, ⟨hc, _, _⟩, hd, _, prs, _⟩ := I.hok _ _ h
    cases kv
    have e0 : es.toList = [] := by
      cases q : es.toList with
      | nil => rfl
      | cons x r => rw [q] at prs; cases prs
    refine ⟨_, Reads.dict ho hc hd (as := []) (bs := []) ?_ ?_⟩
    · rw [e0]; exact .nil
    · rw [e0]; exact .nil
end

/-- v is the data d, seen without A -/
abbrev Is (K : PySem.W.Frag) (A : List Addr) (H : Hp) (v : V) (d : PyData) : Prop := D K (hv A H) v d
abbrev Iss (K : PySem.W.Frag) (A : List Addr) (H : Hp) (vs : List V) (ds : List PyData) : Prop := DAll K (hv A H) vs ds
section
variable {K : PySem.W.Frag} {A : List Addr} {H H' : Hp} {v : V} {vs : List V} {d : PyData} {ds : List PyData} {a p : Addr}
theorem Is.mono (s : Go A H H') (h : Is K A H v d) : Is K A H' v d := D.same s.hv h
theorem Iss.mono (s : Go A H H') (h : Iss K A H vs ds) : Iss K A H' vs ds := DAll.same s.hv h
theorem Is.full (h : Is K A H v d) : D K H v d := D.same hv_le h
theorem Iss.full (h : Iss K A H vs ds) : DAll K H vs ds := DAll.same hv_le h
theorem Is.more (n : H a = none) (h : Is K A H v d) : Is K (a :: A) H v d := by
  refine D.same (fun b o e => ?_) h
  by_cases hb : b ∈ A
  · rw [hv_in hb] at e; cases e
  · rw [hv_out hb] at e
    rw [hv_out fun z => by
      rcases List.mem_cons.mp
            z with z | z
      · subst z; rw [n] at e; cases e
      · exact hb z]
    exact e
theorem Is.less (h : Is K (a :: A) H v d) : Is K A H v d := D.same hv_cons_le h
theorem Iss.less (h : Iss K (a :: A) H vs ds) : Iss K A H vs ds := DAll.same hv_cons_le h
theorem is_int {i : Int} (h : Is K A H v (.int i)) : v = .int i := by cases h; rfl
theorem is_bl {b : Bool} (h : Is K A H v (.bool b)) : v = .bl b := by cases h; rfl
theorem is_str {x : Str} (h : Is K A H v (.str x)) : v = .str x := by cases h; rfl
theorem is_non (h : Is K A H v .none) : v = .non := by cases h; rfl
theorem is_tup (h : Is K A H v (.tuple ds)) : ∃ a vs, v = .ref a ∧ SqT K (hv A H) a vs ∧ Iss K A H vs ds := by
  cases h with
  | tup h l a => exact ⟨_, _, rfl, h, l, a⟩
theorem is_lst (h : Is K A H v (.list ds)) : ∃ a vs, v = .ref a ∧ SqL K (hv A H) a vs ∧ Iss K A H vs ds := by
  cases h with
  | lst h l a => exact ⟨_, _, rfl, h, l, a⟩
theorem iss_nil (h : Iss K A H vs []) : vs = [] := List.length_eq_zero_iff.mp h.len
theorem iss_cons (h : Iss K A H vs (d :: ds)) : ∃ v ws, vs = v :: ws ∧ Is K A H v d ∧ Iss K A H ws ds := by
  obtain ⟨l, q⟩ := h
  cases vs with
  | nil => simp at l
  | cons v ws => exact ⟨v, ws, rfl, q 0 v d rfl rfl, by simpa using l, fun i w e h1 h2 => q (i + 1) w e h1 h2⟩
theorem iss_len (h : Iss K A H vs ds) : vs.length = ds.length := by
  induction ds generalizing vs with
  | nil => rw [iss_nil h]; rfl
  | cons d ds ih =>
    obtain ⟨v, ws, rfl, _, r⟩ := iss_cons h
    rw [List.length_cons, List.length_cons, ih r]
theorem iss_get (h : Iss K A H vs ds) {i : Nat} (e : ds[i]? = some d) : ∃ v, vs[i]? = some v ∧ Is K A H v d := by
  induction ds generalizing vs i with
  | nil => simp at e
  | cons c ds ih =>
    obtain ⟨v, ws, rfl, q, r⟩ := iss_cons h
    cases i with
    | zero =>
      have e' : c = d := Option.some.inj e
      subst e'
      exact ⟨v, rfl, q⟩
    | succ i => exact ih r e
theorem iss_get' (h : Iss K A H vs ds) {i : Nat} (e : vs[i]? = some v) : ∃ d, ds[i]? = some d ∧ Is K A H v d := by
  have hi : i < vs.length := (List.getElem?_eq_some_iff.mp e).1
  rw [iss_len h] at hi
  obtain ⟨w, e2, q⟩ := iss_get h (List.getElem?_eq_getElem hi)
  rw [e] at e2
  cases e2
  exact ⟨_, List.getElem?_eq_getElem hi, q⟩
theorem iss_app {ws : List V} {es : List PyData} (h : Iss K A H vs ds) (r : Iss K A H ws es) : Iss K A H (vs ++ ws) (ds ++ es) := by
  induction ds generalizing vs with
  | nil => rw [iss_nil h]; exact r
  | cons c ds ih =>
    obtain ⟨v, vs', rfl, q, r'⟩ := iss_cons h
    exact DAll.cons q (ih r')
theorem iss_take {n : Nat} (h : Iss K A H vs ds) : Iss K A H (vs.take n) (ds.take n) := by
  induction ds generalizing vs n with
  | nil => rw [iss_nil h, List.take_nil, List.take_nil]; exact DAll.nil
  | cons c ds ih =>
    obtain ⟨v, vs', rfl, q, r'⟩ := iss_cons h
    cases n with
    | zero => exact DAll.nil
    | succ n => exact DAll.cons q (ih r')
theorem iss_drop {n : Nat} (h : Iss K A H vs ds) : Iss K A H (vs.drop n) (ds.drop n) := by
  induction ds generalizing vs n with
  | nil => rw [iss_nil h, List.drop_nil, List.drop_nil]; exact DAll.nil
  | cons c ds ih =>
    obtain ⟨v, vs', rfl, q, r'⟩ := iss_cons h
    cases n with
    | zero => exact DAll.cons q r'
    | succ n => exact ih r'
theorem iss_ints : ∀ ns : List Int, Iss K A H (ns.map V.int) (ns.map PyData.int)
  | [] => DAll.nil
  | n :: ns => DAll.cons (.int n) (iss_ints ns)
theorem sqT_full (h : SqT K (hv A H) a vs) : SqT K H a vs := seqT_same hv_le h
theorem sqL_full (h : SqL K (hv A H) a vs) : SqL K H a vs := Same.seq hv_le h
theorem is_new_tup (hd : Hd A H) (n : H p = none) (h : Iss K A H vs ds) : Is K A (upd H p (.tup vs)) (.ref p) (.tuple ds) :=
  .tup' (.inl (.inl (by rw [hv_out (hd.out n)]; exact upd_same))) (Iss.mono (.new n) h)
theorem is_new_lst (hd : Hd A H) (n : H p = none) (h : Iss K A H vs ds) : Is K A (upd H p (.lst vs)) (.ref p) (.list ds) :=
  .lst' (.inl (.inl (by rw [hv_out (hd.out n)]; exact upd_same))) (Iss.mono (.new n) h)
/-- a list of the def's own at l, let go -/
theorem is_own_lst {l : Addr} (e : H l = some (.lst vs)) (hl : l ∉ A) (h : Iss K (l :: A) H vs ds) : Is K A H (.ref l) (.list ds) :=
  .lst' (.inl (.inl (by rw [hv_out hl]; exact e))) (Iss.less h)
theorem hd_new (hd : Hd A H) (n : H p = none) {o : HO} : Hd A (upd H p o) := (Go.new n).held hd
end
end LW

set_option Elab.async false
set_option linter.all false
set_option maxRecDepth 100000
set_option maxHeartbeats 4000100
/-! defs that run where nothing is being shown (no repr is under way) -/
namespace LW
open L2 PySem.Spec PyProof.Rows PySem

/-- a def's promise, where no repr is under way -/
structure FnG (P : Program) (w : World) (K : PySem.W.Frag) (mg : Str → Option Value) (base : Heap) (CX : CXT) (k : Nat) (f : Addr) (fd : FuncData) (ps : List Str) (sp : Sp) : Prop where
  args : ∀ vs H Q E, sp vs H Q E → vs.length = ps.length
  runs : ∀ (A : Around) (outer : List Env) (s : Shared) (H : Hp) (given : Args) (us : List Value) (vs : List V) (Q : VK) (E : XK), Room k A → A.guards = some [] →
    Env0 P w K mg base A outer s H → BindsTo s fd given (ps.zip us) → Vals vs us → sp vs H Q E →
    codeAny (model P w) A (.call (.ref f) given) (CR CX outer P w H s Q E) s

theorem FnG.of {P : Program} {w : World} {K : PySem.W.Frag} {mg : Str → Option Value} {base : Heap} {CX : CXT} {k : Nat} {f : Addr} {fd : FuncData} {ps : List Str} {sp : Sp}
    (F : FnOk P w K mg base CX k f fd ps sp) : FnG P w K mg base CX k f fd ps sp :=
  ⟨F.len, fun A outer s H given us vs Q E hr _ e0 hb hv hs => F.run A outer s H given us vs Q E hr e0 hb hv hs⟩

section
variable {P : Program} {w : World} {K : PySem.W.Frag} {mg : Str
      → Option Value} {base : Heap}
/-- from the body -/
theorem fnG_of {CX : CXT} {k : Nat} {f : Addr} {name qual : Str} {params : Arguments} {body : List Stmt} {scope : Scope} {dV kV doc pm cdv ct oc : Value} {an od : Option Addr}
    {osl : Array (Option Value)} {N ps :
          List Str} {sp : Sp}
    (lk : K.lookup f = some ⟨oc, od, .func (PySem.W.fnOf name qual params body scope dV kV doc pm an cdv ct), osl⟩)
    (hcode : PySem.W.codeIn K cdv qual = true) (S : FnScope N ps scope)
    (lens : ∀ vs H Q E, sp vs H Q E → vs.length = ps.length)
    (inner : ∀ (A : Around) (outer : List Env) (s : Shared) (H : Hp) (vs : List V) (Q : VK) (E : XK), Room k (A.deeper (envOfC qual scope s.heap.objs.size f cdv)) → A.guards = some [] → sp vs H Q E →
      ∃ t, PSs (cxOf CX P w K mg base N qual scope f cdv A outer s H E) body t ∧
        t { nx := fun _ H' => Q .non H', rt := Q } (start N vs) H) :
    FnG P w K mg base CX (k + 1) f (PySem.W.fnOf name qual params body scope dV kV doc pm an cdv ct) ps sp := by
  refine ⟨lens, ?_⟩
  intro A outer s H given us vs Q E room quiet e0 hbind rel want
  have same_len := lens _ _ _ _ want
  have KS : K.In s.heap := e0.mod.kin.keeps (fun b o e => (e0.bs b o e).1)
  have NL : s.heap.NoLimit := e0.mod.nolimit.keeps (fun b o e => (e0.bs b o e).1)
  have kinds : ∀ y ∈ ps.zip us, scope.names.lookup y.1 = some .local ∨
      (scope.names.lookup y.1 = some .cell ∧ ((cellsFrom (s.heap.objs.size + 1) scope.names []).lookup y.1).isSome = true) := by
    rintro ⟨n, v⟩ hy
    cases S.par n (List.of_mem_zip hy).1 with
    | inl q => exact Or.inl q
    | inr q => exact Or.inr ⟨q, PySem.W.cellsFrom_some _ _ _ (Or.inl q)⟩
  refine codeAny_call_function room.depth (KS _ _ lk) rfl S.co S.gen rfl (PySem.W.codeRec_of KS hcode) (hbind _ _ _ _ ?_)
  refine wpAny_newFunctionEnv_cells S.kind kinds ?_
  intro env hE s1 inn
  subst hE
  refine ⟨NL.keeps inn.toInCall.keep, ?_⟩
  refine codeAny_func ?_
  obtain ⟨t, der, rd⟩ := inner A outer s H vs Q E (room.deeper _) quiet want
  have I0 : Inv (cxOf CX P w K mg base N qual scope f cdv A outer s H E) [] (start N vs) H s1 := inv_start S room.hd e0 same_len rel inn
  refine wpAny_mono (der.run [] s1 (start N vs) H _ I0 rd) ?_ (fun e s' hs => hs)
  intro fl s' hs
  have out : ∀ {σ' : L2.St} {H' : Hp} {v : V} {u : Value}, Inv (cxOf CX P w K mg base N qual scope f cdv A outer s H E) [] σ' H' s' → RelV v u → Q v H' → CE outer P w H s Q u s' := by
    intro σ' H' v u J rv q
    exact ⟨v, H', J.os, J.bare, J.base, J.hok, rv, q⟩
  match fl, hs with
  | .ret u, ⟨v, σ', H', J, rv, q⟩ => exact out J rv q
  | .next, ⟨σ', H', J, q⟩ => exact out (v := V.non) (u := Value.none) J rfl q
  | .brk, ⟨_, _, _, q⟩ => exact q.elim
  | .cont, ⟨_, _, _, q⟩ => exact q.elim
theorem Fun_okG {x qual : Str} {st : Stmt} {f : Addr} {fd : FuncData} {N ps : List Str} {k : Nat} {sp : Sp} (F : Fun K x qual st f fd) (S : FnScope N ps (defScope st)) (lens : ∀ vs H Q E, sp vs H Q E → vs.length = ps.length)
    (inner : ∀ (cdv : Value) (A : Around) (outer : List Env) (s : Shared) (H : Hp) (vs : List V) (Q : VK) (E : XK), Room k (A.deeper (envOfC qual (defScope st) s.heap.objs.size f cdv)) → A.guards = some [] → sp vs H Q E →
      ∃ t, PSs (cxOf CX0 P w K mg base N qual (defScope st) f cdv A outer s H E).nox (defBody st) t ∧ t { nx := fun _ H' => Q .non H', rt := Q } (start N vs) H) : FnG P w K mg base CX0 (k + 1) f fd ps sp := by
  obtain ⟨oc, od, kV, doc, pm, an, cdv, ct, osl, rfl, lk, hcode⟩ := F.ex
  refine fnG_of lk hcode S lens ?_
  intro A outer s H vs Q E room quiet want
  obtain ⟨t, der, rd⟩ := inner cdv A outer s H vs Q E room quiet want
  exact ⟨t, der.nox, rd⟩
end

section
variable {X : Cx} {CX : CXT} {k : Nat} {f : Addr} {fd : FuncData} {ps : List Str} {sp : Sp} {dvs : List V} {ds : List Value} {E : XK} {x : Str} {p pos : Pos} {e : Expr} {es : List Expr} {t : TA}
/-- f(e, ..) of such a def -/
theorem pe_callG (quiet : X.A.guards = some []) (F : FnG X.prog X.w X.K X.mg X.base CX k f fd ps sp) (hr : Room k X.A) (hg : Gl X x) (hm : X.mg x = some (.ref f)) (hk : PySem.W.keepIn X.K (.ref f) = true) (hb : Binds X.K fd ps ds) (hd : Vals dvs ds) (hx : Passes CX X E)
    (ha : PA X (e :: es) t) (hdb : (x == ("__debug__" : Str)) = false := by decide) (he : starEach (e :: es) X.env = (false, eval e X.env) :: starEach es X.env := by rfl)
    (hpl : (backTo pos (starEach es X.env)).any (·.1) = false := by rfl) :
    PE X (.Call (.Name x p) (e :: es) [] pos)
          (tCall sp dvs E t) := by
  constructor
  intro pins s σ H Q I h
  refine wpAny_Call_Name_kw (ld_glob
        I hg hm ?_ hdb)
  refine PySem.W.callWith_K (h₀ := X.base) I.ok.mod.kin hk (thn (ha.run pos pins s σ H _ I h) ?_) he hpl
  rintro us s1 ⟨vs, H1, I1, r, q⟩
  refine ⟨I1.kIn, ?_⟩
  have rel : Vals (vs ++ dvs) (us ++ ds) := r.append hd
  have ln : (us ++ ds).length = ps.length := rel.length ▸ F.args _ _ _ _ q
  refine wpAny_call (codeAny_mono (F.runs X.A X.stack s1 H1 ⟨us, []⟩ (us ++ ds) (vs ++ dvs) Q E hr quiet I1.env0 (hb s1 us I1.kIn ln) rel q) ?_)
  intro res s' fin
  match res, fin with
  | .error er, fin => exact hx pins σ H1 s1 er s' I1 fin
  | .ok (.ret u), fin => exact I1.after fin
  | .ok .next, fin => exact fin.elim
  | .ok .brk, fin => exact fin.elim
  | .ok .cont, fin => exact fin.elim
end

/-! ### repr of data -/
section
variable {X : Cx}
/-- repr(x), x a list or a tuple of data without dicts -/
theorem call_reprD (quiet : X.A.guards = some []) {k : Nat} (hr : Room k X.A) : CallR X (.builtin "repr") (fun xs H Q => ∃ (a : Addr) (d : PyData), xs = [.ref a] ∧ D X.K H (.ref a) d ∧ d.showable = true ∧ d.hasDict = false ∧ d.depth ≤ 60 ∧ d.shown.length ≤ sizeLine ∧ Q (.str d.shown) H) := by
  intro pins s σ H xs
        us Q I r h
  obtain ⟨a, d, rfl, hd, hs, hn, hdep, hsz, q⟩ := h
  obtain ⟨u, rfl, ru⟩
        := vals1 r
  obtain rfl : u = Value.ref
        a := ru
  obtain ⟨as, rr⟩ := hd.reads I _ rfl
  have un := hr.un
  refine repr_of_reads' rr hs (fun z => by rw [hn] at z; cases z) quiet (by omega) (fun _ _ e => e) (fun h' u tk hk => ?_) hsz
  exact ⟨.str d.shown, H, I.kept hk, ⟨_, rfl⟩, q⟩
end
end LW
namespace LW
open L2 PySem.Spec PyProof.Rows PySem
/-! ### the law's own call -/
theorem law_start {P : Program} {w : World} {K : PySem.W.Frag} {mg mb : Str → Option Value} {k : Nat} {fa a : Addr} {fd : FuncData} {x : Str} {sp : Sp} {s₁ : Shared} {vs : List Value} {ns : List Int}
    (KX : K.In s₁.heap) (gl : s₁.heap.Ns mainGlobals mg) (bl : s₁.heap.Ns builtinsNs mb) (bb : ∀ x : Str, x ≠ "__name__" → mb x = bootBuiltins x) (lim : s₁.heap.NoLimit) (gn : s₁.gens = #[])
    (sa : s₁.heap.get? a = some { cls := .type "list", data := .seq vs.toArray }) (si : IntsAre vs ns) (sl : ns.length ≤ sizeLine) (room : Room k callerA)
    (F : ∀ base : Heap, K.In base → base.Ns mainGlobals mg → FnG P w K mg base CX0 k fa fd [x] sp) (bind : ∀ (s : Shared) (u : Value), BindsTo s fd ⟨[u], []⟩ [(x, u)])
    (want : ∀ H : Hp, SqL K H a (ns.map V.int) → sp [.ref a] H (fun v _ => v = .bl true) fun _ _ _ => False) :
    codeAny (model P w) callerA (.call (.ref fa) ⟨[.ref a], []⟩) (fun r s' => r = .ok (.ret (.bool true)) ∧ OldK
          s₁.heap s'.heap ∧ s'.os = s₁.os ∧ AllBare s'.gens) s₁ := by
  have rels := vals_ints si
  have many := si.length
  let ob : Obj := { cls := .type "list", data := .seq vs.toArray }
  -- the heap that is tracked: the script alone, or nothing
  have main : ∀ H : Hp, (∀ b, H b = none ∨ (b = a ∧ K.lookup a = none ∧ H b = some (.frz ob (.lst (ns.map V.int))))) → SqL K H a (ns.map V.int) →
      codeAny (model P w) callerA (.call (.ref fa) ⟨[.ref a], []⟩) (fun r s' => r = .ok (.ret (.bool true)) ∧ OldK
            s₁.heap s'.heap ∧ s'.os = s₁.os ∧ AllBare s'.gens) s₁ := by
    intro H onlyA sq
    have ok : HOk P w H s₁.heap := by
      intro b u hb
      rcases onlyA b with z | ⟨rfl, _, z⟩
      · rw [z] at hb; cases hb
      · rw [z] at hb
        cases hb
        exact ⟨sa, by rw [List.length_map]; exact sl, vs, _, rels, sa⟩
    have untracked : ∀ {b : Addr} {o : Obj}, s₁.heap.get? b = some o → (∀ its n, o.data ≠ .seq its n) → H b = none := by
      intro b o e nd
      rcases onlyA b with z | ⟨rfl, _, _⟩
      · exact z
      · rw [sa] at e
        cases e
        exact (nd _ _ rfl).elim
    have lift : ∀ {b : Addr} {m : Str → Option Value}, s₁.heap.Ns b m → (hidT s₁.heap H).Ns b m := by
      rintro b m ⟨o, es, ep, e, d, r⟩
      exact ⟨o, es, ep, hidT_get e (untracked e fun its n z => by rw [d] at z; cases z), d, r⟩
    have KB : K.In (hidT s₁.heap H) := by
      intro b o e
      refine hidT_get (KX b o e) ?_
      rcases onlyA b with z | ⟨rfl, z, _⟩
      · exact z
      · rw [z] at e; cases e
    have env0 : Env0 P w K mg (hidT s₁.heap H) callerA [] s₁ H := by
      refine ⟨rfl, ⟨KB, lift gl, ⟨mb, lift bl, bb⟩, ?_⟩, fun b o e => of_hidT e, Nat.le_of_eq (hidT_size _ _), trivial, ?_, ok, .of_eq gn⟩
      · obtain ⟨mc, l1, l2⟩ := lim
        exact ⟨mc, lift l1, l2⟩
      · intro b hb
        simp [frs] at hb
    refine codeAny_mono ((F _ KB (lift gl)).runs callerA [] s₁ H ⟨[.ref a], []⟩ [.ref a] [.ref a] _ _ room rfl env0 (bind s₁ (.ref a)) (.cons rfl .nil) (want H sq)) ?_
    intro r s' fin
    match r, fin with
    | .error er, fin => exact fin.elim
    | .ok .next, fin => exact fin.elim
    | .ok .brk, fin => exact fin.elim
    | .ok .cont, fin => exact fin.elim
    | .ok (.ret u), ⟨v, H', os, bare, un, ok', rv, q⟩ =>
      have q' : v = .bl true := q
      subst q'
      have ru : u = Value.bool true := rv
      subst ru
      refine ⟨rfl, OldK.of_keep ?_, os, bare⟩
      intro b o e
      rcases onlyA b with z | ⟨rfl, _, z⟩
      · exact un.keep b o e z (by simp [frs]) (by simp)
      · obtain ⟨e2, _⟩ := ok' b _ (un.frzs b ob _ z)
        rw [sa] at e
        cases e
        exact e2
  by_cases own : K.lookup a = none
  · refine main (fun b => if b = a then some (.frz ob (.lst (ns.map V.int))) else none) (fun b => ?_) (.inl (.inr ⟨ob, if_pos rfl⟩))
    by_cases z : b = a
    · exact .inr ⟨z, own, if_pos z⟩
    · exact .inl (if_neg z)
  · cases q : K.lookup a with
    | none => exact (own q).elim
    | some o =>
      have e := KX a o q
      rw [sa] at e
      cases e
      exact main (fun _ => none) (fun _ => .inl rfl) (.inr ⟨_, vs.toArray, _, q, rfl, rfl, rfl, by rw [List.size_toArray, many]; exact sl, by simpa using rels⟩)

theorem law_walk {l : PySem.W.OpenLaw} {n k : Nat} {q : Program} {loose : List Str} {XP : (Str → Option Value) → Heap → Prop} {YP : World → Heap → Prop} {d : DefRec} {K : Params → PySem.W.Frag} {sp : PySem.W.Frag → Sp} {x : Str}
    (most : l.most = some n) (short : n ≤ sizeLine) (noDefaults : d.params.defaults = []) (room : Room k callerA)
    (written : ∀ (w : World) (h : Heap), YP w h → (K w.params).In h)
    (F : ∀ (w : World) (mg : Str → Option Value) (fa : Addr) (h : Heap), (K w.params).In h → h.Ns mainGlobals mg → XP mg h → mg d.name = some (.ref fa) →
      ∃ fd : FuncData, (∀ (s : Shared) (u : Value), BindsTo
            s fd ⟨[u], []⟩ [(x, u)]) ∧
        ∀ base : Heap, (K w.params).In base → base.Ns mainGlobals mg → FnG l.prog w (K w.params) mg base CX0 k fa fd [x] (sp (K w.params)))
    (want : ∀ (K : PySem.W.Frag) (H : Hp) (a : Addr) (ns : List Int), ns.length ≤ n → SqL K H a (ns.map V.int) → sp K [.ref a] H (fun v _ => v = .bl true) fun _ _ _ => False) :
    PySem.W.WalkO q loose XP YP l.row.toRowW d [] (fun f vs
          => PySem.call f vs) := by
  refine Att.attach_call most noDefaults ?_
  intro w s₀ s₁ mg mb fa o pm cd doc a vs ns G Y ho hd hcd hmg hobj hints hlen hg
  have KX := written w _ Y
  obtain ⟨fd, hb, hF⟩ := F w mg fa _ KX G.T.g G.X hmg
  exact law_start KX G.T.g G.T.b G.T.builtins G.T.nolimit hg hobj hints (Nat.le_trans hlen short) room hF hb (fun H hS => want (K w.params) H a ns hlen hS)
end LW

set_option Elab.async false
set_option linter.all false
set_option maxRecDepth 100000
set_option maxHeartbeats 4000100
/-! what the readings of common parts ask, from facts of data; the built-in names -/
namespace LW
open L2 PySem.Spec PyProof.Rows PySem

/-- the built-in names are still that -/
structure Bl (mg : Str → Option Value) : Prop where
  len : mg "len" = none
  abs : mg "abs" = none
  divmod : mg "divmod" = none
  sorted : mg "sorted" = none
  all : mg "all" = none
  any : mg "any" = none
  sum : mg "sum" = none
  max : mg "max" = none
  min : mg "min" = none
  repr : mg "repr" = none
  isinstance : mg "isinstance" = none
  int : mg "int" = none
  str : mg "str" = none
  bool : mg "bool" = none
  tuple : mg "tuple" = none
  list : mg "list" = none
  set : mg "set" = none
  dict : mg "dict" = none
  range : mg "range" = none
  enumerate : mg "enumerate" = none
  reversed : mg "reversed" = none
  zip : mg "zip" = none

/-- a def of the text, by its name -/
structure OwnDef (K : PySem.W.Frag) (mg : Str → Option Value) (x : Str) (st : Stmt) : Prop where
  ex : ∃ (f : Addr) (fd : FuncData), Fun K x x st f fd ∧ mg x = some (.ref f)

/-- a def that may be called by its name -/
structure Cal (P : Program) (w : World) (K : PySem.W.Frag) (mg : Str → Option Value) (base : Heap) (k :
      Nat) (x : Str) (sp : Sp) (dvs : List V) : Prop where
  ex : ∃ (f : Addr) (fd : FuncData) (ps : List Str) (ds : List Value), FnOk P w K mg base CX0 k f fd ps sp ∧ mg x = some (.ref f) ∧
    PySem.W.keepIn K (.ref f) = true ∧ Binds K fd ps ds ∧ Vals dvs ds
/-- .. where nothing is being shown -/
structure CalG (P : Program) (w : World) (K : PySem.W.Frag) (mg : Str → Option Value) (base : Heap) (k : Nat) (x : Str) (sp : Sp) (dvs : List V) : Prop where
  ex : ∃ (f : Addr) (fd : FuncData) (ps : List Str) (ds : List Value), FnG P w K mg base CX0 k f fd ps sp ∧ mg x = some (.ref f) ∧
    PySem.W.keepIn K (.ref f) = true ∧ Binds K fd ps ds ∧ Vals dvs ds
section
variable {X : Cx} {k j : Nat} {x : Str} {sp : Sp} {dvs : List V} {p pos : Pos} {e : Expr} {es : List Expr} {t : TA}
theorem pe_c (cl : Cal X.prog X.w X.K X.mg X.base k x sp dvs) (hr : Room j X.A) (hk : k ≤ j) (hg : Gl X x) (ha : PA X (e :: es) t)
    (hdb : (x == ("__debug__" : Str)) = false := by
          decide) (he : starEach (e :: es) X.env = (false, eval e X.env) :: starEach es X.env := by rfl)
    (hpl : (backTo pos (starEach es X.env)).any (·.1) = false := by rfl) :
    PE X (.Call (.Name x p) (e :: es) [] pos)
          (tCall sp dvs E0 t) := by
  obtain ⟨f, fd, ps, ds, F, m, kp, b, d⟩ := cl.ex
  exact pe_call F (hr.mono hk) hg m kp b d pass0 ha hdb he hpl
theorem pe_cG (quiet : X.A.guards = some []) (cl : CalG X.prog X.w X.K X.mg X.base k x sp dvs) (hr : Room j X.A) (hk : k ≤ j) (hg : Gl X x) (ha : PA X (e :: es) t)
    (hdb : (x == ("__debug__" : Str)) = false := by
          decide) (he : starEach (e :: es) X.env = (false, eval e X.env) :: starEach es X.env := by rfl)
    (hpl : (backTo pos (starEach es X.env)).any (·.1) = false := by rfl) :
    PE X (.Call (.Name x p) (e :: es) [] pos)
          (tCall sp dvs E0 t) := by
  obtain ⟨f, fd, ps, ds, F, m, kp, b, d⟩ := cl.ex
  exact pe_callG quiet F (hr.mono hk) hg m kp b d pass0 ha hdb he hpl
end

section
variable {K : PySem.W.Frag} {A : List Addr} {H : Hp} {v w : V} {vs : List V} {d : PyData} {ds : List PyData} {Q : VK}
theorem atI_of {xs : List V} {i : Int} {w : V} (h0 : 0 ≤ i) (e : xs[i.toNat]? = some w) : atI xs i = some w := by
  have z : i = (i.toNat : Int) := (Int.toNat_of_nonneg h0).symm
  rw [z]
  exact atI_nat e
theorem rd_tup {i : Int} (h : Is K A H v (.tuple ds)) (h0 : 0 ≤ i) (e : ds[i.toNat]? = some d) (k : ∀ w, Is K A H w d → Q w H) : rIx K v (.int i) H Q := by
  obtain ⟨a, ws, rfl, sq, all⟩ := is_tup h
  obtain ⟨w, ew, hw⟩ := iss_get all e
  exact .inr (.inl ⟨a, ws, i, w, rfl, rfl, sqT_full sq, atI_of h0 ew, k w hw⟩)
theorem rd_lst {i : Int} (h : Is K A H v (.list ds)) (h0 : 0 ≤ i) (e : ds[i.toNat]? = some d) (k : ∀ w, Is K A H w d → Q w H) : rIx K v (.int i) H Q := by
  obtain ⟨a, ws, rfl, sq, all⟩ := is_lst h
  obtain ⟨w, ew, hw⟩ := iss_get all e
  exact .inl ⟨a, ws, i, w, rfl, rfl, sqL_full sq, atI_of h0 ew, k w hw⟩
theorem rd_raw {a : Addr} {xs : List V} {i : Int} (h : SqL K H a xs) (h0 : 0 ≤ i) (e : xs[i.toNat]? = some w) (k : Q w H) : rIx K (.ref a) (.int i) H Q :=
  .inl ⟨a, xs, i, w, rfl, rfl, h, atI_of h0 e, k⟩
/-- an int of a tuple -/
theorem rd_int {i j : Int} (h : Is K A H v (.tuple ds)) (h0 : 0 ≤ i) (e : ds[i.toNat]? = some (.int j)) (k : Q (.int j) H) : rIx K v (.int i) H Q :=
  rd_tup h h0 e fun w hw => by rw [is_int hw]; exact k
def rLen (K : PySem.W.Frag) : List V → Hp → VK → Prop := fun xs H Q => ∃ p ys, xs = [.ref p] ∧ (SqL K H p ys ∨ SqT K H p ys) ∧ Q (.int ys.length) H
theorem rd_lenT (h : Is K A H v (.tuple ds)) (k : Q (.int ds.length) H) : ∃ p ys, [v] = [.ref p] ∧ (SqL K H p ys ∨ SqT K H p ys) ∧ Q (.int ys.length) H := by
  obtain ⟨a, ws, rfl, sq, all⟩ := is_tup h
  exact ⟨a, ws, rfl, .inr (sqT_full sq), by rw [iss_len all]; exact k⟩
theorem rd_lenL (h : Is K A H v (.list ds)) (k : Q (.int ds.length) H) : ∃ p ys, [v] = [.ref p] ∧ (SqL K H p ys ∨ SqT K H p ys) ∧ Q (.int ys.length) H := by
  obtain ⟨a, ws, rfl, sq, all⟩ := is_lst h
  exact ⟨a, ws, rfl, .inl (sqL_full sq), by rw [iss_len all]; exact k⟩
end

/-! ### kinds of data -/
def tyN : PyData → String
  | .none => "NoneType"
  | .bool _ => "bool"
  | .int _ => "int"
  | .str _ => "str"
  | .list _ => "list"
  | .tuple _ => "tuple"
  | .dict _ => "dict"
section
variable {K : PySem.W.Frag} {A : List Addr} {H : Hp} {v w : V} {vs : List V} {d : PyData} {ds : List PyData} {Q : VK}
theorem D.ty (h : D K H v d) : TyX K H v (.type (tyN d)) := by
  cases h with
  | non => exact .base .non
  | bl b => exact .base (.bl b)
  | int i => exact .base (.int i)
  | str x => exact .base (.str x)
  | lst h len all =>
    rcases h with (h | ⟨o, h⟩) | ⟨o, its, n, h, hc, _⟩
    · exact .base (.lst h)
    · exact .base (.frz h)
    · exact .kList h hc
  | tup h len all =>
    rcases h with (h | ⟨o, h⟩) | ⟨o, its, n, h, hc, _⟩
    · exact .base (.tup h)
    · exact .fTuple h
    · exact .kTuple h hc
  | dct h => exact .base (.dK h)
/-- isinstance(x, a built-in class) of data -/
theorem rd_isi {n : String} {b : Bool} (h : D K H v d) (e : kitB (tyN d) n = some b) (k : Q (.bl b) H) : rIsi K [v, .ty n] H Q :=
  ⟨v, .ty n, .type (tyN d), .type n, b, rfl, .ty n, h.ty, kit_ty e, k⟩
def isIntD : PyData → Bool
  | .int _ => true
  | _ => false
def isTupD : PyData → Bool
  | .tuple _ => true
  | _ => false
def isStrD : PyData → Bool
  | .str _ => true
  | _ => false
def isBoolD : PyData → Bool
  | .bool _ => true
  | _ => false
theorem kit_int : ∀ d : PyData, kitB (tyN d) "int" = some (isIntD d || isBoolD d)
  | .none => (by decide +kernel : kitB "NoneType" "int" = some false)
  | .bool _ => (by decide +kernel : kitB "bool" "int" = some true)
  | .int _ => (by decide +kernel : kitB "int" "int" = some true)
  | .str _ => (by decide +kernel : kitB "str" "int" = some false)
  | .list _ => (by decide +kernel : kitB "list" "int" = some false)
  | .tuple _ => (by decide +kernel : kitB "tuple" "int" = some false)
  | .dict _ => (by decide +kernel : kitB "dict" "int" = some false)
theorem kit_bool : ∀ d : PyData, kitB (tyN d) "bool" = some (isBoolD d)
  | .none => (by decide +kernel : kitB "NoneType" "bool" = some false)
  | .bool _ => (by decide +kernel : kitB "bool" "bool" = some true)
  | .int _ => (by decide +kernel : kitB "int" "bool" = some false)
  | .str _ => (by decide +kernel : kitB "str" "bool" = some false)
  | .list _ => (by decide +kernel : kitB "list" "bool" = some false)
  | .tuple _ => (by decide +kernel : kitB "tuple" "bool" = some false)
  | .dict _ => (by decide +kernel : kitB "dict" "bool" = some false)
theorem kit_tup : ∀ d : PyData, kitB (tyN d) "tuple" = some (isTupD d)
  | .none => (by decide +kernel : kitB "NoneType" "tuple" = some false)
  | .bool _ => (by decide +kernel : kitB "bool" "tuple" = some false)
  | .int _ => (by decide +kernel : kitB "int" "tuple" = some false)
  | .str _ => (by decide +kernel : kitB "str" "tuple" = some false)
  | .list _ => (by decide +kernel : kitB "list" "tuple" = some false)
  | .tuple _ => (by decide +kernel : kitB "tuple" "tuple" = some true)
  | .dict _ => (by decide +kernel : kitB "dict" "tuple" = some false)
theorem kit_str : ∀ d : PyData, kitB (tyN d) "str" = some (isStrD d)
  | .none => (by decide +kernel : kitB "NoneType" "str" = some false)
  | .bool _ => (by decide +kernel : kitB "bool" "str" = some false)
  | .int _ => (by decide +kernel : kitB "int" "str" = some false)
  | .str _ => (by decide +kernel : kitB "str" "str" = some true)
  | .list _ => (by decide +kernel : kitB "list" "str" = some false)
  | .tuple _ => (by decide +kernel : kitB "tuple" "str" = some false)
  | .dict _ => (by decide +kernel : kitB "dict" "str" = some false)
end

/-! ### the tank: a list of three ints at a, changed by each draw -/
structure TankAt (H : Hp) (a : Addr) : Prop where
  ex : ∃ x y z : Int, H a = some (.lst [.int x, .int y, .int z]) ∧ 0 ≤ x ∧ 0 ≤ y ∧ y < 1610612741 ∧ 0 ≤ z
theorem TankAt.ne {H : Hp} {a : Addr} (t : TankAt H a) : H a ≠ none := by
  obtain ⟨x, y, z, e, _⟩ := t.ex
  rw [e]; exact fun z => by cases z
theorem TankAt.keep {H H' : Hp} {a : Addr} (t : TankAt H a) (s : Same H H') : TankAt H' a := by
  obtain ⟨x, y, z, e, r⟩ := t.ex
  exact ⟨x, y, z, s _ _ e, r⟩
theorem TankAt.upd_ne {H : Hp} {a p : Addr} {o : HO} (t : TankAt H a) (n : H p = none) : TankAt (upd H p o) a := t.keep (same_new n)
/-- kept outside A, and the tank at a is one still -/
structure GoT (A : List Addr) (a : Addr) (H H' : Hp) : Prop where
  go : Go A H H'
  tank : TankAt H' a
end LW
namespace LW
open L2 PySem.Spec PyProof.Rows PySem
/-- what an expression gives, told once for all that may follow -/
theorem via {σ : L2.St} {H : Hp} {t : TE} {Q : VK} (P : V → Hp → Prop) (h : ∀ Q' : VK, (∀ v H', P v H' → Q' v H') → t σ H Q') (k : ∀ v H', P v H' → Q v H') : t σ H Q := h Q k
theorem viaT {σ : L2.St} {H : Hp} {t : TT} {Q : Bool → Hp → Prop} (P : Bool → Hp → Prop) (h : ∀ Q' : Bool → Hp → Prop, (∀ v H', P v H' → Q' v H') → t σ H Q') (k : ∀ v H', P v H' → Q v H') : t σ H Q := h Q k
theorem pos_of {j : Int} (h : 0 < j) : (fun (_ j : Int) => 0 < j) 0 j := h
theorem some_map {α β : Type} {f : α → β} {l : List α} {i : Nat} {y : β} (h : (l.map f)[i]? = some y) : ∃ x, l[i]? = some x ∧ y = f x := by
  rw [List.getElem?_map] at h
  cases e : l[i]? with
  | none => rw [e]
        at h; cases h
  | some z => rw [e] at h; exact ⟨z, rfl, (Option.some.inj h).symm⟩
theorem map_some {α β : Type} {f : α → β} {l : List α} {i : Nat} {x : α} (h : l[i]? = some x) : (l.map f)[i]? = some (f x) := by
  rw [List.getElem?_map, h]; rfl
end LW
namespace LW
open L2 PySem.Spec PyProof.Rows PySem
theorem own_mk {K : PySem.W.Frag} {h : Heap} {mg : Str → Option Value} {x : Str} {st : Stmt} {f : Addr} {oc kV dc pm cd ct : Value} {od an : Option Addr} {sl : Array (Option Value)} (X : K.In h) (G : h.Ns mainGlobals mg)
    (a : PySem.W.nsIn K mainGlobals x = some (some (.ref f)))
    (l : K.lookup f = some ⟨oc, od, .func (PySem.W.fnOf x x (defArgs st) (defBody st) (defScope st) .none kV dc pm an cd ct), sl⟩)
    (co : PySem.W.codeIn K cd x = true) (k : PySem.W.keepIn K (.ref f) = true) : OwnDef K mg x st :=
  ⟨f, _, fun_mk (st := st) l co k, PySem.W.mg_of X G a⟩
end LW

namespace LW
open L2 PySem.Spec PyProof.Rows PySem
section
variable {X : Cx} {x : Str} {pos : Pos} {i : Int}
/-- a module's whole number, by its name -/
theorem pe_gint (hg : Gl X x) (hm : ∃ t, X.mg x = some (.int i t)) (hd : (x == ("__debug__" : Str)) = false := by decide) : PE X (.Name x pos) (tC (.int i)) := by
  obtain ⟨t, m⟩ := hm
  exact pe_glob hg m ⟨t, rfl⟩ hd
end
end LW
namespace LW
open L2 PySem.Spec PyProof.Rows PySem
section
variable {K : PySem.W.Frag} {H : Hp} {v w : V} {vs : List V} {d : PyData} {ds : List PyData} {Q : VK}
theorem D.is (h : D K H v d) : Is K [] H v d := by
  show D K (hv [] H) v d
  rw [hv_nil]; exact h
theorem DAll.is (h : DAll K H vs ds) : Iss K [] H vs ds := by
  show DAll K (hv [] H) vs ds
  rw [hv_nil]; exact h
theorem D.tuple (h : D K H v (.tuple ds)) : ∃ a vs, v = .ref a ∧ SqT K H a vs ∧ DAll K H vs ds := by
  cases h with
  | tup h l a => exact ⟨_, _, rfl, h, l, a⟩
theorem D.list (h : D K H v (.list ds)) : ∃ a vs, v = .ref a ∧ SqL K H a vs ∧ DAll K H vs ds := by
  cases h with
  | lst h l a => exact ⟨_, _, rfl, h, l, a⟩
theorem DAll.get (h : DAll K H vs ds) {i : Nat} (e : ds[i]? = some d) : ∃ v, vs[i]? = some v ∧ D K H v d := by
  have hi : i < ds.length := (List.getElem?_eq_some_iff.mp e).1
  rw [← h.len] at hi
  exact ⟨_, List.getElem?_eq_getElem hi, h.all i _ _ (List.getElem?_eq_getElem hi) e⟩
theorem DAll.get' (h : DAll K H vs ds) {i : Nat} (e : vs[i]? = some v) : ∃ d, ds[i]? = some d ∧ D K H v d := by
  have hi : i < vs.length := (List.getElem?_eq_some_iff.mp e).1
  rw [h.len] at hi
  exact ⟨_, List.getElem?_eq_getElem hi, h.all i _ _ e (List.getElem?_eq_getElem hi)⟩
theorem D.int_eq {i : Int} (h : D K H v (.int i)) : v = .int i := by cases h; rfl
theorem D.str_eq {i : Str} (h : D K H v (.str i)) : v = .str i := by cases h; rfl
theorem D.bool_eq {i : Bool} (h : D K H v (.bool i)) : v = .bl i := by cases h; rfl
theorem D.none_eq (h : D K H v .none) : v = .non := by cases h; rfl
/-- t[i], l[i] at i not below 0 -/
theorem ix_dt {i : Int} (h : D K H v (.tuple ds)) (h0 : 0 ≤ i) (e : ds[i.toNat]? = some d) (k : ∀ w, D K H w d → Q w H) : rIx K v (.int i) H Q := by
  obtain ⟨a, ws, rfl, sq, all⟩ := h.tuple
  obtain ⟨w, ew, hw⟩ := all.get e
  exact .inr (.inl ⟨a, ws, i, w, rfl, rfl, sq, atI_of h0 ew, k w hw⟩)
theorem ix_dl {i : Int} (h : D K H v (.list ds)) (h0 : 0 ≤ i) (e : ds[i.toNat]? = some d) (k : ∀ w, D K H w d → Q w H) : rIx K v (.int i) H Q := by
  obtain ⟨a, ws, rfl, sq, all⟩ := h.list
  obtain ⟨w, ew, hw⟩ := all.get e
  exact .inl ⟨a, ws, i, w, rfl, rfl, sq, atI_of h0 ew, k w hw⟩
theorem ix_di {i j : Int} (h : D K H v (.tuple ds)) (h0 : 0 ≤ i) (e : ds[i.toNat]? = some (.int j)) (k : Q (.int j) H) : rIx K v (.int i) H Q :=
  ix_dt h h0 e fun w hw => by rw [hw.int_eq]; exact k
end
end LW
namespace LW
open L2 PySem.Spec PyProof.Rows PySem
/-- an if whose ways meet again -/
theorem viaIf {c : TT} {t u : TS} {D : Ends} {σ : L2.St} {H : Hp} (P : L2.St → Hp → Prop) (h : ∀ D' : Ends, (∀ σ' H', P σ' H' → D'.nx σ' H') → tIfS c t u D' σ H) (k : ∀ σ' H', P σ' H' → D.nx σ' H') : tIfS c t u D σ H := h D k
end LW
namespace LW
open L2 PySem.Spec PyProof.Rows PySem
/-- a method that may be called -/
structure Met (P : Program) (w : World) (K : PySem.W.Frag) (mg : Str → Option Value) (base : Heap) (k : Nat) (C : Addr) (m : Str) (sp : Sp) : Prop where
  ex : ∃ (f : Addr) (fd : FuncData) (ps : List Str), Cls K C ∧ Meth K C m f ∧ FnOk P w K mg base CX0 k f fd ps sp ∧ Binds K fd ps []
section
variable {X : Cx} {k j : Nat} {C : Addr} {m : Str} {sp : Sp} {pos apos : Pos} {e o : Expr} {es : List Expr} {ta : TE} {t : TA}
theorem pe_mt {pl : Sem Bool} (cl : Met X.prog X.w X.K X.mg X.base k C m sp) (hr : Room j X.A) (hk : k ≤ j) (he : PE X o ta) (ha : PA X (e :: es) t)
    (hst : starEach (e :: es) X.env = (false, eval e X.env) :: starEach es X.env := by rfl)
    (hpl : (backTo pos (starEach es X.env)).any (·.1) = false := by rfl)
    (ht : eval (.Call (.Attribute o m apos) (e ::
          es) [] pos) X.env = (do
        let v ← eval o X.env
        standAt apos.atName
        let (g, fst) ← holding [v] (getMethod v m pl)
        callWith pos g fst (backTo pos (starEach (e :: es) X.env)) (backToKw pos (keywordEach [] X.env))) := by rfl) :
    PE X (.Call (.Attribute o m apos) (e :: es) [] pos) (tMeth C m sp [] E0 ta t) := by
  obtain ⟨f, fd, ps, c, me, F, b⟩ := cl.ex
  exact pe_meth (pl := pl) he c me F (hr.mono hk) b .nil pass0 ha hst hpl ht
end
end LW

set_option Elab.async false
set_option linter.all false
set_option maxRecDepth 100000
set_option maxHeartbeats 4000100
/-! enumerate over a tuple -/
namespace LW
open L2 PySem.Spec PyProof.Rows PySem
theorem meets_enum_new1 {v : Value} {o : Obj} {G : Heap → Prop} (B : Begins v o G) :
    Meets (Builtin.«enumerate.__new__» ⟨[.type "enumerate", v], []⟩) (fun _ R s => G s.heap ∧
      R (.ok (.ret (.ref (s.heap.push o).objs.size)))
        { s with heap := (s.heap.push o).push { cls := .type "enumerate", data := .fields #[.none, .bool false, .ref s.heap.objs.size, rawInt 0, .none, .none] } }) :=
  .of_wp fun prog w A R s given => by
    obtain ⟨hp, g, d, tk,
          os⟩ := s
    obtain ⟨g1, r1⟩ := given
    have subs := sub_enumerate
    have begin1 : ∀ {A' : Around} {E : Value → Shared → Prop} {Q : Value → Shared → Prop}, Q (.ref hp.objs.size) ⟨hp.push o, g, d, tk, os⟩ →
        wpAny (model prog w) A' (pyIter v) Q E ⟨hp, g, d, tk, os⟩ := fun q => B.iter prog w _ _ ⟨hp, g, d, tk, os⟩ _ g1 q
    wp_walk using begin1
    refine wpAny_stack_any fun st
          => wpAny_pure ?_
    split
    · rename_i c _ _ _ _ _
      cases (c == Value.type "enumerate") <;>
      · wp_walk using begin1
        exact ⟨_, rfl, r1⟩
    · wp_walk using begin1
      exact ⟨_, rfl, r1⟩
section
variable {prog : Program} {w : World} {A : Around} {E : Value
      → Shared → Prop} {s : Shared}
theorem call_enumerate_tuple {t : Addr} {items : Array Value} {Q : Value → Shared → Prop} (tp : s.heap.IsTuple t items)
    (h : ∀ h', IsEnum h' (s.heap.objs.size + 1) s.heap.objs.size 0 .none → h'.IsTupleIter s.heap.objs.size t 0 →
      (∀ b o, s.heap.get? b = some o → h'.get? b = some o) → Q (.ref (s.heap.objs.size
            + 1)) { s with heap := h' }) :
    wpAny (model prog w) A (call (.type "enumerate") [.ref t]) Q E s := by
  let ob : Obj := { cls := .type "tuple_iterator", data := .fields #[.ref t, .int 0 0] }
  let en : Obj := { cls := .type "enumerate", data := .fields #[.none, .bool false, .ref s.heap.objs.size, rawInt 0, .none, .none] }
  refine callType_new F.called_enumerate (by decide) (F.typeCall_enumerate_1 _) (F.newCall_enumerate_1 _)
    (fun obj => F.args_object_init_2 obj _) F.entry_enumerate_new (meets_enum_new1 (begins_tuple t items)) ⟨tp, ?_⟩
  have size1 : (s.heap.push ob).objs.size = s.heap.objs.size + 1 := Heap.size_push ..
  show _ ∧ _
  have enum1 : IsEnum ((s.heap.push ob).push en) (s.heap.objs.size + 1) s.heap.objs.size 0 .none := by
    have z := Heap.get?_push_size (s.heap.push ob) (o := en) rfl
    rw [size1] at z
    exact z
  have fin := h _ enum1 ⟨ob, Heap.get?_push_of_some _ (Heap.get?_push_size _ rfl), rfl, rfl⟩ (fun b o x => Heap.get?_push_of_some _ (Heap.get?_push_of_some _ x))
  rw [show (s.heap.push { cls := .type "tuple_iterator", data := .fields #[.ref t, .int 0 0] }).objs.size = s.heap.objs.size + 1 from size1]
  exact ⟨⟨_, enum1, rfl⟩, fin⟩
end
/-- the tuple at a at each turn, each item in a new pair -/
def Itet (K : PySem.W.Frag) (a : Addr) : It :=
  ⟨fun i H => ∃ (xs : List V) (x : V), SqT K H a xs ∧ xs[i]? = some x,
   fun i H v H' => ∃ T x, v = .ref T ∧ H T = none ∧ H' = upd H T (.tup [.int (i : Nat), x]) ∧ ∀ xs, SqT K H a xs → xs[i]? = some x,
   fun i H => ∃ xs : List V, SqT K H a xs ∧ xs.length ≤ i⟩
theorem turn_enumT {P : Program} {w : World} {K : PySem.W.Frag} {elts : List Expr} {kk : Nat} {tpos : Pos} (a e it : Addr) :
    Turn P w K (.Tuple elts kk tpos) (Itet K a) [e, it] e (fun i h => (∃ old, IsEnum h e it ((i : Nat) : Int) old) ∧ h.IsTupleIter it a i ∧ e ≠ it) where
  mem := by simp
  obj := by
    rintro i h ⟨⟨old, he⟩, ⟨o, ho, hc, hd⟩, _⟩ b hb
    rcases List.mem_cons.mp
          hb with z | z
    · subst z; exact ⟨_, he, fun v q => nomatch q⟩
    · rw [List.mem_singleton] at z
      subst z
      exact ⟨o, ho, fun v q => by rw [hd] at q; cases q⟩
  keep := by
    rintro i h h' ⟨⟨old, he⟩, hi, hne⟩ k
    exact ⟨⟨old, k e (by simp) _ he⟩, hi.at fun o q => k it (by simp) o q, hne⟩
  item := by
    intro X hP hw hK hc i pins s σ
          H E I hf st hg
    subst hP hw hK
    obtain ⟨⟨old, he⟩, hit,
          hne⟩ := st
    obtain ⟨xs, x, hq, hx⟩ := hg
    obtain ⟨its, rv, p, hz⟩
          := I.tuple hq
    have tp : s.heap.IsTuple a its.toArray := p
    obtain ⟨u, hu, ru⟩ :=
          rv.get hx
    have elt : e < s.heap.objs.size := Heap.lt_size he
    have ilt : it < s.heap.objs.size := by obtain ⟨_, q, _⟩ := hit; exact Heap.lt_size q
    have nai : a ≠ it := by
      intro z
      subst z
      obtain ⟨o1, g1, c1, _⟩ := hit
      obtain ⟨o2, g2, c2, _⟩ := tp
      rw [g1] at g2
      cases g2
      rw [c1] at c2
      exact absurd (Value.type.inj c2) (by decide)
    have nae : e ≠ a := by
      intro z
      subst z
      obtain ⟨o2, g2, c2, _⟩ := tp
      have g1 := he
      unfold IsEnum at g1
      rw [g1] at g2
      cases g2
      exact absurd (Value.type.inj c2) (by decide)
    have ilen : i < its.toArray.size := by
      have := (List.getElem?_eq_some_iff.mp hu).1
      simpa using this
    have dr := Draws.tuple (prog := X.prog) (w := X.w) (A := X.A.in1) (I.ok.hd hc) it a nai its.toArray
    refine wpAny_pyNext_enum_itemD dr he ⟨hit, tp⟩ ilen hne (by simp [hne, nae]) ?_
    intro y h' tk hy out st' newT size' kept
    have ey : y = u := by
      have : its.toArray[i]? = some u := by simpa using hu
      exact Option.some.inj (hy.symm.trans this)
    subst ey
    refine ⟨_, rfl, wpAny_letOwnedTupleGo_enum (s := { s with heap := h', toks := tk + 1 }) out ?_⟩
    intro h2 he2 sb
    have nT : h2.get? s.heap.objs.size = some { cls := .type "tuple", data := .seq #[.int i tk, y] } := (sb.2 _ (Nat.ne_of_gt elt)).trans newT
    have ob : ObjOk X.prog X.w (upd H s.heap.objs.size (.tup [.int (i : Nat), x])) h2 s.heap.objs.size (.tup [.int (i : Nat), x]) := by
      refine ⟨by show 2 ≤ sizeLine; decide, [.int i tk, y], .cons ⟨_, rfl⟩ (.cons ru .nil), ⟨_, nT, rfl, _, rfl⟩⟩
    have I1 : Inv X pins σ (upd H s.heap.objs.size (.tup [.int (i : Nat), x])) { s with heap := h2, toks := tk + 1 } := by
      refine I.turnedNew (ch := [e, it]) ?_ hf (Nat.le_refl _) ob
      intro b o hb q
      have b1 : b ≠ e := fun z => hb (by simp [z])
      have b2 : b ≠ it := fun z => hb (by simp [z])
      exact (sb.2 b b1).trans (kept b o b1 b2 q)
    refine ⟨.ref s.heap.objs.size, _, I1, rfl, ⟨_, x, rfl, I.hok.fresh (Nat.le_refl _), rfl, ?_⟩, ⟨⟨y, ?_⟩, st'.1.at fun o q => (sb.2 it (Ne.symm hne)).trans q, hne⟩, ?_⟩
    · intro ys hys
      rw [I.tuple_inj hys hq]
      exact hx
    · rw [show ((i + 1 : Nat) : Int) = (i : Int) + 1 by omega]
      exact he2
    · intro b hb
      have lt : b < s.heap.objs.size := by
        rcases List.mem_cons.mp
              hb with z | z
        · rw [z]; exact elt
        · rw [List.mem_singleton.mp z]; exact ilt
      rw [upd_ne (Nat.ne_of_lt lt)]
      exact (hf b hb).1
  done := by
    intro X hP hw hK hc i pins s σ
          H E I hf st hg
    subst hP hw hK
    obtain ⟨⟨old, he⟩, hit,
          hne⟩ := st
    obtain ⟨xs, hq, hx⟩ := hg
    obtain ⟨its, rv, p, hz⟩
          := I.tuple hq
    have tp : s.heap.IsTuple a its.toArray := p
    have nai : a ≠ it := by
      intro z
      subst z
      obtain ⟨o1, g1, c1, _⟩ := hit
      obtain ⟨o2, g2, c2, _⟩ := tp
      rw [g1] at g2
      cases g2
      rw [c1] at c2
      exact absurd (Value.type.inj c2) (by decide)
    obtain ⟨f0, f1, f2, f3, f4, f5⟩ :=
          hf it (by simp)
    have ln := rv.length
    have none1 : its.toArray[i]? = none := by simp; omega
    have ty : s.TypeIs (.ref e) "enumerate" := ⟨_, he, rfl⟩
    unfold pyNext
    refine wpAny_bind
          (wpAny_attempt ?_)
    refine wpAny_callSpecial?_slot (name := Str.ofString "__next__") ty F.slot_enumerate_next ?_
    refine wpAny_call_entry F.slot_enumerate_next ty F.entry_enumerate_next ?_ (F.args_enumerate_next_1 _)
    show wpAny _ _ (field (.ref e)
          2 >>= _) _ _ _
    refine wpAny_bind ?_
    refine wpAny_field he rfl (x := .ref it) rfl ?_
    refine wpAny_bind ?_
    refine wpAny_nextOf_tuple_end (I.ok.hd hc) hit tp none1 ?_
    rintro h' x eb ⟨o, ho, hcl⟩
    refine wpAny_bind (wpAny_isInstance (T := "StopIteration") (b := true) ⟨o, ho, hcl⟩ isSubtype_stop ?_)
    refine wpAny_pure ⟨rfl, ?_⟩
    exact I.turned (t' := s.toks) (fun b o hb q => eb b o hb q) f0 f1 f3 f4 f5
  self := by
    rintro A i s Q E ⟨⟨_, he⟩, _⟩ h
    exact wpAny_pyIter_enum he h
def iEnumT (K : PySem.W.Frag) (ta : TA) : TI := fun σ H R => ta σ H fun vs H1 => ∃ a xs, vs = [.ref a] ∧ SqT K H1 a xs ∧ R (Itet K a) H1
theorem pi_enumT {X : Cx} {e : Expr} {ta : TA} {p pos tpos : Pos} {elts : List Expr} {kk : Nat} (hg : Gl X "enumerate") (hm : X.mg "enumerate" = none) (ha : PA X [e] ta)
    (hs : starEach [e] X.env = [(false, eval e X.env)] := by rfl) : PI X (.Tuple elts kk tpos) (.Call (.Name "enumerate" p) [e] [] pos) (iEnumT X.K ta) := by
  constructor
  intro pins s σ H R I h
  refine Call_ (ld_blt I hg hm boot_enumerate (PyProof.Rows.callWith_type1 (thn (ha.run pos pins s σ H _ I h) ?_) hs rfl))
  rintro us s1 ⟨vs, H1, I1, r1, a, xs, ex, hq, q⟩
  subst ex
  obtain ⟨u, rfl, ru⟩
        := vals1 r1
  obtain rfl : u = Value.ref
        a := ru
  obtain ⟨its, rv, tp, hz⟩ := I1.tuple hq
  refine call_enumerate_tuple (items := its.toArray) tp ?_
  intro h' he hit hk
  refine wpAny_pyIter_enum
        he ?_
  refine ⟨s1.heap.objs.size + 1, [s1.heap.objs.size + 1, s1.heap.objs.size], _, _, H1, rfl, I1.kept (t' := s1.toks) hk, turn_enumT a (s1.heap.objs.size + 1) s1.heap.objs.size, ⟨⟨.none, he⟩, hit, Nat.succ_ne_self _⟩, ?_, q⟩
  intro b hb
  have le : s1.heap.objs.size ≤ b := by
    rcases List.mem_cons.mp
          hb with z | z
    · rw [z]; exact Nat.le_succ _
    · rw [List.mem_singleton.mp z]; exact Nat.le_refl _
  exact I1.fpOk le (I1.hok.fresh le)
/-- for i, x in enumerate(t) -/
theorem for_enumT {K : PySem.W.Frag} {a : Addr} {xs : List V} {g : TG} {tb : TS} {D : Ends} {σ : L2.St} {H : Hp} (Pv : Nat → L2.St → Hp → Prop) (h0 : Pv 0 σ H) (hl : ∀ i σ H, i ≤ xs.length → Pv i σ H → SqT K H a xs)
    (hs : ∀ i x σ H T, xs[i]? = some x → Pv i σ H → H T = none → g (.ref T) σ (upd H T (.tup [.int (i : Nat), x])) fun σ2 H2 => tb { D with nx := Pv (i + 1), ct := Pv (i + 1), bk := D.nx } σ2 H2) (hd : ∀ σ H, Pv xs.length σ H → D.nx σ H) :
    ∃ W : Nat → Nat → L2.St → Hp → Prop, (∃ m, W 0 m σ H)
          ∧ ∀ i m σ H, W i m σ H →
      ((Itet K a).stop i H ∧ D.nx σ H) ∨ ((Itet K a).go i H ∧ ∃ N : L2.St → Hp → Prop, (∀ σ' H', N σ' H' → ∃ m', m' < m ∧ W (i + 1) m' σ' H') ∧
        ∀ x H', (Itet K a).yld i H x H' → g x σ H' fun σ2 H2 => tb { D with nx := N, ct := N, bk := D.nx } σ2 H2) := by
  refine ⟨fun i m σ H => m = xs.length - i ∧ i ≤ xs.length ∧ Pv i σ H,
        ⟨xs.length, rfl, Nat.zero_le _, h0⟩, ?_⟩
  rintro i m σ H ⟨rfl, hi, p⟩
  have sq := hl i σ H hi p
  by_cases lt : i < xs.length
  · refine .inr ⟨⟨xs, xs[i], sq, List.getElem?_eq_getElem lt⟩, Pv (i + 1), fun σ' H' p' => ⟨xs.length - (i + 1), by omega, rfl, lt, p'⟩, ?_⟩
    rintro y H' ⟨T, x, rfl, nT, rfl, look⟩
    exact hs i x σ H T (look _ sq) p nT
  · have e : i = xs.length
        := by omega
    subst e
    exact .inl ⟨⟨xs, sq, Nat.le_refl _⟩, hd σ H p⟩
end LW

set_option Elab.async false
set_option linter.all false
set_option maxRecDepth 100000
set_option maxHeartbeats 4000100
/-! C(e, *xs) of an own class; C.m(e), m a staticmethod; o.m(k = e) -/
namespace LW
open PySem PySem.Spec PyProof.Rows L2 StX
section
variable {X : Cx} {CX : CXT} {k j : Nat} {f C : Addr} {sp : Sp} {E : XK} {x : Str} {e1 e2 : Expr} {t1 t2 : TE} {p p2 pos : Pos}
theorem pe_makeS (M : Mk X.K C f) (F : FnR X.prog X.w X.K X.mg X.base CX k f sp) (hr : Room (k + 1) X.A) (hg : Gl X x) (hm : X.mg x = some (.ref C)) (hx : Passes CX X E)
    (h1 : PE X e1 t1) (h2 : PE X e2 t2) (hdb : (x == ("__debug__" : Str)) = false := by decide)
    (hst : starEach [e1, .Starred e2 p2] X.env = [(false, eval e1 X.env), (true, eval e2 X.env)] := by rfl) :
    PE X (.Call (.Name x p) [e1, .Starred e2 p2] [] pos) (tMakeR C sp E (tCons t1 (tStar X.K t2 tNil))) := by
  constructor
  intro pins s σ H Q I h
  refine wpAny_Call_Name_kw (ld_glob
        I hg hm ?_ hdb)
  rw [hst]
  refine PySem.W.ks_call (P := X.K.In) rfl (PySem.W.keeps_K M.kp) (Calls.evalArgs_plain (Calls.spliced_cons (thn (h1.run pins s σ H _ I h) ?_)))
  rintro v1 s1 ⟨y1, H1, I1, r1, q1⟩
  refine PySem.W.ks_spliced (thn (h2.run pins s1 σ H1 _ I1 q1) ?_)
  rintro v2 s2 ⟨y2, H2, I2, r2, t, xs, e, ht, q2⟩
  subst e
  obtain rfl : v2 = Value.ref t := r2
  refine star_any I2 ht ?_
  intro us s3 I3 rv
  refine Calls.spliced_nil ?_
  show X.K.In s3.heap ∧ wpAny (model X.prog X.w) X.A (call (.ref C) (v1 :: (us ++ [])) []) (EP X pins σ Q) X.xe s3
  rw [List.append_nil]
  have q3 : (fun (vs : List V) (H1 : Hp) => ∀ (x dx : Addr), H1 x = Option.none → H1 dx = Option.none → dx ≠ x → sp (V.ref x :: vs) (upd (upd H1 dx (HO.own x)) x (HO.ins C dx [])) (fun v H2 => v = V.non ∧ Q (V.ref x) H2) E) (y1 :: (xs ++ [])) H2 := q2
  rw [List.append_nil] at q3
  exact ⟨I3.kIn, run_makeR M F hr hx I3 (.cons r1 rv) q3⟩
end
/-- a class that may be made, by a positional promise of its __init__ -/
structure MakR (P : Program) (w : World) (K : PySem.W.Frag) (mg : Str → Option Value) (base : Heap) (k : Nat) (x : Str) (C : Addr) (sp : Sp) : Prop where
  ex : ∃ f : Addr, Mk K C f ∧ FnR P w K mg base CX0 k f sp ∧ mg x = some (.ref C)
section
variable {X : Cx} {k j : Nat} {C : Addr} {sp : Sp} {x : Str} {e e1 e2 : Expr} {es : List Expr} {t1 t2 : TE} {t : TA} {p p2 pos : Pos}
theorem pe_mkS (c : MakR X.prog X.w X.K X.mg X.base k x C sp) (hr : Room j X.A) (hk : k + 1 ≤ j) (hg : Gl X x)
    (h1 : PE X e1 t1) (h2 : PE X e2 t2) (hdb : (x == ("__debug__" : Str)) = false := by decide)
    (hst : starEach [e1, .Starred e2 p2] X.env = [(false, eval e1 X.env), (true, eval e2 X.env)] := by rfl) :
    PE X (.Call (.Name x p) [e1, .Starred e2 p2] [] pos) (tMakeR C sp E0 (tCons t1 (tStar X.K t2 tNil))) := by
  obtain ⟨f, M, F, m⟩ := c.ex
  exact pe_makeS M F (hr.mono hk) hg m pass0 h1 h2 hdb hst
theorem pe_mkP (c : MakR X.prog X.w X.K X.mg X.base k x C sp) (hr : Room j X.A) (hk : k + 1 ≤ j) (hg : Gl X x) (ha : PA X (e :: es) t) (hdb : (x == ("__debug__" : Str)) = false := by decide)
    (he : starEach (e :: es) X.env = (false, eval e X.env) :: starEach es X.env := by
          rfl) (hpl : (backTo pos (starEach es X.env)).any (·.1) = false := by rfl) :
    PE X (.Call (.Name x p) (e :: es) [] pos) (tMakeR C sp E0 t) := by
  obtain ⟨f, M, F, m⟩ := c.ex
  exact pe_makeR M F (hr.mono hk) hg m pass0 ha hdb he hpl
end
end LW
/-! ### a staticmethod of a class, called by the class -/
namespace LW
open PySem PySem.Spec PyProof.Rows L2 StX ClX
structure SMet (K : PySem.W.Frag) (C : Addr) (mc : Value) (m : Str) (p g : Addr) : Prop where
  rd : CRead K C mc
  at_ : PySem.W.findCls K (.ref C) mc m = some (.get (.builtin "staticmethod.__get__") (.ref p) .none (.ref C))
  rc : ∃ rest, PySem.W.recIn K p "staticmethod" = some (.ref g :: rest)
  kp : PySem.W.keepIn K (.ref g) = true
section
variable {X : Cx} {pins : List (Addr × Obj)} {σ : L2.St} {H : Hp} {s : Shared} {C p g : Addr} {mc : Value} {m : Str} {A : Around} {E : Value → Shared → Prop}
theorem getsm_ok {pl : Sem Bool} {Q : Value × List Value → Shared → Prop} (I : Inv X pins σ H s) (k : SMet X.K C mc m p g) (h : ∀ s', Inv X pins σ H s' → Q (.ref g, []) s') :
    wpAny (model X.prog X.w) A (getMethod (.ref C) m pl) Q E s := by
  refine PySem.W.method_cls I.kIn k.rd.ga ?_
  obtain ⟨rest, hp⟩ := k.rc
  refine PySem.W.cls_bind I.kIn k.rd.rd k.at_ ?_
  refine wpAny_call (PySem.W.sm_get (s := { s with toks := s.toks + 1 }) I.kIn hp (PySem.W.handed_on rfl ?_))
  exact h _ (I.tok _)
end
/-- .. that may be called so -/
structure Sta (P : Program) (w : World) (K : PySem.W.Frag) (mg : Str → Option Value) (base : Heap) (k : Nat) (x : Str) (m : Str) (sp : Sp) : Prop where
  ex : ∃ (C : Addr) (mc : Value) (p g : Addr) (fd : FuncData) (ps : List Str), mg x = some (.ref C) ∧ SMet K C mc m p g ∧ FnOk P w K mg base CX0 k g fd ps sp ∧ Binds K fd ps []
section
variable {X : Cx} {k j : Nat} {x m : Str} {sp : Sp} {e : Expr} {es : List Expr} {t : TA} {np apos pos : Pos}
theorem pe_sta {pl : Sem Bool} (c : Sta X.prog X.w X.K X.mg X.base k x m sp) (hr : Room j X.A) (hk : k ≤ j) (hg : Gl X x) (ha : PA X (e :: es) t) (hdb : (x == ("__debug__" : Str)) = false := by decide)
    (hst : starEach (e :: es) X.env = (false, eval e X.env) :: starEach es X.env := by rfl)
    (hpl : (backTo pos (starEach es X.env)).any (·.1) = false := by rfl)
    (ht : eval (.Call (.Attribute (.Name x np) m apos) (e
          :: es) [] pos) X.env = (do
        let v ← eval (.Name x np) X.env
        standAt apos.atName
        let (g, fst) ← holding [v] (getMethod v m pl)
        callWith pos g fst (backTo pos (starEach (e :: es) X.env)) (backToKw pos (keywordEach [] X.env))) := by rfl) :
    PE X (.Call (.Attribute (.Name x np) m apos) (e :: es) [] pos) (tCall sp [] E0 t) := by
  obtain ⟨C, mc, p, g, fd, ps, gx, sm, F, b⟩ := c.ex
  constructor
  intro pins s σ H Q I h
  refine PySem.W.methodCall_KW (pl := pl) (ld_glob I hg gx ?_ hdb) ht
  refine getsm_ok I sm ?_
  intro s1 I1
  refine PySem.W.callWith_K (h₀ := X.base) I.ok.mod.kin sm.kp (thn (ha.run pos pins s1 σ H _ I1 h) ?_) hst hpl
  rintro us s2 ⟨vs, H2, I2, rv, q⟩
  exact ⟨I2.kIn, run_fn F (hr.mono hk) b .nil pass0 I2 rv q⟩
end
/-! ### o.m(k = e) -/
section
variable {X : Cx} {k j : Nat} {C : Addr} {m : Str} {sp : Sp} {o : Expr} {kws : List Keyword} {ta : TE} {tk : TA} {apos pos : Pos}
/-- a method that may be called with one keyword -/
structure MetK (P : Program) (w : World) (K : PySem.W.Frag) (mg : Str → Option Value) (base : Heap) (k : Nat) (C : Addr) (m : Str) (ks : List Str) (sp : Sp) : Prop where
  ex : ∃ (f : Addr) (fd : FuncData) (ps : List Str), Cls K C ∧ Meth K C m f ∧ FnOk P w K mg base CX0 k f fd ps sp ∧
    ∀ (s : Shared) (u : Value) (ws : List Value), K.In s.heap → (u :: ws).length = ps.length → BindsTo s fd ⟨[u], ks.zip ws⟩ (ps.zip (u :: ws))
theorem pe_mtk {pl : Sem Bool} {ks : List Str} (c : MetK X.prog X.w X.K X.mg X.base k C m ks sp) (hr : Room j X.A) (hk : k ≤ j) (he : PE X o ta) (hkw : PK X kws tk)
    (hall : (backToKw pos (keywordEach kws X.env)).all (·.1.isSome) = true := by rfl)
    (hks : (backToKw pos (keywordEach kws X.env)).filterMap (·.1) = ks := by rfl)
    (hplain : ((backTo pos (starEach [] X.env)).any (·.1) || (backToKw pos (keywordEach kws X.env)).any (·.1.isNone)) = false := by rfl)
    (ht : eval (.Call (.Attribute o m apos) [] kws pos) X.env = (do
        let v ← eval o X.env
        standAt apos.atName
        let (g, fst) ← holding [v] (getMethod v m pl)
        callWith pos g fst (backTo pos (starEach [] X.env)) (backToKw pos (keywordEach kws X.env))) := by rfl) :
    PE X (.Call (.Attribute o m apos) [] kws pos) (tMeth C m sp [] E0 ta tk) := by
  obtain ⟨f, fd, ps, cl, me, F, b⟩ := c.ex
  constructor
  intro pins s σ H Q I h
  refine PySem.W.methodCall_KW (pl := pl) (thn (he.run pins s σ H _ I h) ?_) ht
  rintro u s1 ⟨x, H1, I1, rx, a, dx, fs, ex, ea, l, q⟩
  subst ex
  obtain rfl : u = Value.ref
        a := rx
  refine getmeth_ok I1 ea cl me l ?_
  refine PySem.W.callWith_KW0 (first := [.ref a]) (h₀ := X.base) I.ok.mod.kin me.kp hall (thn (hkw.run pos pins s1 σ H1 _ I1 q) ?_) hplain
  rintro ws s2 ⟨zs, H2, I2, rz, q2⟩
  refine ⟨I2.kIn, ?_⟩
  rw [hks]
  have q3 : sp (V.ref a :: (zs ++ [])) H2 Q E0 := q2
  rw [List.append_nil] at q3
  have rel : Vals (V.ref a :: zs) (Value.ref a :: ws) := .cons rfl rz
  have ln : (Value.ref a :: ws).length = ps.length := rel.length ▸ F.len _ _ _ _ q3
  refine wpAny_call (codeAny_mono (F.run X.A X.stack s2 H2 ⟨[.ref a], ks.zip ws⟩ (.ref a :: ws) (.ref a :: zs) Q E0 (hr.mono hk) I2.env0 (b s2 (.ref a) ws I2.kIn ln) rel q3) ?_)
  intro res s' fin
  match res, fin with
  | .error er, fin => exact pass0 pins σ H2 s2 er s' I2 fin
  | .ok (.ret u), fin => exact I2.after fin
  | .ok .next, fin => exact fin.elim
  | .ok .brk, fin => exact fin.elim
  | .ok .cont, fin => exact fin.elim
end
end LW

set_option Elab.async false
set_option linter.all false
set_option maxRecDepth 100000
set_option maxHeartbeats 4000100
/-! set(xs) of a list of ints -/
namespace LW
open L2 PySem.Spec PyProof.Rows PySem
section
variable {P : Program} {w : World} {A : Around} {E : Value
      → Shared → Prop} {s : Shared}
/-- the new, empty set -/
abbrev fresh0 (w : World) : Obj := { cls := .type "set", dict := none, data := .set #[] 0 (.fresh 0 0 (!w.params.followText "set-order")) }
set_option maxHeartbeats 6400000 in
theorem call_set_listI {l : Addr} {items : Array Value} (ns : List Int) {Q : Value → Shared → Prop} (calm : A.handled = none) (il : s.heap.IsList l items) (areInts : IntsAre items.toList ns) (room : ns.length + 1 < scanBound)
    (h : ∀ (h' : Heap) (tk c : Nat), SetR w h' s.heap.objs.size (fun j => decide (j ∈ ns)) c → c ≤ ns.length →
      (∀ b o, s.heap.get? b = some o → h'.get? b = some o) → Q (.ref s.heap.objs.size) { s with heap := h', toks := tk }) :
    wpAny (model P w) A (call (.type "set")
          [.ref l]) Q E s := by
  have many : items.size = ns.length := by
    have q := IntsAre.length areInts
    rwa [Array.length_toList] at q
  obtain ⟨mc, ml, mro⟩ := F.called_set.mro
  have made := F.called_set.made
  have subs := F.called_set.sub
  refine wpAny_call ?_
  refine codeAny_of_tree ?_
  show wpAny _ _ (callAny (.type
        "set") _) _ _ _
  refine wpAny_pure ⟨Code.quiet_builtin _ (by decide +kernel), ?_⟩
  refine codeAny_builtin F.entry_type_call ?_
  rw [Around.under_plain (weight_type_call_type
        "set" [.ref l] []) rfl]
  have not_type := F.called_set.notType
  have may_make := F.called_set.canCreate
  have type_call := F.typeCall_set_1 (.ref l)
  repeat any_goals (first | assumption | wp_step)
  refine codeAny_mono (code_set_led1 (.ref l) (E := E)
    (Q₁ := fun obj s₁ => obj = .ref s.heap.objs.size ∧ s₁ = { s with heap := s.heap.push (fresh0 w) }) ⟨rfl, rfl⟩) ?_
  intro r s₁ hr
  match r, hr with
  | .error e, hr => exact hr
  | .ok .next, hr => exact hr.elim
  | .ok .brk, hr => exact hr.elim
  | .ok .cont, hr => exact hr.elim
  | .ok (.ret obj), hr =>
    obtain ⟨rfl, rfl⟩ := hr
    have at0 : (s.heap.push (fresh0 w)).get? s.heap.objs.size = some (fresh0 w) := Heap.get?_push_size _ rfl
    have ty0 : Shared.TypeIs { s with heap := s.heap.push (fresh0 w) } (.ref s.heap.objs.size) "set" := ⟨_, at0, rfl⟩
    have init_at := F.called_set.init.lookup
    have init_to := F.called_set.init.bind (.ref s.heap.objs.size)
    repeat any_goals (first | assumption | wp_step)
    refine codeAny_mono (codeAny_call_builtin (R := wants (fun r s₂ => r = .none ∧ ∃ h' tk c, s₂ = { s with heap := h', toks := tk } ∧
        SetR w h' s.heap.objs.size (fun j => decide (j ∈ ns)) c ∧ c ≤ ns.length ∧ (∀ b o, s.heap.get? b = some o → h'.get? b = some o)) E)
        F.called_set.init.plain F.entry_set_init (check_set_init_1 ty0 ?_)) ?_
    · obtain ⟨⟨cl, di, da, sl⟩, hol, hcl, nl, hdl⟩ := il
      simp only at hcl hdl
      subst hcl
      subst hdl
      have at1 : (s.heap.push (fresh0 w)).get? l = some { cls := .type "list", dict := di, data := .seq items nl, slots := sl } := Heap.get?_push_of_some _ hol
      have no_set := F.sub_list_set
      have no_fset := F.sub_list_frozenset
      have no_dict : (Value.type "list" == Value.type "dict") = false := by decide
      have il1 : (s.heap.push (fresh0 w)).IsList l items := ⟨_, at1, rfl, nl, rfl⟩
      unfold Builtin.«set.__init__» noKeywords
            Builtin.Frozenset.updateFrom
      generalize hPI : pyIter = PI
      wp_walk
      subst hPI
      refine wpAny_pyIter_list il1 ?_
      refine wpAny_bind ?_
      refine wpAny_runValue ?_
      have llt : l < s.heap.objs.size := Heap.lt_size hol
      have calm3 : A.in1.in1.in1.handled = none := by simp [calm]
      have size1 : (s.heap.push (fresh0 w)).objs.size = s.heap.objs.size + 1 := Heap.size_push ..
      have lne : l ≠ (s.heap.push (fresh0 w)).objs.size := by
        rw [size1]
        exact Nat.ne_of_lt (Nat.lt_succ_of_lt llt)
      have out2 : s.heap.objs.size ∉ [(s.heap.push (fresh0 w)).objs.size, l] := by
        rw [size1]
        intro z
        rcases List.mem_cons.mp
              z with z | z
        · exact absurd z (Nat.ne_of_lt (Nat.lt_succ_self _))
        · exact absurd (List.mem_singleton.mp z) (Nat.ne_of_gt llt)
      have vals : ∀ (i : Nat) (v : Value), items[i]? = some v → ∃ k t, ns[i]? = some k ∧ v = .int k t := by
        intro i v hv
        have hi : i < ns.length := by
          rw [← many]
          exact (Array.getElem?_eq_some_iff.mp hv).1
        obtain ⟨t, e⟩ := PyProof.Rows.IntsAre.int_at areInts i v (by rw [Array.getElem?_toList]; exact hv)
        refine ⟨ns[i], t, List.getElem?_eq_getElem
              hi, ?_⟩
        rw [e, List.getD_eq_getElem?_getD, List.getElem?_eq_getElem hi]
        rfl
      have sub0 : ((s.heap.push (fresh0 w)).push { cls := .type "list_iterator", data := .fields #[.ref l, .int 0 0] }).get? s.heap.objs.size = some (fresh0 w) := Heap.get?_push_of_some _ at0
      refine set_update_ints ((Walks.list calm3 _ l lne items).toS) s.heap.objs.size out2 ns many room vals (items.size - 0) 0 _ (by omega) (Nat.zero_le _)
        ⟨⟨_, Heap.get?_push_size _ rfl, rfl, rfl⟩, (il1.push _)⟩ ⟨0, Nat.le_refl 0, setR_new_at sub0⟩ ?_
      intro s' c' mv lc R'
      obtain ⟨h', g2, d', tk',
            os'⟩ := s'
      have eg : g2 = s.gens := mv.gens
      have ed : d' = s.drawn := mv.drawn
      have eo : os' = s.os := mv.os
      subst eg
      subst ed
      subst eo
      show wpAny _ _ _ _ _ _
      refine wpAny_pure ?_
      show wpAny _ _ (ret
            Value.none) _ _ _
      rw [many] at lc
      refine wpAny_pure ⟨rfl, h', tk', c', rfl, R', lc, ?_⟩
      intro b o e
      have lt : b < s.heap.objs.size := Heap.lt_size e
      refine mv.heap b o ?_ (Heap.get?_push_of_some _ (Heap.get?_push_of_some _ e))
      rw [size1]
      intro z
      rcases List.mem_cons.mp
            z with z | z
      · exact absurd z (Nat.ne_of_lt lt)
      · exact absurd (List.mem_singleton.mp z) (Nat.ne_of_lt (Nat.lt_succ_of_lt lt))
    · intro r₂ s₂ hr₂
      match r₂, hr₂ with
      | .error e, hr₂ => exact hr₂
      | .ok .next, hr₂ => exact hr₂.elim
      | .ok .brk, hr₂ => exact hr₂.elim
      | .ok .cont, hr₂ => exact hr₂.elim
      | .ok (.ret r), hr₂ =>
        obtain ⟨rfl, h', tk, c', rfl, R', lc, keep⟩ := hr₂
        repeat any_goals (first | assumption | wp_step)
        exact h _ _ _ R' lc keep
end
section
variable {X : Cx}
/-- set(xs) -/
theorem cr_setL (hc : X.calm = true) : CallR X (.type "set") (fun xs H Q => ∃ (l : Addr) (ns : List Int), xs = [.ref l] ∧ SqL X.K H l (ns.map V.int) ∧ ns.length ≤ 60 ∧
    ∀ p n, H p = none → n ≤ ns.length → Q (.ref p) (upd H p (SetO X.w p (fun j => decide (j ∈ ns)) n))) := by
  intro pins s σ H xs
        us Q I r h
  obtain ⟨l, ns, rfl, hl, hn, q⟩ := h
  obtain ⟨its, rv, p, hz⟩ := I.list hl
  rw [Vals.ref1 r]
  refine call_set_listI ns (I.ok.hd hc) p.isList (by simpa using rv.ints) (Nat.lt_of_le_of_lt (Nat.add_le_add_right hn 1) (by decide)) ?_
  intro h' tk n R le hk
  have new : H s.heap.objs.size = none := I.hok.fresh (Nat.le_refl _)
  refine ⟨.ref _, upd H s.heap.objs.size (SetO X.w s.heap.objs.size (fun j => decide (j ∈ ns)) n), I.laid (t' := tk) hk (Nat.le_refl _) (setO_new R), rfl, q _ n new le⟩
end
end LW

set_option Elab.async false
set_option linter.all false
set_option maxRecDepth 100000
set_option maxHeartbeats 4000100
/-! x == y and x != y by a class's own __eq__, with either answer -/
namespace LW
open L2 PySem.Spec PyProof.Rows PySem
section
variable {M : Model} {prog : Program} {w : World} {A : Around} {E : Value → Shared → Prop} {s : Shared} {K :
      PySem.W.Frag} {x C : Addr} {ox : Obj} {od : Option Obj}
theorem ifBound_ne {args : List Value} {Q : Option Value → Shared → Prop} (X : K.In s.heap) (I : PySem.W.InstAt s.heap x ox C od) (hs : PySem.W.findIn K (.ref C) "__ne__" = some (some (.builtin "object.__ne__")))
    (h : wpAny M A (call (.builtin "object.__ne__") (.ref x :: args)) (fun v => Q (some v)) E s) : wpAny M A (callSpecialIfBound? (.ref x) "__ne__" args) Q E s := by
  simp only [callSpecialIfBound?,
        bindSpecialIfBound?]
  refine wpAny_holding (wpAny_bind (wpAny_bind (wpAny_bind (I.type.here
        ((PySem.W.looks_findIn X hs).here ?_)))))
  refine wpAny_bind (wpAny_askSetting
        (wpAny_ite ?_))
  have last : wpAny M A (call (.builtin "object.__ne__") ([.ref x] ++ args) >>= fun v => pure (some v)) Q E s := wpAny_bind (wpAny_mono h (fun v s' z => wpAny_pure z) fun _ _ z => z)
  split
  · exact wpAny_bind (wpAny_of_eq (F.cmp_object.ne.bind _) (wpAny_pure (by exact last)))
  · exact wpAny_tryCatch (wpAny_bind (wpAny_of_eq (F.cmp_object.ne.bind _) (wpAny_pure (by exact last))))
theorem entry_ne {y : Value} {Q : Fin → Shared → Prop} (hu : A.units < cLine)
    (h : wpAny M A (callSpecialIfBound? (.ref x) "__eq__" [y]) (fun r s' => ∃ b, r = some (.bool b) ∧ Q (.done (.ret (.bool (!b)))) s') E s) : wpAny M A (Builtin.«object.__ne__» ⟨[.ref x, y], []⟩) Q E s := by
  unfold Builtin.«object.__ne__»; show wpAny M A (cRoomFor "comparison" [.ref x, y] >>= _) Q E s
  refine wpAny_bind (wpAny_cRoomFor
        hu ?_)
  refine wpAny_bind (wpAny_mono h (fun r s' z => ?_) fun _ _ z => z)
  obtain ⟨b, rfl, q⟩ := z
  exact wpAny_bind (wpAny_truthy_bool (wpAny_pure q))
theorem call_ne {y : Value} {Q : Value → Shared → Prop} (X : K.In s.heap) (I : PySem.W.InstAt s.heap x ox C od) (hm : PySem.W.mroIn K C (.type "object") = some true) (hu : A.in1.units < cLine)
    (h : wpAny (model prog w) A.in1 (callSpecialIfBound? (.ref x) "__eq__" [y]) (fun r s' => ∃ b, r = some (.bool b) ∧ Q (.bool (!b)) s') E s) :
    wpAny (model prog w) A (call (.builtin "object.__ne__") [.ref x, y]) Q E s :=
  wpAny_call (codeAny_call_builtin F.cmp_object.ne.plain F.cmpEntry_ne (PySem.W.check_slot F.cmpKind_ne F.cmpSplit_ne (I.type.andThen (PySem.W.looks_mroIn X hm)) (F.cmpArgs_ne _ _) (entry_ne (A := A.in1) hu h)))
end
/-- what == of two instances of the class asks -/
structure OwnEqs (P : Program) (w : World) (K : PySem.W.Frag) (mg : Str → Option Value) (base : Heap) (n : Nat) (C : Addr) (sp : Sp) : Prop where
  ex : ∃ (f : Addr) (fd : FuncData) (ps : List Str), FnOk P w K mg base CX0 n f fd ps sp ∧ PySem.W.findIn K (.ref C) "__eq__" = some (some (.ref f)) ∧ PySem.W.isFn K (.ref f) = true ∧ Binds K fd ps []
  ne : PySem.W.findIn K (.ref C) "__ne__" = some (some (.builtin "object.__ne__"))
  mro : PySem.W.mroIn K C (.type "object") = some true
section
variable {X : Cx} {n k : Nat} {C : Addr} {sp : Sp} {f : Addr} {fd : FuncData} {ps : List Str}
theorem call_own {A : Around} {pins : List (Addr × Obj)} {s : Shared} {σ : L2.St} {H : Hp} {a b : Addr} {R : Bool → Hp → Prop} (F : FnOk X.prog X.w X.K X.mg X.base CX0 n f fd ps sp) (hb : Binds X.K fd ps []) (sb : Sub X n A) (I : Inv X pins σ H s)
    (want : sp [.ref a, .ref b] H (fun v H' => ∃ t, v = .bl t ∧ R t H') E0) :
    wpAny (model X.prog X.w) A (call (.ref f) [.ref a, .ref b]) (fun v s' => ∃ t, v = .bool t ∧ ∃ H', Inv X pins σ H' s' ∧ R t H') X.xe s := by
  have e0 : Env0 X.prog X.w X.K X.mg X.base
        A X.stack s H := by
    have e := I.env0
    exact ⟨by rw [sb.fr]; exact e.frames, e.mod, e.bs, e.bsz,
          e.funs, e.frf, e.hok, e.bare⟩
  have hl := F.len _ _ _ _ want
  have r2 : Vals [V.ref a, V.ref b] [Value.ref a, Value.ref b]
        := .cons rfl (.cons rfl .nil)
  refine wpAny_call (codeAny_mono (F.run A X.stack s H ⟨[.ref a, .ref b], []⟩ [.ref a, .ref b] [.ref a, .ref b] _ E0 sb.room e0 (by
    have := hb s [.ref a, .ref b] I.kIn
          (by simpa using hl)
    simpa using this) r2 want) fun r s' hq => ?_)
  cases r with
  | error e => exact pass0 pins σ H s e s' I hq
  | ok fl =>
    cases fl with
    | ret u =>
      obtain ⟨z, H', I', rz, t, ez, q⟩ := I.after hq
      subst ez
      cases rz
      exact ⟨t, rfl, H', I', q⟩
    | next => exact False.elim hq
    | brk => exact False.elim hq
    | cont => exact False.elim hq
def rOwn (C : Addr) (sp : Sp) (g : Bool → Bool) : R2 := fun x y H Q => ∃ a b dx dy fs gs, x = .ref a ∧ y = .ref b ∧ H a = some (.ins C dx fs) ∧ H b = some (.ins C dy gs) ∧ sp [.ref a, .ref b] H (fun v H' => ∃ t, v = .bl t ∧ Q (.bl (g t)) H') E0
theorem op_eqO (cl : OwnEqs X.prog X.w X.K X.mg X.base n C sp) (hr : Room k X.A) (hk : n ≤ k) : OpR X (compareOp .Eq) (rOwn C sp id) := by
  intro pins s σ H x y v u
        Q I rx ry hq
  obtain ⟨a, b, dx, dy, fs, gs, rfl, rfl, ha, hb', want⟩ := hq
  obtain ⟨f, fd, ps, F, hs, hf, hb⟩ := cl.ex
  obtain rfl : v = Value.ref
        a := rx
  obtain rfl : u = Value.ref
        b := ry
  have sb : Sub X n X.A := ⟨hr.mono hk, rfl⟩
  obtain ⟨mA, J, _⟩ :=
        ins_get I.hok ha
  obtain ⟨mB, J', _⟩ := ins_get
        I.hok hb'
  obtain ⟨od, J, _⟩ := J.look
  obtain ⟨od', J', _⟩
        := J'.look
  obtain ⟨m, hF⟩ := I.fr
  show wpAny (model X.prog X.w) X.A (richCompare .Eq (.ref a) (.ref b)) (EP X pins σ Q) X.xe s
  refine PySem.W.cmp_K (op := .Eq) (tb := .ref C) sb.room.units0 hF I.ok.mod.kin J
        J'.type (by simp [PySem.W.notFirst]) hs hf ?_
  refine wpAny_mono (call_own F hb sb I want) (fun v s' z => ?_) fun _ _ z => z
  obtain ⟨t, rfl, H', I', q⟩ := z
  exact ⟨.bl t, H', I', rfl, q⟩
theorem op_neO (cl : OwnEqs X.prog X.w X.K X.mg X.base n C sp) (hr : Room k X.A) (hk : n + 1 ≤ k) : OpR X (compareOp .NotEq) (rOwn C sp not) := by
  intro pins s σ H x y v u
        Q I rx ry hq
  obtain ⟨a, b, dx, dy, fs, gs, rfl, rfl, ha, hb', want⟩ := hq
  obtain ⟨f, fd, ps, F, hs, hf, hb⟩ := cl.ex
  obtain rfl : v = Value.ref
        a := rx
  obtain rfl : u = Value.ref
        b := ry
  have sb : Sub X (n + 1) X.A := ⟨hr.mono hk, rfl⟩
  obtain ⟨mA, J, _⟩ :=
        ins_get I.hok ha
  obtain ⟨mB, J', _⟩ := ins_get
        I.hok hb'
  obtain ⟨od, J, _⟩ := J.look
  obtain ⟨od', J', _⟩
        := J'.look
  have X0 := I.kIn
  have one : wpAny (model X.prog X.w) X.A (tryCompare (.ref a) (cmpInfo .NotEq).2.1 (.ref b)) (fun r s' => ∃ v, r = some v ∧ EP X pins σ Q v s') X.xe s := by
    show wpAny (model X.prog X.w) X.A (tryCompare (.ref a) "__ne__" (.ref b)) _ X.xe s
    unfold tryCompare
    refine wpAny_bind (ifBound_ne X0 J cl.ne (call_ne X0 J cl.mro sb.in1.room.units0 ?_))
    refine PySem.W.ifBound_K X0 J hs hf ?_
    refine wpAny_mono (call_own F hb sb.in1 I want) (fun v s' z => ?_) fun _ _ z => z
    obtain ⟨t, rfl, H', I', q⟩ := z
    exact ⟨t, rfl, wpAny_pure ⟨_, rfl, .bl (!t), H', I', rfl, q⟩⟩
  show wpAny (model X.prog X.w) X.A (richCompare .NotEq (.ref a) (.ref b)) (EP X pins σ Q) X.xe s
  unfold richCompare
  simp only [oneThing_ref]
  refine wpAny_holding (wpAny_bind (wpAny_cRoomFor sb.room.units0 ?_))
  refine wpAny_bind (J.type.here (wpAny_bind (J'.type.here ?_)))
  split
  · rename_i q
    simp at q
  · refine wpAny_bind
        (wpAny_pure ?_)
    simp only [Bool.false_eq_true,
          if_false]
    refine wpAny_bind (wpAny_mono one (fun r s' z
          => ?_) fun _ _ e => e)
    obtain ⟨v, rfl, hq⟩ := z
    exact wpAny_pure hq
end
end LW

set_option Elab.async false
set_option linter.all false
set_option maxRecDepth 100000
set_option maxHeartbeats 4000100
/-! str(o), o of an own class with its own __str__ -/
namespace LW
open L2 PySem.Spec PyProof.Rows PySem
structure OwnStr (P : Program) (w : World) (K : PySem.W.Frag) (mg : Str → Option Value) (base : Heap) (n : Nat) (C : Addr) (sp : Sp) : Prop where
  ex : ∃ (f : Addr) (fd : FuncData) (ps : List Str), FnOk P w K mg base CX0 n f fd ps sp ∧ PySem.W.findIn K (.ref C) "__str__" = some (some (.ref f)) ∧ PySem.W.isFn K (.ref f) = true ∧ Binds K fd ps []
section
variable {X : Cx} {n k : Nat} {C : Addr} {sp : Sp} {f : Addr} {fd : FuncData} {ps : List Str}
theorem call_own1 {A : Around} {pins : List (Addr × Obj)} {s : Shared} {σ : L2.St} {H : Hp} {a : Addr} {R : Str → Hp → Prop} (F : FnOk X.prog X.w X.K X.mg X.base CX0 n f fd ps sp) (hb : Binds X.K fd ps []) (sb : Sub X n A) (I : Inv X pins σ H s)
    (want : sp [.ref a] H (fun v H' => ∃ y, v = .str y ∧ R y H') E0) :
    wpAny (model X.prog X.w) A (call (.ref f) [.ref a]) (fun v s' => ∃ y u, v = .str y u ∧ ∃ H', Inv X pins σ H' s' ∧ R y H') X.xe s := by
  have e0 : Env0 X.prog X.w X.K X.mg X.base
        A X.stack s H := by
    have e := I.env0
    exact ⟨by rw [sb.fr]; exact e.frames, e.mod, e.bs, e.bsz,
          e.funs, e.frf, e.hok, e.bare⟩
  have hl := F.len _ _ _ _ want
  have r1 : Vals [V.ref a] [Value.ref a] := .cons rfl .nil
  refine wpAny_call (codeAny_mono (F.run A X.stack s H ⟨[.ref a], []⟩ [.ref a] [.ref a] _ E0 sb.room e0 (by
    have := hb s [.ref a] I.kIn (by simpa using hl)
    simpa using this) r1 want) fun r s' hq => ?_)
  match r, hq with
  | .error e, hq => exact pass0 pins σ H s e s' I hq
  | .ok (.ret u), hq =>
    obtain ⟨z, H', I', rz, y, ez, q⟩ := I.after hq
    subst ez
    obtain ⟨t, rfl⟩ := rz
    exact ⟨y, t, rfl, H', I', q⟩
  | .ok .next, hq => exact False.elim hq
  | .ok .brk, hq => exact False.elim hq
  | .ok .cont, hq => exact False.elim hq
def rStrO (C : Addr) (sp : Sp) : List V → Hp → VK → Prop := fun xs H Q => ∃ a dx fs, xs = [.ref a] ∧ H a = some (.ins C dx fs) ∧ sp [.ref a] H (fun v H' => ∃ y, v = .str y ∧ Q (.str y) H') E0
theorem call_strO (cl : OwnStr X.prog X.w X.K X.mg X.base n C sp) (hr : Room k X.A) (hk : n + 2 ≤ k) : CallR X (.type "str") (rStrO C sp) := by
  intro pins s σ H xs
        us Q I r h
  obtain ⟨a, dx, fs, rfl, ha, want⟩ := h
  obtain ⟨f, fd, ps, F, hs, hf, hb⟩ := cl.ex
  obtain ⟨u, rfl, ru⟩
        := vals1 r
  obtain rfl : u = Value.ref
        a := ru
  have sb : Sub X (n + 2) X.A := ⟨hr.mono hk, rfl⟩
  obtain ⟨mA, J, _⟩ :=
        ins_get I.hok ha
  obtain ⟨od, J, _⟩ := J.look
  refine PySem.W.kso_call sb.in1.in1.room.units0 I.kIn J hs hf ?_
  refine wpAny_mono (call_own1 F hb sb.in1.in1 I want) (fun v s' z => ?_) fun _ _ z => z
  obtain ⟨y, t, rfl, H', I', q⟩ := z
  exact ⟨.str y, H', I', ⟨t, rfl⟩, q⟩
end
end LW

set_option Elab.async false
set_option linter.all false
set_option maxRecDepth 100000
set_option maxHeartbeats 4000100
/-! raise C(e), C an own class over ValueError whose __init__ keeps its one argument -/
namespace LW
open L2 PySem.Spec PyProof.Rows PySem
/-- what __init__(self, f): self.f = f promises -/
def sp_exi (K : PySem.W.Frag) (C : Addr) (n : Str) : Sp := fun vs H Q _ => ∃ (a : Addr) (v : V), vs = [.ref a, v] ∧ H a = some (exo a C none) ∧
  ∀ dx, H dx = none → dx ≠ a → Q .non (upd (upd H dx (exd dx [(n, v)])) a (exo a C (some dx)))
structure Rais (P : Program) (w : World) (K : PySem.W.Frag) (mg : Str → Option Value) (base : Heap) (k : Nat) (x : Str) (C : Addr) (n : Str) : Prop where
  oex : OexC K C
  xf : XfC K C
  noN : PySem.W.findIn K (.ref C) n = some none
  hm : mg x = some (.ref C)
  ini : ∃ (g : Addr) (fd : FuncData) (ps : List Str), PySem.W.findIn K (.ref C) "__init__" = some (some (.ref g)) ∧ PySem.W.typeIn K (.ref g) = some (.type "function") ∧ FnOk P w K mg base CX0 k g fd ps (sp_exi K C n) ∧ Binds K fd ps []
theorem made_eq {H1 : Hp} {a dx C : Addr} {n : Str} {v : V} {o : HO} (na : H1 a = none) (ne : dx ≠ a) :
    upd (del (upd (upd (upd H1 a (exo a C none)) dx (exd dx [(n, v)])) a (exo a C (some dx))) a) dx o = upd H1 dx o := by
  funext b
  by_cases h1 : b = dx
  · subst h1; rw [upd_same, upd_same]
  · rw [upd_ne h1, upd_ne h1]
    by_cases h2 : b = a
    · subst h2; rw [del_same, na]
    · rw [del_ne h2, upd_ne h2, upd_ne h1, upd_ne h2]
section
variable {X : Cx} {k j : Nat} {C : Addr} {x n : Str} {e : Expr} {es : List Expr} {t : TA} {W : WX} {p pos pos2 : Pos}
/-- the reading of the class called with v -/
theorem rais_read {K : PySem.W.Frag} {v : V} {H1 : Hp} {Q : XK} (h : ∀ d, H1 d = none → Q (.ref C) (some d) (upd H1 d (.xd [(n, v)]))) :
    [v].length ≤ 1000 ∧ ∀ a, H1 a = none → sp_exi K C n (.ref a :: ([v] ++ [])) (upd H1 a (exo a C none))
      (fun v H2 => v = .non ∧ ∃ (d : Addr) (fs : List (Str × V)), H2 a = some (exo a C (some d)) ∧ H2 d = some (exd d fs) ∧ H1 d = none ∧ Q (.ref C) (some d) (upd (del H2 a) d (.xd fs))) (fun _ _ _ => False) := by
  refine ⟨by show 1 ≤ 1000; decide, fun a na => ⟨a, v, rfl, upd_same, fun dx nd ne => ⟨rfl, dx, [(n, v)], upd_same, ?_, ?_, ?_⟩⟩⟩
  · rw [upd_ne ne, upd_same]
  · rw [upd_ne ne] at nd; exact nd
  · rw [made_eq na ne]
    refine h dx ?_
    rw [upd_ne ne] at nd; exact nd
theorem ps_rais (R : Rais X.prog X.w X.K X.mg X.base k x C n) (hc : X.calm = true) (hr : Room j X.A) (hk : k + 1 ≤ j) (tk : Takes X W) (hg : Gl X x) (ha : PA X (e :: es) t)
    (hdb : (x == ("__debug__" : Str)) = false := by
          decide) (he : starEach (e :: es) X.env = (false, eval e X.env) :: starEach es X.env := by rfl)
    (hpl : (backTo pos (starEach es X.env)).any (·.1) = false := by rfl) :
    PS X (.Raise (some (.Call (.Name x p) (e :: es) [] pos)) none pos2) (fun _ σ H => tMkO C (sp_exi X.K C n) [] t σ H fun cls d H' => W cls d σ H') := by
  obtain ⟨g, fd, ps, i1, i2, F, b⟩ := R.ini
  exact ps_raise hc tk (pmk_oex R.oex i1 i2 F (hr.mono hk) b .nil pass0 hg R.hm ha hdb he hpl)
end
/-! ### a method that may raise -/
structure MetX (P : Program) (w : World) (K : PySem.W.Frag) (mg : Str → Option Value) (base : Heap) (k : Nat) (C : Addr) (m : Str) (sp : Sp) : Prop where
  ex : ∃ (f : Addr) (fd : FuncData) (ps : List Str), Cls K C ∧ Meth K C m f ∧ FnOk P w K mg base (L2.CX P w) k f fd ps sp ∧ Binds K fd ps []
section
variable {X : Cx} {k j : Nat} {C : Addr} {m : Str} {sp : Sp} {pos apos : Pos} {e o : Expr} {es : List Expr} {ta : TE} {t : TA} {E : XK}
theorem pe_mtX {pl : Sem Bool} (cl : MetX X.prog X.w X.K X.mg X.base k C m sp) (hr : Room j X.A) (hk : k ≤ j) (hx : Passes (L2.CX X.prog X.w) X E) (he : PE X o ta) (ha : PA X (e :: es) t)
    (hst : starEach (e :: es) X.env = (false, eval e X.env) :: starEach es X.env := by rfl)
    (hpl : (backTo pos (starEach es X.env)).any (·.1) = false := by rfl)
    (ht : eval (.Call (.Attribute o m apos) (e ::
          es) [] pos) X.env = (do
        let v ← eval o X.env
        standAt apos.atName
        let (g, fst) ← holding [v] (getMethod v m pl)
        callWith pos g fst (backTo pos (starEach (e :: es) X.env)) (backToKw pos (keywordEach [] X.env))) := by rfl) :
    PE X (.Call (.Attribute o m apos) (e :: es) [] pos) (tMeth C m sp [] E ta t) := by
  obtain ⟨f, fd, ps, c, me, F, b⟩ := cl.ex
  exact pe_meth (pl := pl) he c me F (hr.mono hk) b .nil hx ha hst hpl ht
end
/-! ### isinstance(e, c), e the caught error, an own one with a dict -/
structure IsEx (K : PySem.W.Frag) (D : Addr) : Prop where
  cl : (PySem.W.clsIn K D).isSome = true
  ga : PySem.W.findIn K (.ref D) "__getattribute__" = some (some (.builtin "BaseException.__getattribute__"))
  gg : PySem.W.findIn K (.ref D) "__getattr__" = some none
  sb : PySem.W.subIn K (.ref D) (.type "BaseException") = some true
  ca : PySem.W.findIn K (.ref D) "__class__" = some (some (.builtin "object.__class__"))
  sp : PySem.W.specialIn K (.builtin "object.__class__") "__get__" = some (some (.builtin "getset_descriptor.__get__"))
  tk : PySem.W.takesIn K (.builtin "object.__class__") = some true
  mr : PySem.W.mroIn K D (.type "object") = some true
def rIsO (K : PySem.W.Frag) (D a : Addr) (cls : Value) (d : Option Addr) : List V → Hp → VK → Prop := fun xs H Q => ∃ (c : V) (cv : Value) (b : Bool) (dd : Addr) (fs : List (Str × V)), xs = [.ref a, c] ∧ cls = .ref D ∧ d = some dd ∧ (∀ u, RelV c u → u = cv) ∧ H dd = some (.xd fs) ∧ PySem.W.kitOne K (.ref D) cv = some b ∧ Q (.bl b) H
theorem call_isO {X : Cx} {a D : Addr} {cls : Value} {d : Option Addr} {oe : Obj} {pn : List (Addr × Obj)} (C : IsEx X.K D) (hz : Zc cls d oe) (hf : ∃ vs, oe.data = .fields vs) : CallR (X.suite a ((a, oe) :: pn)) (.builtin "isinstance") (rIsO X.K D a cls d) := by
  intro pins s σ H xs
        us Q I r h
  obtain ⟨c, cv, b, dd, fs, rfl, rfl, rfl, hcv, ed, e, q⟩ := h
  obtain ⟨u1, us', rfl, r1, r2⟩ : ∃ u1 us', us = u1 :: us' ∧ RelV (V.ref a) u1 ∧ Vals [c] us' := by
    cases r with
    | cons r1 r2 => exact ⟨_, _, rfl, r1, r2⟩
  obtain ⟨u2, rfl, rb⟩ := vals1 r2
  have e1 : u1 = Value.ref a := r1
  subst e1
  have e2 := hcv _ rb
  subst e2
  obtain ⟨at_, _⟩ := I.pin (a, oe) (List.mem_append_left _ List.mem_cons_self)
  obtain ⟨vs, hv⟩ := hf
  have hx : ObjOk X.prog X.w H s.heap dd (.xd fs) := I.hok dd _ ed
  obtain ⟨mA, hns, hr⟩ := hx
  obtain ⟨od, ho, hl⟩ :=
        lookIn_ns hns
  have J : PySem.W.InstAt s.heap a oe D (some od) := by
    refine ⟨at_, hz.1, ?_, ?_⟩
    · unfold PySem.W.notCls
      rw [hv] <;> rfl
    · rw [hz.2]; exact ho
  refine PySem.W.kia_one (PySem.W.kitx_exc C.cl C.ga C.gg C.sb C.ca C.sp C.tk C.mr) I.kIn J e (fun z => nomatch z) ?_
  intro tk
  exact ⟨.bl b, H, I.kept (t' := tk) fun _ _ z => z, rfl, q⟩
/-- what is taken may tell of the number of slots -/
theorem Takes.len {X : Cx} {W W' : WX} (t : Takes X W) (h : ∀ c d σ H, σ.length = X.N.length → W' c d σ H → W c d σ H) : Takes X W' := by
  rintro u s' ⟨a, B, sI, pins, σ, H, cls, d, e, I, nb, up, sky, na, os, ag, w⟩
  exact t u s' ⟨a, B, sI, pins, σ, H, cls, d, e, I, nb, up, sky, na, os, ag, h _ _ _ _ I.len w⟩
end LW

set_option Elab.async false
set_option linter.all false
set_option maxRecDepth 100000
set_option maxHeartbeats 4000100
/-! the law's own call, where a def of the text makes a lambda: tables of code objects are tracked -/
namespace LW
open L2 PySem.Spec PyProof.Rows PySem
theorem law_startT {P : Program} {w : World} {K : PySem.W.Frag} {mg mb : Str → Option Value} {k : Nat} {fa a : Addr} {cs : List (Addr × Addr)} {fd : FuncData} {x : Str} {sp : Sp} {s₁ : Shared} {vs : List Value} {ns : List Int}
    (KX : K.In s₁.heap) (gl : s₁.heap.Ns mainGlobals mg) (bl : s₁.heap.Ns builtinsNs mb) (bb : ∀ x : Str, x ≠ "__name__" → mb x = bootBuiltins x) (lim : s₁.heap.NoLimit) (gn : s₁.gens = #[])
    (tabs : ∀ z ∈ cs, s₁.heap.get? z.2 = some { cls := .none, data := .fields #[] }) (notK : ∀ z ∈ cs, K.lookup z.2 = none) (heads : ∀ z ∈ cs, PySem.W.CodeHd s₁.heap z.1 z.2)
    (mods : ∃ (bm : Addr) (ob : Obj), mg "__builtins__" = some (.ref bm) ∧ bm ≠ builtinsNs ∧ s₁.heap.get? bm = some ob ∧ ob.cls = .type "module" ∧ ob.dict = some builtinsNs ∧ ob.data = .plain)
    (sa : s₁.heap.get? a = some { cls := .type "list", data := .seq vs.toArray }) (si : IntsAre vs ns) (sl : ns.length ≤ sizeLine) (room : Room k callerA)
    (F : ∀ base : Heap, K.In base → base.Ns mainGlobals mg → (∀ z ∈ cs, LamX.TabB base mg z.1 z.2) → FnG P w K mg base CX0 k fa fd [x] sp) (bind : ∀ (s : Shared) (u : Value), BindsTo s fd ⟨[u], []⟩ [(x, u)])
    (want : ∀ H : Hp, (∀ z ∈ cs, H z.2 = some (.tbl #[])) → SqL K H a (ns.map V.int) → sp [.ref a] H (fun v _ => v = .bl true) fun _ _ _ => False) :
    codeAny (model P w) callerA (.call (.ref fa) ⟨[.ref a], []⟩) (fun r s' => r = .ok (.ret (.bool true)) ∧ OldK
          s₁.heap s'.heap ∧ s'.os = s₁.os ∧ AllBare s'.gens) s₁ := by
  have rels := vals_ints si
  have many := si.length
  let ob : Obj := { cls := .type "list", data := .seq vs.toArray }
  obtain ⟨T, eT⟩ : ∃ T : List Addr, T = cs.map (·.2) := ⟨_, rfl⟩
  have inT : ∀ z ∈ cs, z.2 ∈ T := fun z hz => by rw [eT]; exact List.mem_map.mpr ⟨z, hz, rfl⟩
  have ofT : ∀ b ∈ T, ∃ z ∈ cs, z.2 = b := fun b hb => by rw [eT] at hb; exact List.mem_map.mp hb
  have emptyT : ∀ b ∈ T, s₁.heap.get? b = some { cls := .none, data := .fields #[] } := fun b hb => by
    obtain ⟨z, hz, rfl⟩ := ofT b hb
    exact tabs z hz
  have aT : a ∉ T := fun hb => by
    have q := emptyT a hb
    rw [sa] at q
    have q' := congrArg Obj.data (Option.some.inj q)
    cases q'
  -- tracked: the tables, and the script or not
  have main : ∀ H : Hp, (∀ b, b ∈ T → H b = some (.tbl #[])) → (∀ b, b ∉ T → H b = none ∨ (b = a ∧ K.lookup a = none ∧ H b = some (.frz ob (.lst (ns.map V.int))))) → SqL K H a (ns.map V.int) →
      codeAny (model P w) callerA (.call (.ref fa) ⟨[.ref a], []⟩) (fun r s' => r = .ok (.ret (.bool true)) ∧ OldK
            s₁.heap s'.heap ∧ s'.os = s₁.os ∧ AllBare s'.gens) s₁ := by
    intro H onT off sq
    have ok : HOk P w H s₁.heap := by
      intro b u hb
      by_cases t : b ∈ T
      · rw [onT b t] at hb
        cases hb
        exact emptyT b t
      · rcases off b t with z | ⟨rfl, _, z⟩
        · rw [z] at hb; cases hb
        · rw [z] at hb
          cases hb
          exact ⟨sa, by rw [List.length_map]; exact sl, vs, _, rels, sa⟩
    have free : ∀ {b : Addr} {o : Obj}, s₁.heap.get? b = some o → (∀ its n, o.data ≠ .seq its n) → o.data ≠ .fields #[] → H b = none := by
      intro b o e nd nf
      by_cases t : b ∈ T
      · rw [emptyT b t] at e
        cases e
        exact (nf rfl).elim
      · rcases off b t with z | ⟨rfl, _, _⟩
        · exact z
        · rw [sa] at e
          cases e
          exact (nd _ _ rfl).elim
    have lift : ∀ {b : Addr} {m : Str → Option Value}, s₁.heap.Ns b m → (hidT s₁.heap H).Ns b m := by
      rintro b m ⟨o, es, ep, e, d, r⟩
      exact ⟨o, es, ep, hidT_get e (free e (fun its n z => by rw [d] at z; cases z) (fun z => by rw [d] at z; cases z)), d, r⟩
    have KB : K.In (hidT s₁.heap H) := by
      intro b o e
      refine hidT_get (KX b o e) ?_
      by_cases t : b ∈ T
      · obtain ⟨z, hz, rfl⟩ := ofT b t
        rw [notK z hz] at e
        cases e
      · rcases off b t with z | ⟨rfl, z, _⟩
        · exact z
        · rw [z] at e; cases e
    have TB : ∀ z ∈ cs, LamX.TabB (hidT s₁.heap H) mg z.1 z.2 := by
      intro z hz
      have tz := tabs z hz
      constructor
      · obtain ⟨o, us, file, tf, flags, tg, inF, text, tt, e1, r1, r2, r3, rest⟩ := heads z hz
        refine ⟨o, us, file, tf, flags, tg, inF, text, tt, hidT_get e1 (free e1 ?_ ?_), r1, r2, r3, rest⟩
        · intro its n y
          rw [r2] at y; cases y
        · intro y
          rw [r2] at y
          cases y
          simp at r3
      · obtain ⟨bm, bo, b1, b2, b3, b4, b5, b6⟩ := mods
        refine ⟨bm, bo, b1, b2, ?_, ?_, hidT_get b3 (free b3 ?_ ?_), b4, b5, b6⟩
        · intro q
          obtain ⟨o, es, ep, e, d, _⟩ := gl
          rw [q, e] at b3
          cases b3
          rw [d] at b6; cases b6
        · intro q
          rw [q, tz] at b3
          cases b3
          cases b6
        · intro its n y
          rw [b6] at y; cases y
        · intro y
          rw [b6] at y; cases y
      · intro q
        obtain ⟨o, es, ep, e, d, _⟩ := gl
        rw [q, tz] at e
        cases e
        cases d
    have env0 : Env0 P w K mg (hidT s₁.heap H) callerA [] s₁ H := by
      refine ⟨rfl, ⟨KB, lift gl, ⟨mb, lift bl, bb⟩, ?_⟩, fun b o e => of_hidT e, Nat.le_of_eq (hidT_size _ _), trivial, ?_, ok, .of_eq gn⟩
      · obtain ⟨mc, l1, l2⟩ := lim
        exact ⟨mc, lift l1, l2⟩
      · intro b hb
        simp [frs] at hb
    refine codeAny_mono ((F _ KB (lift gl) TB).runs callerA [] s₁ H ⟨[.ref a], []⟩ [.ref a] [.ref a] _ _ room rfl env0 (bind s₁ (.ref a)) (.cons rfl .nil) (want H (fun z hz => onT _ (inT z hz)) sq)) ?_
    intro r s' fin
    match r, fin with
    | .error er, fin => exact fin.elim
    | .ok .next, fin => exact fin.elim
    | .ok .brk, fin => exact fin.elim
    | .ok .cont, fin => exact fin.elim
    | .ok (.ret u), ⟨v, H', os, bare, un, ok', rv, q⟩ =>
      have q' : v = .bl true := q
      subst q'
      have ru : u = Value.bool true := rv
      subst ru
      have kept : ∀ b o, b ∉ T → s₁.heap.get? b = some o → s'.heap.get? b = some o := by
        intro b o t e
        rcases off b t with z | ⟨rfl, _, z⟩
        · exact un.keep b o e z (by simp [frs]) (by simp)
        · obtain ⟨e2, _⟩ := ok' b _ (un.frzs b ob _ z)
          rw [sa] at e
          cases e
          exact e2
      have grew : ∀ b ∈ T, ∃ more : Array Value, s'.heap.get? b = some { cls := .none, data := .fields more } := by
        intro b t
        obtain ⟨more, z⟩ := un.tbls b #[] (onT b t)
        exact ⟨_, ok' b _ z⟩
      refine ⟨rfl, ⟨?_, ?_⟩, os, bare⟩
      · intro b o e
        by_cases t : b ∈ T
        · obtain ⟨z, hz, rfl⟩ := ofT b t
          obtain ⟨more, g⟩ := grew _ t
          rw [tabs z hz] at e
          cases e
          refine .inr (.inl ⟨((heads z hz).tab (tabs z hz)).isCodeTable, rfl, #[], more, rfl, ?_⟩)
          rw [Array.empty_append]
          exact g
        · exact .inl (kept b o t e)
      · intro b o e
        by_cases t : b ∈ T
        · obtain ⟨more, g⟩ := grew b t
          exact ⟨_, g⟩
        · exact ⟨o, kept b o t e⟩
  by_cases own : K.lookup a = none
  · refine main (fun b => if b ∈ T then some (.tbl #[]) else if b = a then some (.frz ob (.lst (ns.map V.int))) else none) (fun b t => if_pos t) (fun b t => ?_) (.inl (.inr ⟨ob, (if_neg aT).trans (if_pos rfl)⟩))
    by_cases z : b = a
    · exact .inr ⟨z, own, (if_neg t).trans (if_pos z)⟩
    · exact .inl ((if_neg t).trans (if_neg z))
  · cases q : K.lookup a with
    | none => exact (own q).elim
    | some o =>
      have e := KX a o q
      rw [sa] at e
      cases e
      exact main (fun b => if b ∈ T then some (.tbl #[]) else none) (fun b t => if_pos t) (fun b t => .inl (if_neg t)) (.inr ⟨_, vs.toArray, _, q, rfl, rfl, rfl, by rw [List.size_toArray, many]; exact sl, by simpa using rels⟩)
theorem law_walkT {l : PySem.W.OpenLaw} {n k : Nat} {q : Program} {loose : List Str} {XP : (Str → Option Value) → Heap → Prop} {YP : World → Heap → Prop} {d : DefRec} {K : Params → PySem.W.Frag} {x : Str}
    (most : l.most = some n) (short : n ≤ sizeLine) (noDefaults : d.params.defaults = []) (room : Room k callerA)
    (written : ∀ (w : World) (h : Heap), YP w h → (K w.params).In h) {y : Str} (own : ((recsOf q).any fun e => e.name == y) = true)
    (F : ∀ (w : World) (mg : Str → Option Value) (fa : Addr) (h : Heap), (K w.params).In h → h.Ns mainGlobals mg → XP mg h → mg d.name = some (.ref fa) → YP w h →
      (∃ a o fd c P, mg y = some (.ref a) ∧ h.get? a = some o ∧ o.data = .func fd ∧ fd.code = .ref c ∧ h.IsCode c P #[] ∧ h.TableAt c P #[]) →
      ∃ (fd : FuncData) (cs : List (Addr × Addr)) (sp : Sp), (∀ z ∈ cs, h.get? z.2 = some { cls := .none, data := .fields #[] }) ∧ (∀ z ∈ cs, (K w.params).lookup z.2 = none) ∧ (∀ z ∈ cs, PySem.W.CodeHd h z.1 z.2) ∧
        (∀ (s : Shared) (u : Value), BindsTo s fd ⟨[u], []⟩ [(x, u)]) ∧
        (∀ (H : Hp) (a : Addr) (ns : List Int), ns.length ≤ n → (∀ z ∈ cs, H z.2 = some (.tbl #[])) → SqL (K w.params) H a (ns.map V.int) → sp [.ref a] H (fun v _ => v = .bl true) fun _ _ _ => False) ∧
        ∀ base : Heap, (K w.params).In base → base.Ns mainGlobals mg → (∀ z ∈ cs, LamX.TabB base mg z.1 z.2) → FnG l.prog w (K w.params) mg base CX0 k fa fd [x] sp) :
    PySem.W.WalkO q loose XP YP l.row.toRowW d [] (fun f vs
          => PySem.call f vs) := by
  refine Att.attach_call most noDefaults ?_
  intro w s₀ s₁ mg mb fa o pm cd doc a vs ns G Y ho hd hcd hmg hobj hints hlen hg
  have KX := written w _ Y
  have tab : ∃ a o fd c P, mg y = some (.ref a) ∧ s₁.heap.get? a = some o ∧ o.data = .func fd ∧ fd.code = .ref c ∧ s₁.heap.IsCode c P #[] ∧ s₁.heap.TableAt c P #[] := by
    obtain ⟨e, he, hy⟩ := List.any_eq_true.mp own
    have ey : e.name = y := beq_iff_eq.mp hy
    rw [← ey]
    exact G.T.tab e he
  obtain ⟨fd, cs, sp, t1, t2, t3, hb, hsp, hF⟩ := F w mg fa _ KX G.T.g G.X hmg Y tab
  exact law_startT KX G.T.g G.T.b G.T.builtins G.T.nolimit hg t1 t2 t3 G.T.bmain hobj hints (Nat.le_trans hlen short) room hF hb (fun H hH hS => hsp H a ns hlen hH hS)
end LW

set_option Elab.async false
set_option linter.all false
set_option maxRecDepth 100000
set_option maxHeartbeats 4000100
/-! several clauses 'except C as n', one after the other -/
namespace LW
open L2 PySem.Spec PyProof.Rows PySem
/-- what the clauses wish of an exception: class, the name's slot, the suite -/
def wAss (K : PySem.W.Frag) (Wout : WX) (D : Ends) : List (Value × Nat × (Addr → Value → Option Addr → TS)) → WX
  | [] => Wout
  | q :: r => wAs K q.1 q.2.1 q.2.2 (wAss K Wout D r) D
inductive AsOk (X : Cx) : List ExceptHandler → List (Value × Nat × (Addr → Value → Option Addr → TS)) → Prop
  | nil : AsOk X [] []
  | cons {x n : Str} {c : Value} {i : Nat} {ts : Addr → Value → Option Addr → TS} {st : Stmt} {sts : List Stmt} {np hp : Pos} {hds : List ExceptHandler} {l : List (Value × Nat × (Addr → Value → Option Addr → TS))}
      (hi : X.N[i]? = some n) (hln : X.env.kindOf n = some .local) (hc : Names X x c)
      (su : ∀ (a : Addr) (oe : Obj) (cls : Value) (d : Option Addr) (pn : List (Addr × Obj)), Zc cls d oe → (∃ vs, oe.data = .fields vs) → PSs (X.suite a ((a, oe) :: pn)) (st :: sts) (ts a cls d))
      (r : AsOk X hds l) : AsOk X (.ExceptHandler (some (.Name x np)) (some n) (st :: sts) hp :: hds) ((c, i, ts) :: l)
section
variable {X : Cx} {body : List Stmt} {h₀ : ExceptHandler} {hds : List ExceptHandler} {l : List (Value × Nat × (Addr → Value → Option Addr → TS))} {pos : Pos} {tb : WX → TS} {Wout : WX}
theorem ps_try_ass (hs : X.stack = X.env :: X.outer) (hf : X.env.frame = some X.env.locals) (hN : X.N.Nodup) (tk : Takes X Wout)
    (hb : ∀ (W : WX) (pn : List (Addr × Obj)) (xe : Value → Shared → Prop), Takes (X.tr pn xe) W → PassesOwn (model
          X.prog X.w) X.A X.env xe → PSs (X.tr pn xe) body (tb W))
    (hh : AsOk X (h₀ :: hds) l) : PS X (.Try body (h₀ :: hds) [] [] pos) (fun D σ H => tb (wAss X.K Wout D l) D σ H) := by
  refine ⟨fun pins s σ H
        D I h => ?_⟩
  have ok := I.ok
  have hfr : X.A.frames = some (X.env :: X.outer)
        := by rw [ok.frames, hs]
  -- what the exception meets: the frame is noted, the flight ends, the clauses are asked
  let meets : Value → Shared → Prop := fun e s₁ => wpAny (model X.prog X.w) X.A (noteFrame e X.env) (fun _ s₂ => wpAny (model X.prog X.w) X.A (setFlight e none) (fun _ s₃ => wpAny (model X.prog X.w) X.A (handleBy e X.env (h₀ :: hds)) (SP X pins D) X.xe s₃) X.xe s₂) X.xe s₁
  have caught : Takes (X.tr (X.pn ++ pins) meets) (wAss X.K Wout D l) := by
    rintro u s' ⟨a, B, sI, pins', σ', H', cls, d, rfl, J', nb, up, sky, na, os, ag, w⟩
    have J : Inv X pins σ' H' sI
          := J'.ofTry ok
    have sky' : Sky B (X.env :: X.outer) a (Zc cls d) X.env.locals
          s'.heap := by rw [← hs]; exact sky
    refine Sky.land Zc.steady hfr hf sky'
          fun h3 fl3 up3 => ?_
    have J3 : Inv X pins σ' H' { s' with heap := h3 } := J.landed
          nb fl3.1 (up.trans up3) os ag
    obtain ⟨oe3, vs3, he3, hz3, hd3⟩
          := fl3.there
    have nfr : a ∉ frs (X.env :: X.outer) := fun hm => by
      obtain ⟨_, o', e', hnf⟩ := fl3.2.2.1.mem hm
      cases he3.symm.trans e'
      exact hnf _ hd3
    have nL : a ≠ X.env.locals := fun z => nfr (List.mem_filterMap.mpr ⟨_, .head _, by rw [hf, z]⟩)
    have nF : a ∉ X.fs :=
          fun hm => by
      obtain ⟨e, he, q⟩ :=
            List.mem_filterMap.mp hm
      exact nfr (List.mem_filterMap.mpr ⟨e, .tail _ he, q⟩)
    have S3 := J3.suite he3
          hd3 na nL nF
    have LT : PySem.W.Looks (model X.prog X.w) h3 (typeOf (.ref a)) cls := fun A Q E s k q =>
          wpAny_typeOf_ref (k _ _ he3) (by rw [hz3.1]; exact q)
    -- the clauses in turn
    have turn : ∀ {hs' : List ExceptHandler} {l' : List (Value × Nat × (Addr → Value → Option Addr → TS))}, AsOk X hs' l' → wAss X.K Wout D l' cls d σ' H' → wpAny (model X.prog X.w) X.A (handleBy (.ref a) X.env hs') (SP X pins D) X.xe { s' with heap := h3 } := by
      intro hs' l' okk
      induction okk with
      | nil =>
        intro w
        refine wpAny_handleBy_nil ?_
        obtain ⟨_, _, _, _, _, T, _, _, he, _, hd, h1, _⟩ := id fl3
        unfold PySem.passOn
        refine wpAny_bind (wpAny_field
              he hd h1 ?_)
        rw [if_neg (show ¬ ((Value.ref T == Value.none) = true) by simp)]
        have up_ : wpAny (model X.prog X.w) X.A (setFlight (.ref a) X.env.frame) (fun _ s4 => wpAny (model X.prog X.w) X.A (throw (.ref a) : Sem Flow) (SP X pins D) X.xe s4) X.xe { s' with heap := h3 } := by
          rw [hf]
          exact HandSPX.setFlight_upZ fl3 fun h4 hh4 up4 => wpAny_throw (tk _ _ ⟨a, B, sI, pins, σ', H', cls, d, rfl, J, nb, (up.trans up3).trans up4, .inr (.inr (by rw [hs]; exact hh4)), na, os, ag, w⟩)
        first
          | exact wpAny_bind (wpAny_pure (wpAny_bind up_))
          | exact wpAny_bind up_
      | @cons x n c i ts st sts np hp hds2 l2 hi hln hc su r ih =>
        rintro ⟨b, hb1, hyes, hno⟩
        have LM := PySem.W.exm_one (M := model X.prog X.w) J3.kIn LT hb1
        have name_ : ∀ {Q : Value → Shared → Prop} {E : Value → Shared → Prop}, Q c { s' with heap := h3 } → wpAny (model X.prog X.w) (X.A.mark (some (.ref a))) (eval (.Name x np) X.env) Q E { s' with heap := h3 } := fun {Q E} q => by
          rcases hc with ⟨hg, hdbg, hm | ⟨hm, hv, hnn⟩⟩
          · exact ld_glob (X := X.suite a ((a, oe3) :: (X.pn
                ++ pins))) S3 hg hm q hdbg
          · exact ld_blt (X := X.suite a ((a, oe3) :: (X.pn ++
                pins))) S3 hg hm hv q hnn hdbg
        refine wpAny_handleBy_cons (codeAny_handlers_test (name_ (LM.here ?_))) (by intro q; cases q)
        cases b with
        | false => exact ih (hno rfl)
        | true =>
          refine codeAny_handlers_suite_as (HandSPX.lands_againZ fl3 fun h4 fl4 up4 => ?_)
          have J4 : Inv X pins σ' H' { s' with heap := h4 } := J.landed nb fl4.1
                ((up.trans up3).trans up4) os ag
          obtain ⟨oe4, vs4, he4, hz4, hd4⟩
                := fl4.there
          have S4 := J4.suite he4
                hd4 na nL nF
          refine store_ok (X := X.suite a ((a, oe4) :: (X.pn ++ pins))) (v := .ref a) S4 hN hi (.inl hln) rfl (fun s5 S5 => ?_) (.inr hln)
          refine wpAny_mono ((su a oe4 cls d (X.pn ++ pins) hz4 ⟨_, hd4⟩).run [] s5 _ H' _ S5 (hyes rfl a na)) (fun f s6 hsp => ?_) (fun _ _ z => False.elim z)
          have gone : ∀ {σ6 : L2.St} {H6 : Hp} {Q : Shared → Prop}, Inv (X.suite a ((a, oe4) :: (X.pn ++ pins))) [] σ6 H6 s6 → (∀ s7, Inv X pins (σ6.set i none) H6 s7 → Q s7) →
              wpAny (model X.prog X.w) X.A (do bindName X.env n .none; unbindBehindTheSuite X.env n hp) (fun _ s7 => Q s7) X.xe s6 := fun {σ6 H6 Q} S6 hq => gone_ok (S6.unsuite ok) hN hi hln hq
          cases f with
          | ret u => obtain ⟨v6, σ6, H6, S6, r6, q6⟩ := hsp; exact gone S6 fun s7 J7 => ⟨_, _, _, J7, r6, q6⟩
          | next => obtain ⟨σ6, H6, S6, q6⟩ := hsp; exact gone S6 fun s7 J7 => ⟨_, _, J7, q6⟩
          | brk => obtain ⟨σ6, H6, S6, q6⟩ := hsp; exact gone S6 fun s7 J7 => ⟨_, _, J7, q6⟩
          | cont => obtain ⟨σ6, H6, S6, q6⟩ := hsp; exact gone S6 fun s7 J7 => ⟨_, _, J7, q6⟩
    exact turn hh w
  refine wpAny_Try_except (wpAny_mono ((hb _ (X.pn ++ pins) meets caught PassesOwn.looking).run [] s σ H D (I.toTry _) h) (fun f s1 hsp => ?_) fun e s1 he => he)
  cases f with
  | ret u => obtain ⟨v, σ', H', J', r, q⟩ := hsp; exact ⟨v, σ', H', J'.ofTry ok, r, q⟩
  | next => obtain ⟨σ', H', J', q⟩ := hsp; exact wpAny_execs_nil ⟨σ', H', J'.ofTry ok, q⟩
  | brk => obtain ⟨σ', H', J', q⟩ := hsp; exact ⟨σ', H', J'.ofTry ok, q⟩
  | cont => obtain ⟨σ', H', J', q⟩ := hsp; exact ⟨σ', H', J'.ofTry ok, q⟩
end
end LW

set_option Elab.async false
set_option linter.all false
set_option maxRecDepth 100000
set_option maxHeartbeats 4000100
/-! repr of a list [text, data, bool], the data an empty dict or without dicts -/
namespace LW
open L2 PySem.Spec PyProof.Rows PySem
section
variable {X : Cx}
/-- {}: its address is not that of sys.modules -/
def tDNewS : TE := fun _ H Q => ∀ p, H p = none → p ≠ sysModules → Q (.ref p) (upd H p (.dK []))
theorem pe_dnewS {pos : Pos} : PE X (.Dict [] [] pos) tDNewS := by
  refine ⟨fun pins s σ H
        Q I h => ?_⟩
  have big : s.heap.objs.size ≠ sysModules := by
    obtain ⟨o, es, ep, e, _⟩ := I.ok.mod.glob
    have b1 : (3 : Nat) < s.heap.objs.size := Heap.lt_size (I.bk _ _ e)
    have b2 : s.heap.objs.size ≠ (1 : Nat) := by omega
    exact b2
  refine wpAny_Dict_empty ⟨.ref s.heap.objs.size, _, ?_, rfl, h _ (I.hok.fresh (Nat.le_refl _)) big⟩
  exact I.laid (t' := s.toks) (a := s.heap.objs.size) (o := .dK []) (fun _ _ q => Heap.get?_push_of_some _ q) (Nat.le_refl _) (dk_empty s.heap I.big)
theorem call_reprS (quiet : X.A.guards = some []) {k : Nat} (hr : Room k X.A) : CallR X (.builtin "repr") (fun xs H Q => ∃ (a : Addr) (vs : List V) (x : Str) (d : PyData) (b : Bool), xs = [.ref a] ∧ SqL X.K H a vs ∧ DAll X.K H vs [.str x, d, .bool b] ∧ (d.hasDict = false ∨ d = .dict []) ∧
    (PyData.list [.str x, d, .bool b]).showable = true ∧ (PyData.list [.str x, d, .bool b]).depth ≤ 60 ∧ (PyData.list [.str x, d, .bool b]).shown.length ≤ sizeLine ∧ Q (.str (PyData.list [.str x, d, .bool b]).shown) H) := by
  intro pins s σ H xs
        us Q I r h
  obtain ⟨a, vs, x, d, b, rfl, sq, all, hd, hs, hdep, hsz, q⟩ := h
  rcases hd with hd | rfl
  · refine call_reprD quiet hr pins s σ H _ us Q I r ⟨a, _, rfl, D.lst' sq all, hs, ?_, hdep, hsz, q⟩
    simp [PyData.hasDict, PyData.hasDictAll, hd]
  · obtain ⟨u, rfl, ru⟩ := vals1 r
    obtain rfl : u = Value.ref
          a := ru
    have un := hr.un
    obtain ⟨v0, w0, rfl, d0, all⟩ : ∃ v0 w0, vs = v0 :: w0 ∧ D X.K H v0 (.str x) ∧ DAll X.K H w0 [.dict [], .bool b] := by
      cases vs with
      | nil => exact absurd all.len (by simp)
      | cons v0 w0 => exact ⟨v0, w0, rfl, all.all 0 _ _ rfl rfl, by have := all.len; simpa using this, fun i v e h1 h2 => all.all (i + 1) v e h1 h2⟩
    obtain ⟨v1, w1, rfl, d1, all⟩ : ∃ v1 w1, w0 = v1 :: w1 ∧ D X.K H v1 (.dict []) ∧ DAll X.K H w1 [.bool b] := by
      cases w0 with
      | nil => exact absurd all.len (by simp)
      | cons v0 w0 => exact ⟨v0, w0, rfl, all.all 0 _ _ rfl rfl, by have := all.len; simpa using this, fun i v e h1 h2 => all.all (i + 1) v e h1 h2⟩
    obtain ⟨v2, rfl, d2⟩ : ∃ v2, w1 = [v2] ∧ D X.K H v2 (.bool b) := by
      cases w1 with
      | nil => exact absurd all.len (by simp)
      | cons v0 w0 =>
        have ln := all.len
        cases w0 with
        | nil => exact ⟨v0, rfl, all.all 0 _ _ rfl rfl⟩
        | cons y z => simp at ln
    obtain ⟨its, rv, ⟨o, n, ho, hc, _, hdat⟩, _⟩ := I.list sq
    cases d0
    cases d1 with
    | @dct p hp ne =>
    cases d2
    obtain ⟨t, u1, u2, rfl, e1, e2⟩ : ∃ t u1 u2, its = [.str x t, u1, u2] ∧ u1 = .ref p ∧ u2 = .bool b := by
      cases rv with
      | cons r0 rv =>
        cases rv with
        | cons r1 rv =>
          cases rv with
          | cons r2 rv =>
            cases rv
            obtain ⟨t, rfl⟩ := r0
            exact ⟨t, _, _, rfl, r1, r2⟩
    subst e1
    subst e2
    obtain ⟨as1, rd, off⟩ : ∃ as, Reads s.heap (.ref p) (.dict []) as ∧ sysModules ∉ as := by
      obtain ⟨_, _, ws, kv, o', es, ep, ho', ⟨hc', _, _⟩, hd', _, prs, _⟩ := I.hok _ _ hp
      cases kv
      have e0 : es.toList = [] := by
        cases q : es.toList with
        | nil => rfl
        | cons x r => rw [q] at prs; cases prs
      refine ⟨p :: [] ++ [], Reads.dict ho' hc' hd' (as := []) (bs := []) ?_ ?_, ?_⟩
      · rw [e0]; exact .nil
      · rw [e0]; exact .nil
      · simpa using fun z => ne z.symm
    have RA : ReadsAll s.heap [.str x t, .ref p, .bool b] [.str x, .dict [], .bool b] ([] ++ (as1 ++ ([] ++ []))) := .cons (.str x t) (.cons rd (.cons (.bool b) .nil))
    have hz : (listText (PyData.shownAll [.str x, .dict [], .bool b])).length ≤ sizeLine := hsz
    obtain ⟨bs, hb, hk⟩ := ReprAllK.of_readsAll (prog := X.prog) (w := X.w) RA (by simpa [PyData.showable] using hs) (fun _ hm => off (by simpa using hm)) (fun y hy => Nat.le_trans (listText_mem_le hy) hz)
    have hna : a ∉ bs := by
      refine not_mem_of_deeper (Reads.list ho hc hdat RA) ?_ hb
      simp only [PyData.depth]
      omega
    have dd : (PyData.list [.str x, .dict [], .bool b]).depth = PyData.depthAll [.str x, .dict [], .bool b] + 1 := by simp only [PyData.depth]
    refine call_repr_slot (by omega) ⟨o, ho, hc⟩ F.slot_list_repr.toG ?_
    refine call_list_reprK (x := .str x t) (l := [.ref p, .bool b]) ho hc hdat hna rfl (fun i y e => hk.item i y (by simpa using e)) quiet (fun b _ => Clear.nil b) ?_ (fun _ _ e => e) ?_ hz
    · show X.A.units + 1 + _ < cLine
      omega
    · intro h' u tk keep
      exact ⟨_, _, rfl, V.str _, H, I.kept keep, ⟨_, rfl⟩, q⟩
end
end LW

set_option Elab.async false
set_option linter.all false
set_option maxRecDepth 100000
set_option maxHeartbeats 4000100
/-! repr of data in which empty dicts may stand at any place -/
namespace LW
open L2 PySem.Spec PyProof.Rows PySem
/-- v is the data d, and nothing of it stands where sys.modules does -/
inductive DO (K : PySem.W.Frag) (H : Hp) : V → PyData → Prop
  | non : DO K H .non .none
  | bl (b : Bool) : DO K H (.bl b) (.bool b)
  | int (i : Int) : DO K H (.int i) (.int i)
  | str (x : Str) : DO K H (.str x) (.str x)
  | lst {a : Addr} {xs : List V} {ds : List PyData} (h : SqL K H a xs) (ne : a ≠ sysModules) (len : xs.length = ds.length) (all : ∀ (i : Nat) (v : V) (d : PyData), xs[i]? = some v → ds[i]? = some d → DO K H v d) : DO K H (.ref a) (.list ds)
  | tup {a : Addr} {xs : List V} {ds : List PyData} (h : SqT K H a xs) (ne : a ≠ sysModules) (len : xs.length = ds.length) (all : ∀ (i : Nat) (v : V) (d : PyData), xs[i]? = some v → ds[i]? = some d → DO K H v d) : DO K H (.ref a) (.tuple ds)
  | dct {a : Addr} (h : H a = some (.dK [])) (ne : a ≠ sysModules) : DO K H (.ref a) (.dict [])
section
variable {K : PySem.W.Frag} {H H' : Hp} {v : V} {d : PyData}
theorem DO.dat (h : DO K H v d) : D K H v d := by
  induction h with
  | non => exact .non
  | bl b => exact .bl b
  | int i => exact .int i
  | str x => exact .str x
  | lst h _ len _ ih => exact .lst h len ih
  | tup h _ len _ ih => exact .tup h len ih
  | dct h ne => exact .dct h ne
theorem DO.same (s : Same H H') (h : DO K H v d) : DO K H' v d := by
  induction h with
  | non => exact .non
  | bl b => exact .bl b
  | int i => exact .int i
  | str x => exact .str x
  | lst h ne len _ ih => exact .lst (s.seq h) ne len ih
  | tup h ne len _ ih => exact .tup (seqT_same s h) ne len ih
  | dct h ne => exact .dct (s _ _ h) ne
structure DOs (K : PySem.W.Frag) (H : Hp) (xs : List V) (ds : List PyData) : Prop where
  len : xs.length = ds.length
  all : ∀ (i : Nat) (v : V) (d : PyData), xs[i]? = some v → ds[i]? = some d → DO K H v d
theorem DOs.nil : DOs K H [] [] := ⟨rfl, fun i v d h => by simp at h⟩
theorem DOs.cons {xs : List V} {ds : List PyData} (h : DO K H v d) (t : DOs K H xs ds) : DOs K H (v :: xs) (d :: ds) := by
  refine ⟨by simp [t.len], fun i u e h1 h2 => ?_⟩
  cases i with
  | zero => cases h1; cases h2; exact h
  | succ i => exact t.all i u e h1 h2
theorem DOs.snoc {xs : List V} {ds : List PyData} (t : DOs K H xs ds) (h : DO K H v d) : DOs K H (xs ++ [v]) (ds ++ [d]) := by
  refine ⟨by simp [t.len], fun i u e h1 h2 => ?_⟩
  rcases Nat.lt_or_ge i xs.length with y | y
  · rw [List.getElem?_append_left y] at h1
    rw [List.getElem?_append_left (by rw [← t.len]; exact y)] at h2
    exact t.all i u e h1 h2
  · rw [List.getElem?_append_right y] at h1
    rw [List.getElem?_append_right (by rw [← t.len]; exact y)] at h2
    rw [t.len] at h1
    cases hj : i - ds.length with
    | zero =>
      rw [hj] at h1 h2
      cases h1
      cases h2
      exact h
    | succ j => rw [hj] at h1; simp at h1
theorem DOs.same {xs : List V} {ds : List PyData} (s : Same H H') (t : DOs K H xs ds) : DOs K H' xs ds := ⟨t.len, fun i v d h1 h2 => (t.all i v d h1 h2).same s⟩
theorem DO.list {a : Addr} {xs : List V} {ds : List PyData} (h : SqL K H a xs) (ne : a ≠ sysModules) (t : DOs K H xs ds) : DO K H (.ref a) (.list ds) := .lst h ne t.len t.all
end
section
variable {X : Cx} {pins : List (Addr × Obj)} {σ :
      L2.St} {H : Hp} {s : Shared}
theorem DO.reads (I : Inv X pins σ H s) {v : V} {d : PyData} (h : DO X.K H v d) : ∀ u, RelV v u → ∃ as, Reads s.heap u d as ∧ sysModules ∉ as := by
  have app : ∀ a b : List Addr, sysModules ∉ a → sysModules ∉ b → sysModules ∉ a ++ b := fun a b h1 h2 z => (List.mem_append.mp z).elim h1 h2
  have own : ∀ (a : Addr) (as : List Addr), a ≠ sysModules → sysModules ∉ as → sysModules ∉ a :: as := fun a as h1 h2 z => (List.mem_cons.mp z).elim (fun e => h1 e.symm) h2
  induction h with
  | non => intro u r; cases r; exact ⟨_, .none, by simp⟩
  | bl b => intro u r; cases r; exact ⟨_, .bool b, by simp⟩
  | int i => intro u r; obtain ⟨t, rfl⟩ := r; exact ⟨_, .int i t, by simp⟩
  | str x => intro u r; obtain ⟨t, rfl⟩ := r; exact ⟨_, .str x t, by simp⟩
  | lst h ne len all ih =>
    intro u r
    cases r
    obtain ⟨its, rv, ⟨o, n, ho, hc, _, hd⟩, _⟩ := I.list h
    obtain ⟨as, hr, off⟩ := readsAll_of (P := fun as => sysModules ∉ as) (h := s.heap) (us := its) (by simp) app (by rw [← rv.length, len]) fun i u d h1 h2 => by
      obtain ⟨x, e, rx⟩ := vals_get' rv h1
      exact ih i x d e h2 u rx
    exact ⟨_, .list ho hc hd hr, own _ _ ne off⟩
  | tup h ne len all ih =>
    intro u r
    cases r
    obtain ⟨its, rv, ⟨o, ho, hc, n, hd⟩, _⟩ := I.tuple h
    obtain ⟨as, hr, off⟩ := readsAll_of (P := fun as => sysModules ∉ as) (h := s.heap) (us := its) (by simp) app (by rw [← rv.length, len]) fun i u d h1 h2 => by
      obtain ⟨x, e, rx⟩ := vals_get' rv h1
      exact ih i x d e h2 u rx
    exact ⟨_, .tuple ho hc hd hr, off⟩
  | dct h ne =>
    intro u r
    cases r
    obtain ⟨_, _, vs, kv, o, es, ep, ho, ⟨hc, _, _⟩, hd, _, prs, _⟩ := I.hok _ _ h
    cases kv
    have e0 : es.toList = [] := by
      cases q : es.toList with
      | nil => rfl
      | cons x r => rw [q] at prs; cases prs
    refine ⟨_, Reads.dict ho hc hd (as := []) (bs := []) ?_ ?_, own _ _ ne (by simp)⟩
    · rw [e0]; exact .nil
    · rw [e0]; exact .nil
theorem call_reprA (quiet : X.A.guards = some []) {k : Nat} (hr : Room k X.A) : CallR X (.builtin "repr") (fun xs H Q => ∃ (a : Addr) (d : PyData), xs = [.ref a] ∧ (DO X.K H (.ref a) d ∨ (D X.K H (.ref a) d ∧ d.hasDict = false)) ∧ d.showable = true ∧ d.depth ≤ 60 ∧ d.shown.length ≤ sizeLine ∧ Q (.str d.shown) H) := by
  intro pins s σ H xs
        us Q I r h
  obtain ⟨a, d, rfl, hd, hs, hdep, hsz, q⟩ := h
  rcases hd with hd | ⟨hd, hn⟩
  · obtain ⟨u, rfl, ru⟩ := vals1 r
    obtain rfl : u = Value.ref
          a := ru
    obtain ⟨as, rr, off⟩ := hd.reads I _ rfl
    have un := hr.un
    refine repr_of_reads' rr hs (fun _ => off) quiet (by omega) (fun _ _ e => e) (fun h' u tk hk => ?_) hsz
    exact ⟨.str d.shown, H, I.kept hk, ⟨_, rfl⟩, q⟩
  · exact call_reprD quiet hr pins s σ H _ us Q I r ⟨a, d, rfl, hd, hs, hn, hdep, hsz, q⟩
end
/-! displays and + : the new address is not that of sys.modules -/
section
variable {X : Cx} {es : List Expr} {t : TA} {pos : Pos} {pins : List (Addr × Obj)} {σ : L2.St} {H : Hp} {s : Shared}
theorem big_of (I : Inv X pins σ H s) : s.heap.objs.size ≠ sysModules := by
  obtain ⟨o, es, ep, e, _⟩ := I.ok.mod.glob
  have b1 : (3 : Nat) < s.heap.objs.size := Heap.lt_size (I.bk _ _ e)
  have b2 : s.heap.objs.size ≠ (1 : Nat) := by omega
  exact b2
def tLstS (t : TA) : TE := fun σ H Q => t σ H fun xs H1 => xs.length ≤ sizeLine ∧ ∀ p, H1 p = none → p ≠ sysModules → Q (.ref p) (upd H1 p (.lst xs))
theorem pe_lstS (h : PA X es t) : PE X (.List es pos) (tLstS t) := by
  refine ⟨fun pins s σ H Q
        I hq => ?_⟩
  refine wpAny_List_spliced (thn (h.run pos pins s σ H _ I hq) fun us s1 ⟨xs, H1, I1, r,
        z, q⟩ => ⟨by rw [← r.length]; exact z, ?_⟩)
  have hf : H1 s1.heap.objs.size = none :=
        I1.hok.fresh (Nat.le_refl _)
  refine ⟨.ref s1.heap.objs.size, upd H1 s1.heap.objs.size (.lst xs), I1.laid (t' := s1.toks) (fun b u e => Heap.get?_push_of_some _ e) (Nat.le_refl _) ?_, rfl, q _ hf (big_of I1)⟩
  exact ⟨z, us, 0, r, Heap.get?_push_size
        _ rfl⟩
def tTupS (t : TA) : TE := fun σ H Q => t σ H fun xs H1 => xs.length ≤ sizeLine ∧ ∀ p, H1 p = none → p ≠ sysModules → Q (.ref p) (upd H1 p (.tup xs))
theorem pe_tupS {x1} (h : PA X es t) : PE X (.Tuple es x1 pos) (tTupS t) := by
  refine ⟨fun pins s σ H Q
        I hq => ?_⟩
  refine wpAny_Tuple_spliced (thn (h.run pos pins s σ H _ I hq) fun us s1 ⟨xs, H1, I1, r,
        z, q⟩ => ⟨by rw [← r.length]; exact z, ?_⟩)
  have hf : H1 s1.heap.objs.size = none :=
        I1.hok.fresh (Nat.le_refl _)
  refine ⟨.ref s1.heap.objs.size, upd H1 s1.heap.objs.size (.tup xs), I1.laid (t' := s1.toks) (fun b u e => Heap.get?_push_of_some _ e) (Nat.le_refl _) ?_, rfl, q _ hf (big_of I1)⟩
  exact ⟨z, us, r, ⟨_, Heap.get?_push_size
        _ rfl, rfl, _, rfl⟩⟩
def rCatS : R2 := fun x y H Q => ∃ l b xs zs, x = .ref l ∧ y = .ref b ∧ H l = some (.lst xs) ∧ H b = some (.lst zs) ∧ xs.length + zs.length ≤ sizeLine ∧ ∀ p, H p = none → p ≠ sysModules → Q (.ref p) (upd H p (.lst (xs ++ zs)))
theorem op_catS : OpR X (binaryOp .Add) rCatS := by
  intro pins s σ H x y v u
        Q I rx ry h
  obtain ⟨l, b, xs, zs, rfl, rfl, hH,
        hB, hz, q⟩ := h
  cases rx
  cases ry
  obtain ⟨z, its, n, r, hl, e⟩
        := I.lstM hH
  obtain ⟨z2, its2, n2, r2, hl2,
        e2⟩ := I.lstM hB
  have sz2 : its.toArray.size + its2.toArray.size ≤ sizeLine := by
    rw [List.size_toArray,
          List.size_toArray]
    omega
  refine PySem.P.add_list e e2 ?_ sz2
  have ea : its.toArray ++ its2.toArray = (its ++
        its2).toArray := by simp
  rw [ea]
  exact ⟨.ref _, _, I.lnew (t' := s.toks) (r.append r2) (by rw [List.length_append]; omega), rfl, q _ I.fresh (big_of I)⟩
end
end LW

set_option Elab.async false
set_option linter.all false
set_option maxRecDepth 100000
set_option maxHeartbeats 4000100
/-! x not in [y, z] where one may be an empty dict -/
namespace PySem.SeqAt
open AutoSeq1
      (wpAny_loadPart')
open MeetsSeq MeetsSeq2
      MeetsSeq3 SeqRoads2
theorem LW_int_no (b : Int) (u : Tok) (l : Addr) (o : Obj) (ho : o.cls = .type "dict") (es : Array DictEntry) (ep : Nat) (hd : o.data = .dict es ep) :
    Meets (Builtin.«int.__eq__» ⟨[.int b u, .ref l], []⟩) (fun _ R s => s.heap.get? l = some o ∧ R (.ok (.ret .notImplemented)) s) :=
  .of_wp fun prog w A
        R s h => by
    obtain ⟨hp, g, d, tk,
          os⟩ := s
    obtain ⟨hl, h⟩ := h
    obtain ⟨c, dd, data, sl⟩ := o
    simp only at ho hd
    subst ho hd
    have f1 := F.sub_dict_int
    wp_walk using wpAny_loadPart' hl, wpAny_load hl
    exact ⟨_, rfl, h⟩
theorem LW_tup_no (l b : Addr) (items : Array Value) (n : Nat) (dd : Option Addr) (sl : Array (Option Value)) (o : Obj) (ho : o.cls = .type "dict") (es : Array DictEntry) (ep : Nat) (hd : o.data = .dict es ep) :
    Meets (Builtin.«tuple.__eq__» ⟨[.ref l, .ref b], []⟩) (fun _ R s => s.heap.get? l = some { cls := .type "tuple", dict := dd, data := .seq items n, slots := sl } ∧ s.heap.get? b = some o ∧ R (.ok (.ret .notImplemented)) s) :=
  .of_wp fun prog w A
        R s h => by
    obtain ⟨hp, g, d, tk,
          os⟩ := s
    obtain ⟨hl, hb, h⟩ := h
    obtain ⟨c, dd, data, sl⟩ := o
    simp only at ho hd
    subst ho hd
    have f1 := F.sub_dict_tuple
    wp_walk using wpAny_loadPart' hl,
          wpAny_loadPart' hb
    exact ⟨_, rfl, h⟩
theorem LW_dict_no {prog : Program} {w : World} {A : Around} {s : Shared} {l : Addr} {v : Value} {T : String} {S : String} {E Q : Value → Shared → Prop} (sl : Slot "dict" S "dict.__eq__") (hl : s.TypeIs (.ref l) "dict") (hv : s.TypeIs v T) (sub : isSubtype (.type T) (.type "dict") = pure false) (h : Q .notImplemented s) :
    wpAny (model prog w) A (call (.builtin "dict.__eq__") [.ref l, v]) Q E s := by
  refine wpAny_call_entry sl hl PySem.F.entry_dict_eq ?_ (PySem.F.args_dict_eq_2 _ _)
  show wpAny _ _ (Builtin.Dict.dictSlotArgs "__eq__" ⟨[.ref l, v], []⟩ >>= _) _ _ s
  refine wpAny_bind ?_
  delta Builtin.Dict.dictSlotArgs
  refine wpAny_bind (wpAny_notOrdered_dict hl ?_)
  show wpAny _ _ (pure (Value.ref l, v)) _ _ s
  refine wpAny_pure ?_
  refine wpAny_bind (wpAny_isInstance (T := T) hv sub ?_)
  simp only [Bool.not_false,
        if_true]
  refine wpAny_bind
        (wpAny_rule ?_)
  refine wpAny_bind
        (wpAny_pure ?_)
  exact wpAny_pure ⟨_, rfl, h⟩
section
variable {A : Around} {s : Shared} {l b : Addr} {o : Obj} {es : Array DictEntry} {ep : Nat} {items : Array Value}
theorem LW_dict_int (ho : s.heap.get? l = some o) (hc : o.cls = .type "dict") (hd : o.data = .dict es ep) (i : Int) (u : Tok) (hu : A.units < cLine) : EqAt A s (.ref l) (.int i u) false := fun prog w E Q h => by
  unfold eqBool
  refine wpAny_holding ?_
  refine wpAny_ite_split (fun hab => absurd (eq_of_beq
        hab) nofun) (fun _ => ?_)
  refine wpAny_bind ?_
  exact rc_eq_decline_or (k := false) ⟨_, ho, hc⟩ (typeIs_int s i u) (by decide) F.sub_int_dict F.slot_dict_eq F.slot_int_eq_refl
    (fun _ hq => LW_dict_no F.slot_dict_eq ⟨_, ho, hc⟩ (typeIs_int s i u) F.sub_int_dict hq)
    (fun _ hq => call_meets F.slot_int_eq_refl (typeIs_int s i u) F.entry_int_eq (F.args_int_eq_2 _ _) (LW_int_no i u l o hc es ep hd) ⟨ho, hq⟩)
    (fun _ hq => wpAny_of_eq (rfl : isSame (.ref l) (.int i u) = pure false) hq) (.inr hu) (wpAny_truthy_bool h)
theorem LW_int_dict (ho : s.heap.get? l = some o) (hc : o.cls = .type "dict") (hd : o.data = .dict es ep) (i : Int) (u : Tok) (hu : A.units < cLine) : EqAt A s (.int i u) (.ref l) false := fun prog w E Q h => by
  unfold eqBool
  refine wpAny_holding ?_
  refine wpAny_ite_split (fun hab => absurd (eq_of_beq
        hab) nofun) (fun _ => ?_)
  refine wpAny_bind ?_
  exact rc_eq_decline_or (k := false) (typeIs_int s i u) ⟨_, ho, hc⟩ (by decide) F.sub_dict_int F.slot_int_eq F.slot_dict_eq_refl
    (fun _ hq => call_meets F.slot_int_eq (typeIs_int s i u) F.entry_int_eq (F.args_int_eq_2 _ _) (LW_int_no i u l o hc es ep hd) ⟨ho, hq⟩)
    (fun _ hq => LW_dict_no F.slot_dict_eq_refl ⟨_, ho, hc⟩ (typeIs_int s i u) F.sub_int_dict hq)
    (fun _ hq => wpAny_of_eq (rfl : isSame (.int i u) (.ref l) = pure false) hq) (.inr hu) (wpAny_truthy_bool h)
theorem LW_dict_ne (ho : s.heap.get? l = some o) (hc : o.cls = .type "dict") (hb : s.heap.IsTuple b items) : l ≠ b := fun e => by
  subst e
  obtain ⟨o2, ho2, hc2,
        _⟩ := hb
  rw [ho] at ho2
  cases ho2
  rw [hc] at hc2
  exact absurd hc2 (by simp)
theorem LW_dict_tup (ho : s.heap.get? l = some o) (hc : o.cls = .type "dict") (hd : o.data = .dict es ep) (hb : s.heap.IsTuple b items) (hu : A.units < cLine) : EqAt A s (.ref l) (.ref b) false := .of_refs (LW_dict_ne ho hc hb) fun prog w E Q h => by
  have hne := LW_dict_ne ho hc hb
  obtain ⟨⟨cls2, dd2, data2, sl2⟩, ho2, hc2,
        n2, hd2⟩ := id hb
  simp only at hc2 hd2
  subst hc2 hd2
  exact (rc_eq_decline_or (k := false) ⟨_, ho, hc⟩ ⟨_, ho2, rfl⟩ (by decide) F.sub_tuple_dict F.slot_dict_eq F.slot_tuple_eq_refl
    (fun _ hq => LW_dict_no F.slot_dict_eq ⟨_, ho, hc⟩ ⟨_, ho2, rfl⟩ F.sub_tuple_dict hq)
    (fun _ hq => call_meets F.slot_tuple_eq_refl ⟨_, ho2, rfl⟩ F.entry_tuple_eq (F.args_tuple_eq_2 _ _) (LW_tup_no b l items n2 dd2 sl2 o hc es ep hd) ⟨ho2, ho, hq⟩)
    (fun _ hq => wpAny_isSame_ref_other hne ho ho2 (by rw [hc]; simp) hq) (.inr hu) h)
theorem LW_tup_dict (ho : s.heap.get? l = some o) (hc : o.cls = .type "dict") (hd : o.data = .dict es ep) (hb : s.heap.IsTuple b items) (hu : A.units < cLine) : EqAt A s (.ref b) (.ref l) false := .of_refs (LW_dict_ne ho hc hb).symm fun prog w E Q h => by
  have hne := LW_dict_ne ho hc hb
  obtain ⟨⟨cls2, dd2, data2, sl2⟩, ho2, hc2,
        n2, hd2⟩ := id hb
  simp only at hc2 hd2
  subst hc2 hd2
  exact (rc_eq_decline_or (k := false) ⟨_, ho2, rfl⟩ ⟨_, ho, hc⟩ (by decide) F.sub_dict_tuple F.slot_tuple_eq F.slot_dict_eq_refl
    (fun _ hq => call_meets F.slot_tuple_eq ⟨_, ho2, rfl⟩ F.entry_tuple_eq (F.args_tuple_eq_2 _ _) (LW_tup_no b l items n2 dd2 sl2 o hc es ep hd) ⟨ho2, ho, hq⟩)
    (fun _ hq => LW_dict_no F.slot_dict_eq_refl ⟨_, ho, hc⟩ ⟨_, ho2, rfl⟩ F.sub_tuple_dict hq)
    (fun _ hq => wpAny_isSame_ref_other' hne.symm ho2 ho (by rw [hc]; simp) hq) (.inr hu) h)
end
end PySem.SeqAt
namespace LW
open L2 PySem.Spec PyProof.Rows PySem
section
variable {X : Cx}
/-- v == x is some truth -/
def EqS (X : Cx) (H : Hp) (v x : V) : Prop := ∀ (pins : List (Addr × Obj)) (σ : L2.St) (s : Shared), Inv X pins σ H s → ∀ u w, RelV v u → RelV x w → ∃ b, SeqAt.EqAt X.A.in1 s u w b
/-- x == x -/
def EqT (X : Cx) (H : Hp) (x : V) : Prop := ∀ (pins : List (Addr × Obj)) (σ : L2.St) (s : Shared), Inv X pins σ H s → ∀ u w, RelV x u → RelV x w → SeqAt.EqAt X.A.in1 s u w true
def rNotInX (X : Cx) : R2 := fun x y H Q => ∃ l ys, y = .ref l ∧ H l = some (.lst ys) ∧ x ∈ ys ∧ (∀ v ∈ ys, EqS X H v x) ∧ EqT X H x ∧ Q (.bl false) H
theorem vals_mem {xs : List V} {us : List Value} (r : Vals xs us) : ∀ u ∈ us, ∃ x ∈ xs, RelV x u := by
  induction r with
  | nil => intro u h; cases h
  | cons h t ih =>
    intro u hu
    rcases List.mem_cons.mp hu
          with e | hu
    · subst e
      exact ⟨_, List.mem_cons_self, h⟩
    · obtain ⟨x, hx, rx⟩ := ih u hu
      exact ⟨x, List.mem_cons_of_mem _ hx, rx⟩
theorem vals_has {xs : List V} {us : List Value} (r : Vals xs us) : ∀ x ∈ xs, ∃ u ∈ us, RelV x u := by
  induction r with
  | nil => intro x h; cases h
  | cons h t ih =>
    intro x hx
    rcases List.mem_cons.mp hx
          with e | hx
    · subst e
      exact ⟨_, List.mem_cons_self, h⟩
    · obtain ⟨u, hu, rx⟩ := ih x hx
      exact ⟨u, List.mem_cons_of_mem _ hu, rx⟩
theorem op_notInX : OpR X (compareOp .NotIn) (rNotInX X) := by
  intro pins s σ H x y v u
        Q I rx ry h
  obtain ⟨l, ys, rfl, hl, hx, hs, ht, q⟩ := h
  cases ry
  obtain ⟨its, r, pl, hz⟩ := I.list (.inl (.inl hl))
  obtain ⟨u0, hu0, r0⟩ := vals_has r x hx
  classical
  have hv : ∀ u ∈ its, ∃ b, SeqAt.EqAt X.A.in1 s u v b := fun u hu => by
    obtain ⟨z, hz, rz⟩ := vals_mem r u hu
    exact hs z hz pins σ s I u v rz rx
  refine SeqAt.notIn_listAt (fun u => if u = u0 then true else if h : ∃ b, SeqAt.EqAt X.A.in1 s u v b then h.choose else false) pl.isList (fun w hw => ?_) ⟨.bl false, H, I, ?_, q⟩
  · have hw' : w ∈ its := by simpa using hw
    by_cases e : w = u0
    · subst e
      rw [if_pos rfl]
      exact ht pins σ s I _ _ r0 rx
    · rw [if_neg e, dif_pos (hv w hw')]
      exact (hv w hw').choose_spec
  · have e : (its.toArray.any fun u => if u = u0 then true else if h : ∃ b, SeqAt.EqAt X.A.in1 s u v b then h.choose else false) = true := by
      rw [List.any_toArray, List.any_eq_true]
      exact ⟨u0, hu0, by rw [if_pos rfl]⟩
    rw [e]
    rfl
/-- data without a dict of few levels, beside one another -/
theorem eqS_data {H : Hp} {v x : V} {dv dx : PyData} (hu : X.A.units + 65 < cLine) (hv : DO X.K H v dv) (hx : DO X.K H x dx) (cv : dv.canLay0 = true) (cx : dx.canLay0 = true) (dp : dv.depth ≤ 3) : EqS X H v x := by
  intro pins σ s I u w ru rw
  obtain ⟨as, r1, _⟩ := hv.reads I u ru
  obtain ⟨bs, r2, _⟩ := hx.reads I w rw
  exact ⟨_, SeqAt.eqAt_reads dv dx X.A.in1 s u w as bs r1 r2 cv cx (by show X.A.units + 1 + _ < cLine; omega)⟩
theorem eqT_data {H : Hp} {x : V} {dx : PyData} (hu : X.A.units + 65 < cLine) (hx : DO X.K H x dx) (cx : dx.canLay0 = true) (dp : dx.depth ≤ 3) (e : PyData.eqv dx dx = true) : EqT X H x := by
  intro pins σ s I u w ru rw
  obtain ⟨as, r1, _⟩ := hx.reads I u ru
  obtain ⟨bs, r2, _⟩ := hx.reads I w rw
  have z := SeqAt.eqAt_reads dx dx X.A.in1 s u w as bs r1 r2 cx cx (by show X.A.units + 1 + _ < cLine; omega)
  rw [e] at z
  exact z
theorem eqT_ref {H : Hp} {a : Addr} : EqT X H (.ref a) := by
  intro pins σ s I u w ru rw
  cases ru
  cases rw
  exact .same _
/-- an empty dict beside an int or a tuple -/
theorem eqS_dict {H : Hp} {a : Addr} {x : V} (hu : X.A.units + 65 < cLine) (ha : H a = some (.dK [])) (hx : (∃ i, x = .int i) ∨ ∃ b xs, x = .ref b ∧ SqT X.K H b xs) : EqS X H (.ref a) x ∧ EqS X H x (.ref a) := by
  have hu1 : X.A.in1.units < cLine := by
        show X.A.units + 1 < cLine; omega
  refine ⟨fun pins σ s I u w ru rw => ?_, fun pins σ s I w u rw ru => ?_⟩ <;>
  · cases ru
    obtain ⟨_, _, vs, kv, o, es, ep, ho, ⟨hc, _, _⟩, hd, _, prs, _⟩ := I.hok _ _ ha
    rcases hx with ⟨i, rfl⟩ | ⟨b, xs, rfl, sq⟩
    · obtain ⟨t, rfl⟩ := rw
      first | exact ⟨_, SeqAt.LW_dict_int ho hc hd i t hu1⟩ | exact ⟨_, SeqAt.LW_int_dict ho hc hd i t hu1⟩
    · cases rw
      obtain ⟨its, rv, tp, _⟩ := I.tuple sq
      first | exact ⟨_, SeqAt.LW_dict_tup ho hc hd tp hu1⟩ | exact ⟨_, SeqAt.LW_tup_dict ho hc hd tp hu1⟩
end
end LW

set_option Elab.async false
set_option linter.all false
set_option maxRecDepth 100000
set_option maxHeartbeats 4000100
set_option exponentiation.threshold 9000
namespace LW
open L2 PySem.Spec PyProof.Rows PySem
def topS (i : Nat) : Stmt := PySem.Challenge.pw_wholeshares_k02_rules_refused.main.body.getD i (.Pass ⟨0, 0, 0, 0⟩)
abbrev s_is_int : Stmt := topS 10
theorem sc_is_int : FnScope ["value"] ["value"] (defScope s_is_int) := ⟨rfl, rfl, rfl, by decide +kernel, rfl, by decide +kernel, by decide +kernel⟩
abbrev s_is_number : Stmt := topS 12
theorem sc_is_number : FnScope ["value"] ["value"] (defScope s_is_number) := ⟨rfl, rfl, rfl, by decide +kernel, rfl, by decide +kernel, by decide +kernel⟩
abbrev s_as_pair : Stmt := topS 13
theorem sc_as_pair : FnScope ["number"] ["number"] (defScope s_as_pair) := ⟨rfl, rfl, rfl, by decide +kernel, rfl, by decide +kernel, by decide +kernel⟩
abbrev s_lowest : Stmt := topS 14
theorem sc_lowest : FnScope ["number", "top", "bottom", "common"] ["number"] (defScope s_lowest) := ⟨rfl, rfl, rfl, by decide +kernel, rfl, by decide +kernel, by decide +kernel⟩
abbrev s__int_text : Stmt := topS 20
theorem sc__int_text : FnScope ["integer", "blocks", "rest"] ["integer"] (defScope s__int_text) := ⟨rfl, rfl, rfl, by decide +kernel, rfl, by decide +kernel, by decide +kernel⟩
abbrev s__read_int : Stmt := topS 21
theorem sc__read_int : FnScope ["digits", "start", "integer", "at"] ["digits"] (defScope s__read_int) := ⟨rfl, rfl, rfl, by decide +kernel, rfl, by decide +kernel, by decide +kernel⟩
abbrev s_is_digits : Stmt := topS 22
theorem sc_is_digits : FnScope ["text"] ["text"] (defScope s_is_digits) := ⟨rfl, rfl, rfl, by decide +kernel, rfl, by decide +kernel, by decide +kernel⟩
abbrev s_number_text : Stmt := topS 23
theorem sc_number_text : FnScope ["pair"] ["pair"] (defScope s_number_text) := ⟨rfl, rfl, rfl, by decide +kernel, rfl, by decide +kernel, by decide +kernel⟩
abbrev s_read_number : Stmt := topS 24
theorem sc_read_number : FnScope ["text", "parts", "part", "number", "pair"] ["text"] (defScope s_read_number) := ⟨rfl, rfl, rfl, by decide +kernel, rfl, by decide +kernel, by decide +kernel⟩
abbrev s_is_less : Stmt := topS 15
theorem sc_is_less : FnScope ["pair", "other_pair"] ["pair", "other_pair"] (defScope s_is_less) := ⟨rfl, rfl, rfl, by decide +kernel, rfl, by decide +kernel, by decide +kernel⟩
abbrev s__plain_mark : Stmt := topS 27
theorem sc__plain_mark : FnScope ["offset", "number"] ["offset", "number"] (defScope s__plain_mark) := ⟨rfl, rfl, rfl, by decide +kernel, rfl, by decide +kernel, by decide +kernel⟩
abbrev s__is_offset : Stmt := topS 26
theorem sc__is_offset : FnScope ["value", "top", "bottom"] ["value"] (defScope s__is_offset) := ⟨rfl, rfl, rfl, by decide +kernel, rfl, by decide +kernel, by decide +kernel⟩
abbrev s__is_next_mark : Stmt := topS 28
theorem sc__is_next_mark : FnScope ["element", "marks", "mark"] ["element", "marks"] (defScope s__is_next_mark) := ⟨rfl, rfl, rfl, by decide +kernel, rfl, by decide +kernel, by decide +kernel⟩
abbrev s_is_count : Stmt := topS 11
theorem sc_is_count : FnScope ["value"] ["value"] (defScope s_is_count) := ⟨rfl, rfl, rfl, by decide +kernel, rfl, by decide +kernel, by decide +kernel⟩
abbrev s__lowest_head : Stmt := topS 29
theorem sc__lowest_head : FnScope ["offset", "head", "marks", "index", "element"] ["offset", "head"] (defScope s__lowest_head) := ⟨rfl, rfl, rfl, by decide +kernel, rfl, by decide +kernel, by decide +kernel⟩
abbrev s_common_bottom : Stmt := topS 16
theorem sc_common_bottom : FnScope ["pairs", "common", "_", "bottom"] ["pairs"] (defScope s_common_bottom) := ⟨rfl, rfl, rfl, by decide +kernel, rfl, by decide +kernel, by decide +kernel⟩
abbrev s_Rule_mark : Stmt := inClass (topS 30) 2
theorem sc_Rule_mark : FnScope ["self", "number"] ["self", "number"] (defScope s_Rule_mark) := ⟨rfl, rfl, rfl, by decide +kernel, rfl, by decide +kernel, by decide +kernel⟩
abbrev s_Rule___init__ : Stmt := inClass (topS 30) 0
theorem sc_Rule___init__ : FnScope ["self", "offset", "head", "top", "bottom", "number"] ["self", "offset", "head"] (defScope s_Rule___init__) := ⟨rfl, rfl, rfl, by decide +kernel, rfl, by decide +kernel, by decide +kernel⟩
abbrev s_Rule_read : Stmt := inClass (topS 30) 1
theorem sc_Rule_read : FnScope ["text", "words", "offset", "head", "word"] ["text"] (defScope s_Rule_read) := ⟨rfl, rfl, rfl, by decide +kernel, rfl, by decide +kernel, by decide +kernel⟩
/-- what the top says of the program's own names -/
structure Tx (K : PySem.W.Frag) (mg : Str → Option Value) (c : Addr) : Prop where
  cl : Cls K c
  nO : NoAttr K c "offset"
  nH : NoAttr K c "head"
  nS : NoAttr K c "_start"
  nU : NoAttr K c "unit"
  nW : NoAttr K c "_whole_head"
  nX : NoAttr K c "whole_offset"
  g_Rule : mg "Rule" = some (.ref c)
  g_gcd : mg "gcd" = some (.builtin "math.gcd")
  g_lcm : mg "lcm" = some (.builtin "math.lcm")
  g_BLOCK : ∃ t, mg "BLOCK" = some (.int (10 ^ 60) t)
  g_BLOCK_DIGITS : ∃ t, mg "BLOCK_DIGITS" = some (.int 60 t)
  g_MOST_HEAD : ∃ t, mg "MOST_HEAD" = some (.int 8 t)
local macro_rules | `(tactic| walk_at "len") => `(tactic| skip)
/-! ### numbers -/
def encQ (q : Int × Int) : PyData := .tuple [.int q.1, .int q.2]
/-- lowest terms -/
def lowQ (t b : Int) : Int × Int := (t / ((Nat.gcd t.natAbs b.natAbs : Nat) : Int), b / ((Nat.gcd t.natAbs b.natAbs : Nat) : Int))
def smallQ (q : Int × Int) : Prop := q.1.natAbs < 2 ^ 8000 ∧ q.2.natAbs < 2 ^ 8000
theorem iss_Q {K : PySem.W.Frag} {A : List Addr} {H : Hp} (q : Int × Int) : Iss K A H [.int q.1, .int q.2] [.int q.1, .int q.2] := DAll.cons (.int _) (DAll.cons (.int _) DAll.nil)
theorem gcd_pos {t b : Int} (h : 0 < b) : 0 < Nat.gcd t.natAbs b.natAbs := Nat.gcd_pos_of_pos_right _ (by omega)
theorem gcd_le {t b : Int} (h : 0 < b) : Nat.gcd t.natAbs b.natAbs ≤ b.natAbs := Nat.gcd_le_right _ (by omega)
/-- an int or a pair, in lowest terms -/
def exactD : PyData → Option (Int × Int)
  | .int i => some (i, 1)
  | .tuple [.int a, .int b] => some (lowQ a b)
  | _ => none
def okQ (q : Int × Int) : Prop := 0 < q.2 ∧ q.2.natAbs < 2 ^ 8000

/-! ### numbers and rules as texts -/
open SX in
def qL (q : Int × Int) : List Nat := if q.2 = 1 then TL.numL q.1.toNat else TL.numL q.1.toNat ++ 47 :: TL.numL q.2.toNat
/-- a number whose parts are not negative and not long -/
structure OkW (q : Int × Int) : Prop where
  a : 0 ≤ q.1
  b : 0 < q.2
  a2 : q.1 < 10 ^ 50
  b2 : q.2 < 10 ^ 50
theorem numL_50 {i : Int} (h0 : 0 ≤ i) (h : i < 10 ^ 50) : (TL.numL i.toNat).length ≤ 50 := TL.numL_len (by decide) (by omega)
theorem toS {i : Int} (h : 0 ≤ i) : (Str.ofString (toString i)) = SX.S (TL.numL i.toNat) := by
  have e : i = ((i.toNat : Nat) : Int) := by omega
  rw [← SX.num_S, ← e]
theorem log2_50 {i : Int} (h0 : 0 ≤ i) (h : i < 10 ^ 50) : i.natAbs.log2 < 1920 := by
  have : i.natAbs < 2 ^ 200 := by omega
  exact Nat.lt_of_lt_of_le (PySem.Flt.log2_lt_of (by decide) this) (by decide)
theorem qL_len {q : Int × Int} (h : OkW q) : (qL q).length ≤ 101 := by
  have l1 := numL_50 h.a h.a2
  have l2 := numL_50 (Int.le_of_lt h.b) h.b2
  unfold qL
  split
  · omega
  · rw [List.length_append, List.length_cons]; omega

/-! ### the program: numbers -/
def isNumD : PyData → Bool
  | .int _ => true
  | .tuple [.int _, .int q] => decide (q ≥ 1)
  | _ => false
theorem numD_len : ∀ ds : List PyData, ds.length ≠ 2 → isNumD (.tuple ds) = false
  | [], _ => rfl
  | [.none], _ | [.bool _], _ | [.int _], _ | [.str _], _ | [.list _], _ | [.tuple _], _ | [.dict _], _ => rfl
  | [_, _], h => absurd rfl h
  | x :: y :: z :: r, _ => by
    cases x <;> first | rfl | (cases y <;> rfl)
theorem enc_num {q : Int × Int} (h : 0 < q.2) : isNumD (encQ q) = true := decide_eq_true (show q.2 ≥ 1 by omega)
section
variable {P : Program} {w : World} {K : PySem.W.Frag} {mg : Str → Option Value} {base : Heap} {c : Addr}
def sp_is_int (K : PySem.W.Frag) (c : Addr) : Sp := fun vs H Q _ => ∃ (v : V) (d : PyData), vs = [v] ∧ D K H v d ∧ Q (.bl (isIntD d)) H
theorem cal_is_int (B : Bl mg) (DD : OwnDef K mg "is_int" s_is_int)   : Cal P w K mg base 1 "is_int" (sp_is_int K c) [] := by
  obtain ⟨f, fd, F, hm⟩ := DD.ex
  refine ⟨f, fd, ["value"], [], F.ok sc_is_int (fun vs H Q E h => ?len) (fun cdv A outer s H vs Q E hr h => ?run), hm, F.kp, F.binds (fun _ _ _ _ _ _ us hl => match us, hl with | [_], _ => rfl), .nil⟩
  case len => first | (obtain ⟨_, rfl, _⟩ := h; rfl) | (obtain ⟨_, _, rfl, _⟩ := h; rfl) | (obtain ⟨_, _, _, rfl, _⟩ := h; rfl) | (obtain ⟨_, _, _, _, rfl, _⟩ := h; rfl) | (obtain ⟨_, _, _, _, _, rfl, _⟩ := h; rfl) | (obtain ⟨_, _, _, _, _, _, rfl, _⟩ := h; rfl) | (obtain ⟨_, _, _, _, _, _, _, rfl, _⟩ := h; rfl) | (obtain ⟨_, _, _, _, _, _, _, _, rfl, _⟩ := h; rfl) | (obtain ⟨_, _, _, _, _, _, _, _, _, rfl, _⟩ := h; rfl) | (obtain ⟨_, _, _, _, _, _, _, _, _, _, rfl, _⟩ := h; rfl) | (obtain ⟨_, _, _, _, _, _, _, _, _, _, _, rfl, _⟩ := h; rfl) | (obtain ⟨_, _, _, _, _, _, _, _, _, _, _, _, rfl, _⟩ := h; rfl) | (obtain ⟨_, _, _, _, _, _, _, _, _, _, _, _, _, rfl, _⟩ := h; rfl) | (obtain ⟨_, _, _, _, _, _, _, _, _, _, _, _, _, _, rfl, _⟩ := h; rfl)
  case run =>
    obtain ⟨v, d, rfl, hv, k⟩ := h
    refine ⟨_, (pss_one (ps_ret (pe_and (pe_callB call_isi (by rfl) B.isinstance (by decide +kernel) (pa_cons (pv 0) (pa_cons (pe_bltn (v := .ty "int") (by rfl) B.int (by decide +kernel) rfl) pa_nil))) (pe_one (pe_not (pe_callB call_isi (by rfl) B.isinstance (by decide +kernel) (pa_cons (pv 0) (pa_cons (pe_bltn (v := .ty "bool") (by rfl) B.bool (by decide +kernel) rfl) pa_nil)))))))), ?_⟩
    refine ⟨_, rfl, _, _, _, _, _, rfl, .ty _, hv.ty, kit_ty (kit_int _), _, rfl, ite2 (fun e => ?_) (fun e => ?_)⟩
    · refine ⟨_, rfl, _, _, _, _, _, rfl, .ty _, hv.ty, kit_ty (kit_bool _), _, rfl, ?_⟩
      have z : (!isBoolD d) = isIntD d := by cases d <;> first | rfl | (simp [isIntD, isBoolD] at e)
      rw [z]
      exact k
    · have z : isIntD d = false := by
        cases q : isIntD d with
        | false => rfl
        | true => rw [q] at e; exact absurd rfl e
      rw [z] at k
      exact k
def sp_is_number (K : PySem.W.Frag) (c : Addr) : Sp := fun vs H Q _ => ∃ (v : V) (d : PyData), vs = [v] ∧ D K H v d ∧ Q (.bl (isNumD d)) H
theorem cal_is_number (B : Bl mg) (DD : OwnDef K mg "is_number" s_is_number) (C_is_int : Cal P w K mg base 1 "is_int" (sp_is_int K c) [])  : Cal P w K mg base 2 "is_number" (sp_is_number K c) [] := by
  obtain ⟨f, fd, F, hm⟩ := DD.ex
  refine ⟨f, fd, ["value"], [], F.ok sc_is_number (fun vs H Q E h => ?len) (fun cdv A outer s H vs Q E hr h => ?run), hm, F.kp, F.binds (fun _ _ _ _ _ _ us hl => match us, hl with | [_], _ => rfl), .nil⟩
  case len => first | (obtain ⟨_, rfl, _⟩ := h; rfl) | (obtain ⟨_, _, rfl, _⟩ := h; rfl) | (obtain ⟨_, _, _, rfl, _⟩ := h; rfl) | (obtain ⟨_, _, _, _, rfl, _⟩ := h; rfl) | (obtain ⟨_, _, _, _, _, rfl, _⟩ := h; rfl) | (obtain ⟨_, _, _, _, _, _, rfl, _⟩ := h; rfl) | (obtain ⟨_, _, _, _, _, _, _, rfl, _⟩ := h; rfl) | (obtain ⟨_, _, _, _, _, _, _, _, rfl, _⟩ := h; rfl) | (obtain ⟨_, _, _, _, _, _, _, _, _, rfl, _⟩ := h; rfl) | (obtain ⟨_, _, _, _, _, _, _, _, _, _, rfl, _⟩ := h; rfl) | (obtain ⟨_, _, _, _, _, _, _, _, _, _, _, rfl, _⟩ := h; rfl) | (obtain ⟨_, _, _, _, _, _, _, _, _, _, _, _, rfl, _⟩ := h; rfl) | (obtain ⟨_, _, _, _, _, _, _, _, _, _, _, _, _, rfl, _⟩ := h; rfl) | (obtain ⟨_, _, _, _, _, _, _, _, _, _, _, _, _, _, rfl, _⟩ := h; rfl)
  case run =>
    obtain ⟨v, d, rfl, hv, k⟩ := h
    refine ⟨_, (pss_cons (ps_if (PW.pt (pw_and (pt_val (pe_callB call_isi (by rfl) B.isinstance (by decide +kernel) (pa_cons (pv 0) (pa_cons (pe_bltn (v := .ty "tuple") (by rfl) B.tuple (by decide +kernel) rfl) pa_nil)))) (pw_and1 (pt_cmpR op_eq (pe_callB call_len_seq (by rfl) B.len (by decide +kernel) (pa_cons (pv 0) pa_nil)) pe_int (nomark _))))) (pss_one (ps_ret (pe_and (pe_c C_is_int hr (by decide) (by rfl) (pa_cons (pe_ix ix_seq (pv 0) pe_int (fun _ _ => rfl)) pa_nil)) (pe_and (pe_c C_is_int hr (by decide) (by rfl) (pa_cons (pe_ix ix_seq (pv 0) pe_int (fun _ _ => rfl)) pa_nil)) (pe_one (pe_cmpR op_ge (pe_ix ix_seq (pv 0) pe_int (fun _ _ => rfl)) pe_int (nomark _))))))) pss_nil)
      (pss_one (ps_ret (pe_c C_is_int hr (by decide) (by rfl) (pa_cons (pv 0) pa_nil))))), ?_⟩
    refine ⟨_, rfl, _, _, _, _, _, rfl, .ty _, hv.ty, kit_ty (kit_tup _), _, rfl, ite2 (fun e => ?_) (fun e => ?_)⟩
    · obtain ⟨ds, rfl⟩ : ∃ ds, d = .tuple ds := by
        cases d with
        | tuple ds => exact ⟨ds, rfl⟩
        | _ => cases e
      obtain ⟨a, ws, rfl, sq, all⟩ := hv.tuple
      refine ⟨_, rfl, a, ws, rfl, .inr sq, rfl, _, rfl, ite2 (fun e2 => ?_) (fun e2 => ?_)⟩
      · have e3 : ((ws.length : Nat) : Int) = 2 := V.int.inj (of_decide_eq_true e2)
        have el : ds.length = 2 := by have := all.len; omega
        obtain ⟨x, y, rfl⟩ : ∃ x y, ds = [x, y] := by
          match ds, el with
          | [x, y], _ => exact ⟨x, y, rfl⟩
        refine ⟨_, rfl, ix_dt hv (by decide) rfl fun u hu => ?_⟩
        refine ⟨u, x, rfl, hu, _, rfl, ite2 (fun ex => ?_) (fun ex => ?_)⟩
        · refine ⟨_, rfl, ix_dt hv (by decide) rfl fun u2 hu2 => ?_⟩
          refine ⟨u2, y, rfl, hu2, _, rfl, ite2 (fun ey => ?_) (fun ey => ?_)⟩
          · obtain ⟨i, rfl⟩ : ∃ i, x = .int i := by
              cases x with
              | int i => exact ⟨i, rfl⟩
              | _ => cases ex
            obtain ⟨j, rfl⟩ : ∃ i, y = .int i := by
              cases y with
              | int i => exact ⟨i, rfl⟩
              | _ => cases ey
            exact ⟨_, rfl, ix_di hv (by decide) rfl ⟨_, _, rfl, rfl, k⟩⟩
          · have z : isNumD (.tuple [x, y]) = false := by
              cases y with
              | int i => exact absurd rfl ey
              | _ => cases x <;> rfl
            rw [z] at k
            exact k
        · have z : isNumD (.tuple [x, y]) = false := by
            cases x with
            | int i => exact absurd rfl ex
            | _ => rfl
          rw [z] at k
          exact k
      · have z : isNumD (.tuple ds) = false := numD_len ds fun l => e2 (decide_eq_true (congrArg V.int (by have := all.len; omega)))
        rw [z] at k
        refine ⟨_, rfl, _, _, rfl, hv, ?_⟩
        exact k
    · have z : isNumD d = isIntD d := by
        cases d with
        | tuple ds => exact absurd rfl e
        | _ => rfl
      rw [z] at k
      exact ⟨_, rfl, _, _, rfl, hv, k⟩
def pairD : PyData → Int × Int
  | .int i => (i, 1)
  | .tuple [.int a, .int b] => (a, b)
  | _ => (0, 1)
/-- as_pair(number), of a number -/
def sp_as_pair (K : PySem.W.Frag) (c : Addr) : Sp := fun vs H Q _ => ∃ (v : V) (d : PyData), vs = [v] ∧ D K H v d ∧ isNumD d = true ∧
  ∀ p H', Same H H' → SqT K H' p [.int (pairD d).1, .int (pairD d).2] → Q (.ref p) H'
theorem cal_as_pair (B : Bl mg) (DD : OwnDef K mg "as_pair" s_as_pair)   : Cal P w K mg base 1 "as_pair" (sp_as_pair K c) [] := by
  obtain ⟨f, fd, F, hm⟩ := DD.ex
  refine ⟨f, fd, ["number"], [], F.ok sc_as_pair (fun vs H Q E h => ?len) (fun cdv A outer s H vs Q E hr h => ?run), hm, F.kp, F.binds (fun _ _ _ _ _ _ us hl => match us, hl with | [_], _ => rfl), .nil⟩
  case len => first | (obtain ⟨_, rfl, _⟩ := h; rfl) | (obtain ⟨_, _, rfl, _⟩ := h; rfl) | (obtain ⟨_, _, _, rfl, _⟩ := h; rfl) | (obtain ⟨_, _, _, _, rfl, _⟩ := h; rfl) | (obtain ⟨_, _, _, _, _, rfl, _⟩ := h; rfl) | (obtain ⟨_, _, _, _, _, _, rfl, _⟩ := h; rfl) | (obtain ⟨_, _, _, _, _, _, _, rfl, _⟩ := h; rfl) | (obtain ⟨_, _, _, _, _, _, _, _, rfl, _⟩ := h; rfl) | (obtain ⟨_, _, _, _, _, _, _, _, _, rfl, _⟩ := h; rfl) | (obtain ⟨_, _, _, _, _, _, _, _, _, _, rfl, _⟩ := h; rfl) | (obtain ⟨_, _, _, _, _, _, _, _, _, _, _, rfl, _⟩ := h; rfl) | (obtain ⟨_, _, _, _, _, _, _, _, _, _, _, _, rfl, _⟩ := h; rfl) | (obtain ⟨_, _, _, _, _, _, _, _, _, _, _, _, _, rfl, _⟩ := h; rfl) | (obtain ⟨_, _, _, _, _, _, _, _, _, _, _, _, _, _, rfl, _⟩ := h; rfl)
  case run =>
    obtain ⟨v, d, rfl, hv, hn, k⟩ := h
    refine ⟨_, (pss_one (ps_ret (pe_ifExp (pt_val (pe_callB call_isi (by rfl) B.isinstance (by decide +kernel) (pa_cons (pv 0) (pa_cons (pe_bltn (v := .ty "tuple") (by rfl) B.tuple (by decide +kernel) rfl) pa_nil)))) (pv 0) (pe_tup (pa_cons (pv 0) (pa_cons pe_int pa_nil)))))), ?_⟩
    refine ⟨_, rfl, _, _, _, _, _, rfl, .ty _, hv.ty, kit_ty (kit_tup _), _, rfl, ite2 (fun e => ?_) (fun e => ?_)⟩
    · obtain ⟨x, y, rfl, hy⟩ : ∃ x y, d = encQ (x, y) ∧ y ≥ 1 := by
        match d, hn, e with
        | .tuple [.int x, .int y], hn, _ => exact ⟨x, y, rfl, of_decide_eq_true hn⟩
      obtain ⟨a, ws, rfl, sq, all⟩ := hv.tuple
      obtain ⟨w1, e1, d1⟩ := all.get (i := 0) rfl
      obtain ⟨w2, e2, d2⟩ := all.get (i := 1) rfl
      obtain rfl := d1.int_eq
      obtain rfl := d2.int_eq
      have el : ws = [.int x, .int y] := by
        match ws, all.len, e1, e2 with
        | [p, q], _, e1, e2 =>
          have h1 : p = .int x := Option.some.inj e1
          have h2 : q = .int y := Option.some.inj e2
          rw [h1, h2]
      subst el
      exact ⟨_, rfl, k a H (Same.refl H) sq⟩
    · obtain ⟨x, rfl⟩ : ∃ x, d = .int x := by
        match d, hn, e with
        | .int x, _, _ => exact ⟨x, rfl⟩
        | .tuple _, _, e => exact absurd rfl e
      obtain rfl := hv.int_eq
      exact ⟨_, rfl, by show 2 ≤ sizeLine; decide, fun t nt => k t _ (same_new nt) (.inl (.inl upd_same))⟩
/-- lowest(number), of a number -/
def lowD : PyData → Int × Int
  | .int i => (i, 1)
  | .tuple [.int a, .int b] => lowQ a b
  | _ => (0, 1)
def sp_lowest (K : PySem.W.Frag) (c : Addr) : Sp := fun vs H Q _ => ∃ (v : V) (d : PyData), vs = [v] ∧ D K H v d ∧ isNumD d = true ∧ (∀ a b, d = encQ (a, b) → b.natAbs < 2 ^ 8000) ∧
  ∀ p H', Same H H' → H p = none → H' p = some (.tup [.int (lowD d).1, .int (lowD d).2]) → Q (.ref p) H'
theorem cal_lowest (B : Bl mg) (DD : OwnDef K mg "lowest" s_lowest) (C_as_pair : Cal P w K mg base 1 "as_pair" (sp_as_pair K c) []) (T : Tx K mg c) : Cal P w K mg base 2 "lowest" (sp_lowest K c) [] := by
  obtain ⟨f, fd, F, hm⟩ := DD.ex
  refine ⟨f, fd, ["number"], [], F.ok sc_lowest (fun vs H Q E h => ?len) (fun cdv A outer s H vs Q E hr h => ?run), hm, F.kp, F.binds (fun _ _ _ _ _ _ us hl => match us, hl with | [_], _ => rfl), .nil⟩
  case len => first | (obtain ⟨_, rfl, _⟩ := h; rfl) | (obtain ⟨_, _, rfl, _⟩ := h; rfl) | (obtain ⟨_, _, _, rfl, _⟩ := h; rfl) | (obtain ⟨_, _, _, _, rfl, _⟩ := h; rfl) | (obtain ⟨_, _, _, _, _, rfl, _⟩ := h; rfl) | (obtain ⟨_, _, _, _, _, _, rfl, _⟩ := h; rfl) | (obtain ⟨_, _, _, _, _, _, _, rfl, _⟩ := h; rfl) | (obtain ⟨_, _, _, _, _, _, _, _, rfl, _⟩ := h; rfl) | (obtain ⟨_, _, _, _, _, _, _, _, _, rfl, _⟩ := h; rfl) | (obtain ⟨_, _, _, _, _, _, _, _, _, _, rfl, _⟩ := h; rfl) | (obtain ⟨_, _, _, _, _, _, _, _, _, _, _, rfl, _⟩ := h; rfl) | (obtain ⟨_, _, _, _, _, _, _, _, _, _, _, _, rfl, _⟩ := h; rfl) | (obtain ⟨_, _, _, _, _, _, _, _, _, _, _, _, _, rfl, _⟩ := h; rfl) | (obtain ⟨_, _, _, _, _, _, _, _, _, _, _, _, _, _, rfl, _⟩ := h; rfl)
  case run =>
    obtain ⟨v, d, rfl, hv, hn, hsz, k⟩ := h
    refine ⟨_, (pss_cons (ps_asg (pe_c C_as_pair hr (by decide) (by rfl) (pa_cons (pv 0) pa_nil)) (pg_tup (by rfl) (pgs_cons (pg_name (i := 1) sc_lowest.nd rfl (Or.inl rfl)) (pgs_cons (pg_name (i := 2) sc_lowest.nd rfl (Or.inl rfl)) pgs_nil))))
      (pss_cons (ps_set (i := 3) sc_lowest.nd rfl (Or.inl rfl) (pe_callBfun cr_gcd (by rfl) T.g_gcd (pa_cons (pv 1) (pa_cons (pv 2) pa_nil))))
      (pss_one (ps_ret (pe_tup (pa_cons (pe_op op_fdivW (pv 1) (pv 3)) (pa_cons (pe_op op_fdivW (pv 2) (pv 3)) pa_nil))))))), ?_⟩
    refine ⟨_, rfl, v, d, rfl, hv, hn, fun t H1 sm ht => ?_⟩
    refine ⟨t, _, rfl, ht, rfl, .int (pairD d).1, [.int (pairD d).2], rfl, .int (pairD d).2, [], rfl, rfl, ?_⟩
    obtain ⟨hb0, hb1, hb2⟩ : 0 < (pairD d).2 ∧ (pairD d).2.natAbs < 2 ^ 8000 ∧ lowQ (pairD d).1 (pairD d).2 = lowD d := by
      match d, hn, hsz with
      | .int i, _, _ =>
        refine ⟨by show (0:Int) < 1; decide, by show Int.natAbs 1 < 2 ^ 8000; decide, ?_⟩
        show lowQ i 1 = (i, 1)
        have g1 : Nat.gcd i.natAbs (1 : Int).natAbs = 1 := Nat.gcd_one_right _
        show (i / ((Nat.gcd i.natAbs (1 : Int).natAbs : Nat) : Int), (1:Int) / ((Nat.gcd i.natAbs (1 : Int).natAbs : Nat) : Int)) = (i, 1)
        rw [g1]; exact Prod.ext (Int.ediv_one i) rfl
      | .tuple [.int x, .int y], hn, hsz =>
        have hy : y ≥ 1 := of_decide_eq_true hn
        exact ⟨by show 0 < y; omega, hsz x y rfl, rfl⟩
    rw [← hb2] at k
    generalize (pairD d).1 = x at *
    generalize (pairD d).2 = y at *
    have hg : 0 < Nat.gcd x.natAbs y.natAbs := gcd_pos hb0
    have hg2 : Nat.gcd x.natAbs y.natAbs < 2 ^ 8000 := Nat.lt_of_le_of_lt (gcd_le hb0) hb1
    have hd1 : CDivW x ((Nat.gcd x.natAbs y.natAbs : Nat) : Int) := wide_div (b := 8000) (by omega) (by simpa using hg2) (by decide) (by decide)
    have hd2 : CDivW y ((Nat.gcd x.natAbs y.natAbs : Nat) : Int) := wide_div (b := 8000) (by omega) (by simpa using hg2) (by decide) (by decide)
    refine ⟨_, rfl, _, rfl, x, y, rfl, ?_⟩
    exact ⟨_, rfl, _, rfl, _, _, rfl, rfl, hd1, _, rfl, _, rfl, _, _, rfl, rfl, hd2, by show 2 ≤ sizeLine; decide, fun p np => k p _ (sm.trans (same_new np)) (sm.free np) upd_same⟩
end

/-! ### the program: numbers as texts -/
theorem digitsVal0 (l : List Nat) : NumText.digitsVal (48 :: l) = NumText.digitsVal l := rfl
theorem allD {l : List Nat} (h : NumText.AllDigits l) : l.all (fun c => decide (48 ≤ c) && decide (c ≤ 57)) = true := by
  rw [List.all_eq_true]
  intro c hc
  have := h c hc
  simp [this.1, this.2]
theorem split_one {l : List Nat} {s : Nat} (hs : s < 256) (h : s ∉ l) : Txt.split (SX.S l) (SX.S [s]) = [SX.S l] := by
  have e := SX.split_S (a := l) (b := [s]) (by simp) (by simp [hs])
  rw [e, show TL.spl [s] 0 [] l = [l] from SX.spl_join (c := s) (sep := []) (parts := [l]) (by simp) (by simpa using h)]
  rfl
theorem split_join {parts : List (List Nat)} {s : Nat} (hs : s < 256) (hp : parts ≠ []) (h : ∀ p ∈ parts, s ∉ p) : Txt.split (SX.S (TL.joinL [s] parts)) (SX.S [s]) = parts.map SX.S := by
  rw [SX.split_S (by simp) (by simp [hs]), SX.spl_join hp h]
def qParts (q : Int × Int) : List (List Nat) := if q.2 = 1 then [TL.numL q.1.toNat] else [TL.numL q.1.toNat, TL.numL q.2.toNat]
theorem qL_parts (q : Int × Int) : qL q = TL.joinL [47] (qParts q) := by
  unfold qL qParts
  split <;> rfl
theorem digit_not {c : Nat} (l : List Nat) (h : NumText.AllDigits l) (hc : c < 48 ∨ 57 < c) : c ∉ l := fun hm => by
  have := h c hm
  omega
theorem qParts_free (q : Int × Int) : ∀ p ∈ qParts q, (47 : Nat) ∉ p := by
  intro p hp
  unfold qParts at hp
  split at hp
  · rw [List.mem_singleton] at hp; subst hp; exact TL.numL_free (.inl (by decide))
  · rcases List.mem_cons.mp hp
        with rfl | hp
    · exact TL.numL_free (.inl (by decide))
    · rw [List.mem_singleton] at hp; subst hp; exact TL.numL_free (.inl (by decide))
theorem qSplit (q : Int × Int) : Txt.split (SX.S (qL q)) (SX.S [47]) = (qParts q).map SX.S := by
  rw [qL_parts]
  exact split_join (by decide) (by unfold qParts; split <;> simp) (qParts_free q)
section
variable {P : Program} {w : World} {K : PySem.W.Frag} {mg : Str → Option Value} {base : Heap} {c : Addr}
def sp__int_text (K : PySem.W.Frag) (c : Addr) : Sp := fun vs H Q _ => ∃ (n : Int), vs = [.int n] ∧ 0 ≤ n ∧ n < 10 ^ 50 ∧ ∀ H', Same H H' → Q (.str (SX.S (TL.numL n.toNat))) H'
theorem cal__int_text (B : Bl mg) (DD : OwnDef K mg "_int_text" s__int_text)  (T : Tx K mg c) : Cal P w K mg base 1 "_int_text" (sp__int_text K c) [] := by
  obtain ⟨f, fd, F, hm⟩ := DD.ex
  refine ⟨f, fd, ["integer"], [], F.ok sc__int_text (fun vs H Q E h => ?len) (fun cdv A outer s H vs Q E hr h => ?run), hm, F.kp, F.binds (fun _ _ _ _ _ _ us hl => match us, hl with | [_], _ => rfl), .nil⟩
  case len => first | (obtain ⟨_, rfl, _⟩ := h; rfl) | (obtain ⟨_, _, rfl, _⟩ := h; rfl) | (obtain ⟨_, _, _, rfl, _⟩ := h; rfl) | (obtain ⟨_, _, _, _, rfl, _⟩ := h; rfl) | (obtain ⟨_, _, _, _, _, rfl, _⟩ := h; rfl) | (obtain ⟨_, _, _, _, _, _, rfl, _⟩ := h; rfl) | (obtain ⟨_, _, _, _, _, _, _, rfl, _⟩ := h; rfl) | (obtain ⟨_, _, _, _, _, _, _, _, rfl, _⟩ := h; rfl) | (obtain ⟨_, _, _, _, _, _, _, _, _, rfl, _⟩ := h; rfl) | (obtain ⟨_, _, _, _, _, _, _, _, _, _, rfl, _⟩ := h; rfl) | (obtain ⟨_, _, _, _, _, _, _, _, _, _, _, rfl, _⟩ := h; rfl) | (obtain ⟨_, _, _, _, _, _, _, _, _, _, _, _, rfl, _⟩ := h; rfl) | (obtain ⟨_, _, _, _, _, _, _, _, _, _, _, _, _, rfl, _⟩ := h; rfl) | (obtain ⟨_, _, _, _, _, _, _, _, _, _, _, _, _, _, rfl, _⟩ := h; rfl)
  case run =>
    obtain ⟨n, rfl, h0, h1, k⟩ := h
    refine ⟨_, (pss_cons (ps_set (i := 1) sc__int_text.nd rfl (Or.inl rfl) (pe_lst pa_nil))
      (pss_cons (ps_while PassesOwn.never (pt_cmpR op_ge (pv 0) (pe_gint (by rfl) T.g_BLOCK) (nomark _)) (pss_cons (ps_asg (pe_callB call_divmodW (by rfl) B.divmod (by decide +kernel) (pa_cons (pv 0) (pa_cons (pe_gint (by rfl) T.g_BLOCK) pa_nil))) (pg_tup (by rfl) (pgs_cons (pg_name (i := 0) sc__int_text.nd rfl (Or.inl rfl)) (pgs_cons (pg_name (i := 2) sc__int_text.nd rfl (Or.inl rfl)) pgs_nil))))
      (pss_one (ps_expr (pe_bm PySem.F.plainAttrs_list PySem.F.slot_list_append PySem.F.type_list_append mt_append (pv 1) (pa_cons (pe_m1 PySem.F.slot_str_zfill PySem.F.type_str_zfill mt_zfill (pe_callTy call_str_int (by rfl) B.str (by decide +kernel) (pa_cons (pv 2) pa_nil)) (pe_gint (by rfl) T.g_BLOCK_DIGITS)) pa_nil))))))
      (pss_cons (ps_expr (pe_bm PySem.F.plainAttrs_list PySem.F.slot_list_append PySem.F.type_list_append mt_append (pv 1) (pa_cons (pe_callTy call_str_int (by rfl) B.str (by decide +kernel) (pa_cons (pv 0) pa_nil)) pa_nil)))
      (pss_one (ps_ret (pe_join pe_str (pe_revL (pv 1)))))))), ?_⟩
    refine ⟨Nat.zero_le _, fun l nl => ?_⟩
    refine while_by (fun σ H2 => σ = [some (.int n), some (.ref l), none] ∧ H2 = upd H l (.lst [])) (fun _ _ => 0) ⟨rfl, rfl⟩ ?_ ?_
    · rintro σ H2 ⟨rfl, rfl⟩
      refine ⟨_, rfl, _, _, rfl, rfl, _, rfl, ite2 (fun e => ?_) (fun e => ?_)⟩
      · have : (10 ^ 60 : Int) ≤ n := of_decide_eq_true e
        omega
      · have hS : ∀ xs, SqL K (upd H l (.lst xs)) l xs := fun xs => .inl (.inl upd_same)
        refine ⟨_, rfl, .inl ⟨rfl, _, .inl (.inl upd_same)⟩, _, rfl, n, rfl, log2_50 h0 h1, l, [], _, rfl, rfl, upd_same, by decide, ?_⟩
        refine ⟨⟨_, rfl⟩, _, rfl, l, [_], rfl, .inl (.inl upd_same), fun p np => ?_⟩
        refine ⟨_, p, [Str.ofString (toString n)], rfl, rfl, .inl (.inl (.inl upd_same)), ?_, ?_⟩
        · have l1 := numL_50 h0 h1
          show (([(Str.ofString (toString n)).length] : List Nat).sum + 1 * _) ≤ 16777216
          have z : ("" : Str).length = 0 := by decide +kernel
          rw [toS h0, SX.S_len, z]
          simp
          omega
        · have e1 : Txt.join ("" : Str) [Str.ofString (toString n)] = SX.S (TL.numL n.toNat) := by
            have z : ("" : Str) = SX.S [] := by decide +kernel
            rw [toS h0, z]
            exact SX.join_S [] [TL.numL n.toNat]
          rw [e1]
          have np1 : (upd H l (.lst [])) l = some (.lst []) := upd_same
          refine k _ fun b o e => ?_
          have hb : b ≠ l := ne_of_none e nl
          have hbp : b ≠ p := fun z => by
            subst z
            rw [upd_ne hb, upd_ne hb] at np
            rw [np] at e
            cases e
          rw [upd_ne hbp, upd_ne hb, upd_ne hb]
          exact e
    · rintro σ H2 Q1 Q2 hQ ⟨v, e, i, j, e1, e2, k, ek, q'⟩
      exact ⟨v, e, i, j, e1, e2, k, ek, hQ _ _ q'⟩
theorem small60 : ∀ n : Nat, n < 60 → Builtin.Range.small ((n : Nat) : Int) ((n : Nat) : Int) 60 = true := by decide +kernel
def sp__read_int (K : PySem.W.Frag) (c : Addr) : Sp := fun vs H Q _ => ∃ (l : List Nat), vs = [.str (SX.S l)] ∧ NumText.AllDigits l ∧ l.length < 60 ∧ Q (.int ((NumText.digitsVal l : Nat) : Int)) H
theorem cal__read_int (B : Bl mg) (DD : OwnDef K mg "_read_int" s__read_int)  (T : Tx K mg c) : Cal P w K mg base 1 "_read_int" (sp__read_int K c) [] := by
  obtain ⟨f, fd, F, hm⟩ := DD.ex
  refine ⟨f, fd, ["digits"], [], F.ok sc__read_int (fun vs H Q E h => ?len) (fun cdv A outer s H vs Q E hr h => ?run), hm, F.kp, F.binds (fun _ _ _ _ _ _ us hl => match us, hl with | [_], _ => rfl), .nil⟩
  case len => first | (obtain ⟨_, rfl, _⟩ := h; rfl) | (obtain ⟨_, _, rfl, _⟩ := h; rfl) | (obtain ⟨_, _, _, rfl, _⟩ := h; rfl) | (obtain ⟨_, _, _, _, rfl, _⟩ := h; rfl) | (obtain ⟨_, _, _, _, _, rfl, _⟩ := h; rfl) | (obtain ⟨_, _, _, _, _, _, rfl, _⟩ := h; rfl) | (obtain ⟨_, _, _, _, _, _, _, rfl, _⟩ := h; rfl) | (obtain ⟨_, _, _, _, _, _, _, _, rfl, _⟩ := h; rfl) | (obtain ⟨_, _, _, _, _, _, _, _, _, rfl, _⟩ := h; rfl) | (obtain ⟨_, _, _, _, _, _, _, _, _, _, rfl, _⟩ := h; rfl) | (obtain ⟨_, _, _, _, _, _, _, _, _, _, _, rfl, _⟩ := h; rfl) | (obtain ⟨_, _, _, _, _, _, _, _, _, _, _, _, rfl, _⟩ := h; rfl) | (obtain ⟨_, _, _, _, _, _, _, _, _, _, _, _, _, rfl, _⟩ := h; rfl) | (obtain ⟨_, _, _, _, _, _, _, _, _, _, _, _, _, _, rfl, _⟩ := h; rfl)
  case run =>
    obtain ⟨l, rfl, hd, hl, k⟩ := h
    refine ⟨_, (pss_cons (ps_set (i := 1) sc__read_int.nd rfl (Or.inl rfl) (pe_op op_mod (pe_callB call_len_str (by rfl) B.len (by decide +kernel) (pa_cons (pv 0) pa_nil)) (pe_gint (by rfl) T.g_BLOCK_DIGITS)))
      (pss_cons (ps_set (i := 2) sc__read_int.nd rfl (Or.inl rfl) (pe_callTy call_int_str (by rfl) B.int (by decide +kernel) (pa_cons (pe_op op_add_str pe_str (pe_slice C8.sl_txt (pv 0) po_none (po_some (pv 1)))) pa_nil)))
      (pss_cons (ps_for PassesOwn.never rfl (pi_range3 (by rfl) B.range (pa_cons (pv 1) (pa_cons (pe_callB call_len_str (by rfl) B.len (by decide +kernel) (pa_cons (pv 0) pa_nil)) (pa_cons (pe_gint (by rfl) T.g_BLOCK_DIGITS) pa_nil)))) (pg_name (i := 3) sc__read_int.nd rfl (Or.inl rfl)) (pss_one (ps_set (i := 2) sc__read_int.nd rfl (Or.inl rfl) (pe_op op_add (pe_op op_mulW (pv 2) (pe_gint (by rfl) T.g_BLOCK)) (pe_callTy call_int_str (by rfl) B.int (by decide +kernel) (pa_cons (pe_slice C8.sl_txt (pv 0) (po_some (pv 3)) (po_some (pe_op op_add (pv 3) (pe_gint (by rfl) T.g_BLOCK_DIGITS)))) pa_nil))))))
      (pss_one (ps_ret (pv 2)))))), ?_⟩
    have sl : sizeLine = 16777216 := sizeLine_eq
    have em : (((SX.S l).length : Nat) : Int) % 60 = ((l.length : Nat) : Int) := by rw [SX.S_len]; omega
    refine ⟨_, rfl, _, rfl, by rw [SX.S_len]; omega, _, _, rfl, rfl, (by show (0 : Int) < 60; decide), ?_⟩
    have e48 : ("0" : Str) = SX.S [48] := by decide +kernel
    refine ⟨_, rfl, _, rfl, _, rfl, _, rfl, by rw [SX.S_len]; omega, ?_⟩
    have ec : Txt.slice (SX.S l) none (some ((((SX.S l).length : Nat) : Int) % 60)) = SX.S l := by
      rw [em, SX.slice_to (by omega)]
      congr 1
      rw [show ((l.length : Nat) : Int).toNat = l.length by omega, List.take_length]
    refine ⟨_, _, rfl, congrArg V.str ec, ?_, ?_⟩
    · rw [e48, SX.S_len, SX.S_len, sl]; simp; omega
    rw [e48, SX.S_cat]
    refine ⟨_, _, rfl, SX.int_S (allD (l := 48 :: l) ?_) (by simp) (by simp; omega), by rw [SX.S_len]; simp; omega, ?_⟩
    · intro d hm
      rcases List.mem_cons.mp hm
            with rfl | hm
      · decide
      · exact hd d hm
    refine ⟨_, rfl, _, rfl, _, rfl, by rw [SX.S_len]; omega, ?_⟩
    refine ⟨((l.length : Nat) : Int), ((l.length : Nat) : Int), 60, 0, ?_, ?_, ?_⟩
    · show [V.int ((((SX.S l).length : Nat) : Int) % 60), V.int (((SX.S l).length : Nat) : Int), V.int 60] = _
      rw [em, SX.S_len]
    · refine ⟨by decide, by decide, ?_, ?_⟩
      · exact small60 _ hl
      · unfold Builtin.Range.rangeSize
        rw [if_pos (by decide), if_neg (by omega)]
        rfl
    refine for_rangeC (n := 0) (fun _ σ H2 => σ = [some (.str (SX.S l)), some (.int ((((SX.S l).length : Nat) : Int) % 60)), some (.int ((NumText.digitsVal l : Nat) : Int)), none] ∧ H2 = H) ⟨rfl, rfl⟩ (fun i _ _ hi => absurd hi (Nat.not_lt_zero i)) ?_
    rintro σ H2 ⟨rfl, rfl⟩
    exact ⟨_, rfl, k⟩
def sp_is_digits (K : PySem.W.Frag) (c : Addr) : Sp := fun vs H Q _ => ∃ (x : Str), vs = [.str x] ∧ Q (.bl (Txt.isascii x && Txt.isdigit x)) H
theorem cal_is_digits (B : Bl mg) (DD : OwnDef K mg "is_digits" s_is_digits)   : Cal P w K mg base 1 "is_digits" (sp_is_digits K c) [] := by
  obtain ⟨f, fd, F, hm⟩ := DD.ex
  refine ⟨f, fd, ["text"], [], F.ok sc_is_digits (fun vs H Q E h => ?len) (fun cdv A outer s H vs Q E hr h => ?run), hm, F.kp, F.binds (fun _ _ _ _ _ _ us hl => match us, hl with | [_], _ => rfl), .nil⟩
  case len => first | (obtain ⟨_, rfl, _⟩ := h; rfl) | (obtain ⟨_, _, rfl, _⟩ := h; rfl) | (obtain ⟨_, _, _, rfl, _⟩ := h; rfl) | (obtain ⟨_, _, _, _, rfl, _⟩ := h; rfl) | (obtain ⟨_, _, _, _, _, rfl, _⟩ := h; rfl) | (obtain ⟨_, _, _, _, _, _, rfl, _⟩ := h; rfl) | (obtain ⟨_, _, _, _, _, _, _, rfl, _⟩ := h; rfl) | (obtain ⟨_, _, _, _, _, _, _, _, rfl, _⟩ := h; rfl) | (obtain ⟨_, _, _, _, _, _, _, _, _, rfl, _⟩ := h; rfl) | (obtain ⟨_, _, _, _, _, _, _, _, _, _, rfl, _⟩ := h; rfl) | (obtain ⟨_, _, _, _, _, _, _, _, _, _, _, rfl, _⟩ := h; rfl) | (obtain ⟨_, _, _, _, _, _, _, _, _, _, _, _, rfl, _⟩ := h; rfl) | (obtain ⟨_, _, _, _, _, _, _, _, _, _, _, _, _, rfl, _⟩ := h; rfl) | (obtain ⟨_, _, _, _, _, _, _, _, _, _, _, _, _, _, rfl, _⟩ := h; rfl)
  case run =>
    obtain ⟨x, rfl, k⟩ := h
    refine ⟨_, (pss_one (ps_ret (pe_and (pe_m0 PySem.F.slot_str_isascii PySem.F.type_str_isascii mt_isascii (pv 0)) (pe_one (pe_m0 PySem.F.slot_str_isdigit PySem.F.type_str_isdigit mt_isdigit (pv 0)))))), ?_⟩
    refine ⟨_, rfl, ⟨_, rfl⟩, x, rfl, rfl, trivial, _, rfl, ite2 (fun e => ?_) (fun e => ?_)⟩
    · rw [e, Bool.true_and] at k
      exact ⟨_, rfl, ⟨_, rfl⟩, x, rfl, rfl, trivial, k⟩
    · have e' : Txt.isascii x = false := by
        cases q : Txt.isascii x with
        | false => rfl
        | true => exact absurd q e
      rw [e', Bool.false_and] at k
      exact k
theorem numL_isdigit (n : Nat) : (Txt.isascii (SX.S (TL.numL n)) && Txt.isdigit (SX.S (TL.numL n))) = true := by
  have hd := TL.numL_digits n
  have hp : 0 < (TL.numL n).length := List.length_pos_iff.mpr (TL.numL_ne n)
  unfold Txt.isascii Txt.isdigit
  rw [Bool.and_eq_true,
        Bool.and_eq_true]
  refine ⟨?_, ?_, ?_⟩
  · rw [← Array.all_toList, List.all_eq_true]
    intro d hm
    have := hd d hm
    simp; omega
  · rw [SX.S_len]; exact decide_eq_true hp
  · rw [← Array.all_toList, List.all_eq_true]
    intro d hm
    have := hd d hm
    have h2 : ∀ d : Nat, d < 58 → 48 ≤ d → Unicode.isDigit d = true := by decide +kernel
    exact h2 d (by omega) this.1
/-- number_text(pair) -/
def sp_number_text (K : PySem.W.Frag) (c : Addr) : Sp := fun vs H Q _ => ∃ (v : V) (q : Int × Int), vs = [v] ∧ D K H v (encQ q) ∧ OkW q ∧ ∀ H', Same H H' → Q (.str (SX.S (qL q))) H'
theorem cal_number_text (B : Bl mg) (DD : OwnDef K mg "number_text" s_number_text) (C__int_text : Cal P w K mg base 1 "_int_text" (sp__int_text K c) [])  : Cal P w K mg base 2 "number_text" (sp_number_text K c) [] := by
  obtain ⟨f, fd, F, hm⟩ := DD.ex
  refine ⟨f, fd, ["pair"], [], F.ok sc_number_text (fun vs H Q E h => ?len) (fun cdv A outer s H vs Q E hr h => ?run), hm, F.kp, F.binds (fun _ _ _ _ _ _ us hl => match us, hl with | [_], _ => rfl), .nil⟩
  case len => first | (obtain ⟨_, rfl, _⟩ := h; rfl) | (obtain ⟨_, _, rfl, _⟩ := h; rfl) | (obtain ⟨_, _, _, rfl, _⟩ := h; rfl) | (obtain ⟨_, _, _, _, rfl, _⟩ := h; rfl) | (obtain ⟨_, _, _, _, _, rfl, _⟩ := h; rfl) | (obtain ⟨_, _, _, _, _, _, rfl, _⟩ := h; rfl) | (obtain ⟨_, _, _, _, _, _, _, rfl, _⟩ := h; rfl) | (obtain ⟨_, _, _, _, _, _, _, _, rfl, _⟩ := h; rfl) | (obtain ⟨_, _, _, _, _, _, _, _, _, rfl, _⟩ := h; rfl) | (obtain ⟨_, _, _, _, _, _, _, _, _, _, rfl, _⟩ := h; rfl) | (obtain ⟨_, _, _, _, _, _, _, _, _, _, _, rfl, _⟩ := h; rfl) | (obtain ⟨_, _, _, _, _, _, _, _, _, _, _, _, rfl, _⟩ := h; rfl) | (obtain ⟨_, _, _, _, _, _, _, _, _, _, _, _, _, rfl, _⟩ := h; rfl) | (obtain ⟨_, _, _, _, _, _, _, _, _, _, _, _, _, _, rfl, _⟩ := h; rfl)
  case run =>
    obtain ⟨v, q, rfl, hv, ok, k⟩ := h
    refine ⟨_, (pss_cons (ps_if (pt_cmpR op_eq (pe_ix ix_seq (pv 0) pe_int (fun _ _ => rfl)) pe_int (nomark _)) (pss_one (ps_ret (pe_c C__int_text hr (by decide) (by rfl) (pa_cons (pe_ix ix_seq (pv 0) pe_int (fun _ _ => rfl)) pa_nil)))) pss_nil)
      (pss_one (ps_ret (pe_joined (PJ.cons (pe_fmt (pe_c C__int_text hr (by decide) (by rfl) (pa_cons (pe_ix ix_seq (pv 0) pe_int (fun _ _ => rfl)) pa_nil))) (PJ.cons pe_str (PJ.cons (pe_fmt (pe_c C__int_text hr (by decide) (by rfl) (pa_cons (pe_ix ix_seq (pv 0) pe_int (fun _ _ => rfl)) pa_nil))) PJ.nil))))))), ?_⟩
    refine ⟨_, rfl, ix_di hv (by decide) rfl ?_⟩
    refine ⟨rfl, _, rfl, ite2 (fun e => ?_) (fun e => ?_)⟩
    · have e1 : q.2 = 1 := V.int.inj (of_decide_eq_true e)
      refine ⟨_, rfl, ix_di hv (by decide) rfl ?_⟩
      refine ⟨q.1, rfl, ok.a, ok.a2, fun H1 s1 => ?_⟩
      have z : qL q = TL.numL q.1.toNat := by unfold qL; rw [if_pos e1]
      rw [z] at k
      exact k _ s1
    · have e1 : ¬ q.2 = 1 := fun z => e (decide_eq_true (congrArg V.int z))
      have l1 := numL_50 ok.a ok.a2
      have l2 := numL_50 (Int.le_of_lt ok.b) ok.b2
      have sl : sizeLine = 16777216 := sizeLine_eq
      have c47 : ("/" : Str) = SX.S [47] := by decide +kernel
      have c0 : Str.empty = SX.S [] := by decide +kernel
      refine ⟨_, rfl, ix_di hv (by decide) rfl ?_⟩
      refine ⟨q.1, rfl, ok.a, ok.a2, fun H1 s1 => ?_⟩
      refine .inl ⟨_, rfl, by rw [SX.S_len]; omega, _, rfl, ?_, ?_⟩
      · rw [c0, SX.S_cat, SX.S_len, List.nil_append]; omega
      refine ⟨_, rfl, ?_, ?_⟩
      · rw [c0, c47, SX.S_cat, SX.S_cat, SX.S_len, sl]; simp; omega
      have hv1 := D.same s1 hv
      refine ⟨_, rfl, ix_di hv1 (by decide) rfl ?_⟩
      refine ⟨q.2, rfl, Int.le_of_lt ok.b, ok.b2, fun H2 s2 => ?_⟩
      refine .inl ⟨_, rfl, by rw [SX.S_len]; omega, _, rfl, ?_, ?_⟩
      · rw [c0, c47, SX.S_cat, SX.S_cat, SX.S_cat, SX.S_len, sl]; simp; omega
      have z : SX.S (qL q) = Str.empty ++ SX.S (TL.numL q.1.toNat) ++ ("/" : Str) ++ SX.S (TL.numL q.2.toNat) := by
        rw [c0, c47, SX.S_cat, SX.S_cat, SX.S_cat]
        unfold qL
        rw [if_neg e1]
        simp
      rw [z] at k
      exact k _ (s1.trans s2)
theorem qL_inj_parts (q : Int × Int) : (qParts q).length = if q.2 = 1 then 1 else 2 := by
  unfold qParts
  split <;> rfl
theorem iteT' {b : Bool} {A B : Prop} (e : b = true) (h : A) : if b = true then A else B := by rw [if_pos e]; exact h
/-- read_number(text), of the text of a number in lowest terms -/
def sp_read_number (K : PySem.W.Frag) (c : Addr) : Sp := fun vs H Q _ => ∃ (q : Int × Int), vs = [.str (SX.S (qL q))] ∧ OkW q ∧ lowQ q.1 q.2 = q ∧
  ∀ p H', Same H H' → H p = none → H' p = some (.tup [.int q.1, .int q.2]) → Q (.ref p) H'
theorem cal_read_number (B : Bl mg) (DD : OwnDef K mg "read_number" s_read_number) (C__read_int : Cal P w K mg base 1 "_read_int" (sp__read_int K c) []) (C_lowest : Cal P w K mg base 2 "lowest" (sp_lowest K c) []) (C_is_number : Cal P w K mg base 2 "is_number" (sp_is_number K c) []) (C_number_text : Cal P w K mg base 2 "number_text" (sp_number_text K c) []) (C_is_digits : Cal P w K mg base 1 "is_digits" (sp_is_digits K c) [])  : Cal P w K mg base 3 "read_number" (sp_read_number K c) [] := by
  obtain ⟨f, fd, F, hm⟩ := DD.ex
  refine ⟨f, fd, ["text"], [], F.ok sc_read_number (fun vs H Q E h => ?len) (fun cdv A outer s H vs Q E hr h => ?run), hm, F.kp, F.binds (fun _ _ _ _ _ _ us hl => match us, hl with | [_], _ => rfl), .nil⟩
  case len => first | (obtain ⟨_, rfl, _⟩ := h; rfl) | (obtain ⟨_, _, rfl, _⟩ := h; rfl) | (obtain ⟨_, _, _, rfl, _⟩ := h; rfl) | (obtain ⟨_, _, _, _, rfl, _⟩ := h; rfl) | (obtain ⟨_, _, _, _, _, rfl, _⟩ := h; rfl) | (obtain ⟨_, _, _, _, _, _, rfl, _⟩ := h; rfl) | (obtain ⟨_, _, _, _, _, _, _, rfl, _⟩ := h; rfl) | (obtain ⟨_, _, _, _, _, _, _, _, rfl, _⟩ := h; rfl) | (obtain ⟨_, _, _, _, _, _, _, _, _, rfl, _⟩ := h; rfl) | (obtain ⟨_, _, _, _, _, _, _, _, _, _, rfl, _⟩ := h; rfl) | (obtain ⟨_, _, _, _, _, _, _, _, _, _, _, rfl, _⟩ := h; rfl) | (obtain ⟨_, _, _, _, _, _, _, _, _, _, _, _, rfl, _⟩ := h; rfl) | (obtain ⟨_, _, _, _, _, _, _, _, _, _, _, _, _, rfl, _⟩ := h; rfl) | (obtain ⟨_, _, _, _, _, _, _, _, _, _, _, _, _, _, rfl, _⟩ := h; rfl)
  case run =>
    obtain ⟨q, rfl, ok, low, k⟩ := h
    refine ⟨_, (pss_cons (ps_set (i := 1) sc_read_number.nd rfl (Or.inl rfl) (pe_split (pv 0) pe_str))
      (pss_cons (ps_if (PW.pt (pw_or (pt_cmpR op_gt (pe_callB call_len_seq (by rfl) B.len (by decide +kernel) (pa_cons (pv 1) pa_nil)) pe_int (nomark _)) (pw_or1 (pt_not (pt_val (pe_callB (cr_all rfl) (by rfl) B.all (by decide +kernel) (pa_cons (pe_lc (own := [("part", 2)]) (by rfl) sc_read_number.nd (pi_list (pv 1)) (blkOk_by (own := [("part", 2)]) (N := ["text", "parts", "part", "number", "pair"]) (sc := defScope s_read_number) (by decide +kernel)) (fun _ _ _ _ _ => (pg_name (i := 2) sc_read_number.nd rfl (Or.inl rfl))) (fun _ _ _ _ _ => pts_nil) (fun _ _ _ _ _ => (pe_c C_is_digits hr (by decide) (by rfl) (pa_cons (pv 2) pa_nil)))) pa_nil))))))) (pss_one (ps_ret pe_non)) pss_nil)
      (pss_cons (ps_set (i := 3) sc_read_number.nd rfl (Or.inl rfl) (pe_c C__read_int hr (by decide) (by rfl) (pa_cons (pe_ix ix_seq (pv 1) pe_int (fun _ _ => rfl)) pa_nil)))
      (pss_cons (ps_if (pt_cmpR op_eq (pe_callB call_len_seq (by rfl) B.len (by decide +kernel) (pa_cons (pv 1) pa_nil)) pe_int (nomark _)) (pss_one (ps_set (i := 3) sc_read_number.nd rfl (Or.inl rfl) (pe_tup (pa_cons (pv 3) (pa_cons (pe_c C__read_int hr (by decide) (by rfl) (pa_cons (pe_ix ix_seq (pv 1) pe_int (fun _ _ => rfl)) pa_nil)) pa_nil))))) pss_nil)
      (pss_cons (ps_if (pt_not (pt_val (pe_c C_is_number hr (by decide) (by rfl) (pa_cons (pv 3) pa_nil)))) (pss_one (ps_ret pe_non)) pss_nil)
      (pss_cons (ps_set (i := 4) sc_read_number.nd rfl (Or.inl rfl) (pe_c C_lowest hr (by decide) (by rfl) (pa_cons (pv 3) pa_nil)))
      (pss_one (ps_ret (pe_ifExp (pt_cmpR op_eq (pe_c C_number_text hr (by decide) (by rfl) (pa_cons (pv 4) pa_nil)) (pv 0) (nomark _)) (pv 4) pe_non))))))))), ?_⟩
    have ql := qL_len ok
    have sl : sizeLine = 16777216 := sizeLine_eq
    have c47 : ("/" : Str) = SX.S [47] := by decide +kernel
    refine ⟨_, rfl, ⟨_, rfl⟩, _, _, rfl, rfl, by decide +kernel, by rw [SX.S_len]; omega, fun l nl => ?_⟩
    have es : Txt.split (SX.S (qL q)) ("/" : Str) = (qParts q).map SX.S := by rw [c47]; exact qSplit q
    rw [es]
    have hS : SqL K (upd H l (.lst (((qParts q).map SX.S).map V.str))) l (((qParts q).map SX.S).map V.str) := .inl (.inl upd_same)
    have s1 : Same H (upd H l (.lst (((qParts q).map SX.S).map V.str))) := same_new nl
    -- if len(parts) > 2 or not all(..)
    refine ⟨_, rfl, l, _, rfl, .inl hS, _, _, rfl, rfl, _, rfl, ite2 (fun e => ?_) (fun _ => ?_)⟩
    · have e1 : (2 : Int) < ((((qParts q).map SX.S).map V.str).length : Nat) := of_decide_eq_true e
      rw [List.length_map, List.length_map, qL_inj_parts] at e1
      split at e1 <;> omega
    -- all([is_digits(part) for part in parts])
    refine ⟨_, rfl, l, rfl, ⟨_, hS⟩, fun D0 nD => ?_⟩
    refine lc_list (K := K) (a := l) (xs := ((qParts q).map SX.S).map V.str) (fun i H2 => Same (upd H l (.lst (((qParts q).map SX.S).map V.str))) H2 ∧ H2 D0 = some (.lst (List.replicate i (V.bl true)))) ⟨same_new nD, upd_same⟩ (fun i H2 _ ⟨s2, _⟩ => s2.seq hS) ?_ ?_
    · rintro i y H2 hi ⟨s2, eD⟩
      obtain ⟨x, hx, rfl⟩ := some_map hi
      obtain ⟨m, hm', rfl⟩ := some_map hx
      have hil : i < (qParts q).length := (List.getElem?_eq_some_iff.mp hm').1
      have hdig : (Txt.isascii (SX.S m) && Txt.isdigit (SX.S m)) = true := by
        have mem : m ∈ qParts q := List.mem_of_getElem? hm'
        unfold qParts at mem
        split at mem
        · rw [List.mem_singleton] at mem; subst mem; exact numL_isdigit _
        · rcases List.mem_cons.mp mem with rfl | mem
          · exact numL_isdigit _
          · rw [List.mem_singleton] at mem; subst mem; exact numL_isdigit _
      refine ⟨rfl, _, rfl, _, rfl, ?_⟩
      rw [hdig]
      refine ⟨_, eD, by rw [List.length_replicate]; rw [qL_inj_parts] at hil; split at hil <;> omega, fun b o e => ?_, ?_⟩
      · rw [upd_ne (ne_of_none e nD)]
        exact s2 _ _ e
      · rw [upd_same, List.replicate_succ']
    rintro H2 ⟨s2, eD⟩
    refine ⟨D0, List.replicate _ true, rfl, .inl (.inl (by rw [List.map_replicate]; exact eD)), _, rfl, ?_⟩
    rw [show (List.replicate (((qParts q).map SX.S).map V.str).length true).all id = true from by simp]
    have hS2 := s2.seq hS
    have s02 : Same H H2 := s1.trans s2
    -- number = _read_int(parts[0])
    have e0 : (((qParts q).map SX.S).map V.str)[0]? = some (V.str (SX.S (TL.numL q.1.toNat))) := by
      unfold qParts
      split <;> rfl
    refine ⟨_, rfl, rd_raw hS2 (by decide) e0 ?_⟩
    have l1 := numL_50 ok.a ok.a2
    have l2 := numL_50 (Int.le_of_lt ok.b) ok.b2
    refine ⟨_, rfl, TL.numL_digits _, by omega, ?_⟩
    rw [TL.numL_val, show ((q.1.toNat : Nat) : Int) = q.1 by have := ok.a; omega]
    have okb : q.2.natAbs < 2 ^ 8000 := Nat.lt_trans (show q.2.natAbs < 2 ^ 200 by have := ok.b; have := ok.b2; omega) (by decide +kernel)
    dsimp only [tSeq, tAsg, gName]
    refine viaIf (fun σ' H3 => ∃ (v : V) (d : PyData), σ' = [some (.str (SX.S (qL q))), some (.ref l), none, some v, none] ∧ Same H H3 ∧ LW.D K H3 v d ∧ isNumD d = true ∧ lowD d = q ∧ (∀ a b, d = encQ (a, b) → b.natAbs < 2 ^ 8000)) (fun D' go => ?_) ?_
    · refine ⟨_, rfl, l, _, rfl, .inl hS2, rfl, _, rfl, ite2 (fun e => ?_) (fun e => ?_)⟩
      · have e1 : (((((qParts q).map SX.S).map V.str).length : Nat) : Int) = 2 := V.int.inj (of_decide_eq_true e)
        rw [List.length_map, List.length_map, qL_inj_parts] at e1
        have q2 : ¬ q.2 = 1 := fun z => by rw [if_pos z] at e1; omega
        have e1' : (((qParts q).map SX.S).map V.str)[1]? = some (V.str (SX.S (TL.numL q.2.toNat))) := by
          unfold qParts
          rw [if_neg q2]
          rfl
        refine ⟨_, rfl, _, rfl, rd_raw hS2 (by decide) e1' ?_⟩
        refine ⟨_, rfl, TL.numL_digits _, by omega, ?_⟩
        rw [TL.numL_val, show ((q.2.toNat : Nat) : Int) = q.2 by have := ok.b; omega]
        refine ⟨by show 2 ≤ sizeLine; decide, fun p np => go _ _ ⟨.ref p, encQ q, rfl, s02.trans (same_new np), ?_, enc_num ok.b, low, ?_⟩⟩
        · exact .tup' (.inl (.inl upd_same)) (DAll.cons (.int _) (DAll.cons (.int _) DAll.nil))
        · intro a b z
          have z1 : PyData.tuple [.int q.1, .int q.2] = PyData.tuple [.int a, .int b] := z
          injection z1 with z1
          injection z1 with _ z1
          injection z1 with z1
          injection z1 with z1
          rw [← z1]
          exact okb
      · have q2 : q.2 = 1 := by
          by_cases z : q.2 = 1
          · exact z
          · refine absurd (decide_eq_true (congrArg V.int ?_)) e
            rw [List.length_map, List.length_map, qL_inj_parts, if_neg z]
            rfl
        refine go _ _ ⟨.int q.1, .int q.1, rfl, s02, .int _, rfl, ?_, fun a b z => by cases z⟩
        show (q.1, (1 : Int)) = q
        rw [← q2]
    rintro σ H3 ⟨v, d, rfl, s3, hv, hn, hlow, hsz⟩
    refine ⟨_, rfl, v, d, rfl, hv, _, rfl, ?_⟩
    rw [hn]
    refine ⟨_, rfl, v, d, rfl, hv, hn, hsz, fun p H4 s4 np ep => ?_⟩
    rw [hlow] at ep
    have hq : LW.D K H4 (.ref p) (encQ q) := .tup' (.inl (.inl ep)) (DAll.cons (.int _) (DAll.cons (.int _) DAll.nil))
    refine ⟨_, rfl, .ref p, q, rfl, hq, ok, fun H5 s5 => ?_⟩
    refine ⟨_, rfl, rfl, _, rfl, iteT' (decide_eq_true rfl) ?_⟩
    exact ⟨_, rfl, k p H5 (s3.trans (s4.trans s5)) (s3.free np) (s5 _ _ ep)⟩
end

/-! ### the program: rules -/
def ltQ (p q : Int × Int) : Prop := p.1 * q.2 < q.1 * p.2
instance (p q : Int × Int) : Decidable (ltQ p q) := inferInstanceAs (Decidable (_ < _))
def plainQ (o : Int × Int) (n : Int) : Int × Int := (o.1 + n * o.2, o.2)
theorem D_Q {K : PySem.W.Frag} {H : Hp} {p : Addr} {q : Int × Int} (e : H p = some (.tup [.int q.1, .int q.2])) : D K H (.ref p) (encQ q) := .tup' (.inl (.inl e)) (DAll.cons (.int _) (DAll.cons (.int _) DAll.nil))
theorem Is_Q {K : PySem.W.Frag} {A : List Addr} {H : Hp} {p : Addr} {q : Int × Int} (hp : p ∉ A) (e : H p = some (.tup [.int q.1, .int q.2])) : Is K A H (.ref p) (encQ q) := D_Q (by rw [hv_out hp]; exact e)
section
variable {P : Program} {w : World} {K : PySem.W.Frag} {mg : Str → Option Value} {base : Heap} {c : Addr}
def sp_is_less (K : PySem.W.Frag) (c : Addr) : Sp := fun vs H Q _ => ∃ (v u : V) (p q : Int × Int), vs = [v, u] ∧ D K H v (encQ p) ∧ D K H u (encQ q) ∧ smallQ p ∧ smallQ q ∧ Q (.bl (decide (ltQ p q))) H
theorem cal_is_less (B : Bl mg) (DD : OwnDef K mg "is_less" s_is_less)   : Cal P w K mg base 1 "is_less" (sp_is_less K c) [] := by
  obtain ⟨f, fd, F, hm⟩ := DD.ex
  refine ⟨f, fd, ["pair", "other_pair"], [], F.ok sc_is_less (fun vs H Q E h => ?len) (fun cdv A outer s H vs Q E hr h => ?run), hm, F.kp, F.binds (fun _ _ _ _ _ _ us hl => match us, hl with | [_, _], _ => rfl), .nil⟩
  case len => first | (obtain ⟨_, rfl, _⟩ := h; rfl) | (obtain ⟨_, _, rfl, _⟩ := h; rfl) | (obtain ⟨_, _, _, rfl, _⟩ := h; rfl) | (obtain ⟨_, _, _, _, rfl, _⟩ := h; rfl) | (obtain ⟨_, _, _, _, _, rfl, _⟩ := h; rfl) | (obtain ⟨_, _, _, _, _, _, rfl, _⟩ := h; rfl) | (obtain ⟨_, _, _, _, _, _, _, rfl, _⟩ := h; rfl) | (obtain ⟨_, _, _, _, _, _, _, _, rfl, _⟩ := h; rfl) | (obtain ⟨_, _, _, _, _, _, _, _, _, rfl, _⟩ := h; rfl) | (obtain ⟨_, _, _, _, _, _, _, _, _, _, rfl, _⟩ := h; rfl) | (obtain ⟨_, _, _, _, _, _, _, _, _, _, _, rfl, _⟩ := h; rfl) | (obtain ⟨_, _, _, _, _, _, _, _, _, _, _, _, rfl, _⟩ := h; rfl) | (obtain ⟨_, _, _, _, _, _, _, _, _, _, _, _, _, rfl, _⟩ := h; rfl) | (obtain ⟨_, _, _, _, _, _, _, _, _, _, _, _, _, _, rfl, _⟩ := h; rfl)
  case run =>
    obtain ⟨v, u, p, q, rfl, hv, hu, sp, sq, k⟩ := h
    refine ⟨_, (pss_one (ps_ret (pe_cmpR op_lt (pe_op op_mulW (pe_ix ix_seq (pv 0) pe_int (fun _ _ => rfl)) (pe_ix ix_seq (pv 1) pe_int (fun _ _ => rfl))) (pe_op op_mulW (pe_ix ix_seq (pv 1) pe_int (fun _ _ => rfl)) (pe_ix ix_seq (pv 0) pe_int (fun _ _ => rfl))) (nomark _)))), ?_⟩
    refine ⟨_, rfl, ix_di hv (by decide) rfl ?_⟩
    refine ⟨_, rfl, ix_di hu (by decide) rfl ?_⟩
    refine ⟨_, _, rfl, rfl, wide_mul sp.1 sq.2 (by decide) (by decide) (by decide), _, rfl, ix_di hu (by decide) rfl ?_⟩
    refine ⟨_, rfl, ix_di hv (by decide) rfl ?_⟩
    exact ⟨_, _, rfl, rfl, wide_mul sq.1 sp.2 (by decide) (by decide) (by decide), _, _, rfl, rfl, k⟩
def sp__plain_mark (K : PySem.W.Frag) (c : Addr) : Sp := fun vs H Q _ => ∃ (v : V) (o : Int × Int) (n : Int), vs = [v, .int n] ∧ D K H v (encQ o) ∧ n.natAbs < 2 ^ 8000 ∧ o.2.natAbs < 2 ^ 8000 ∧
  ∀ p, H p = none → Q (.ref p) (upd H p (.tup [.int (plainQ o n).1, .int (plainQ o n).2]))
theorem cal__plain_mark (B : Bl mg) (DD : OwnDef K mg "_plain_mark" s__plain_mark)   : Cal P w K mg base 1 "_plain_mark" (sp__plain_mark K c) [] := by
  obtain ⟨f, fd, F, hm⟩ := DD.ex
  refine ⟨f, fd, ["offset", "number"], [], F.ok sc__plain_mark (fun vs H Q E h => ?len) (fun cdv A outer s H vs Q E hr h => ?run), hm, F.kp, F.binds (fun _ _ _ _ _ _ us hl => match us, hl with | [_, _], _ => rfl), .nil⟩
  case len => first | (obtain ⟨_, rfl, _⟩ := h; rfl) | (obtain ⟨_, _, rfl, _⟩ := h; rfl) | (obtain ⟨_, _, _, rfl, _⟩ := h; rfl) | (obtain ⟨_, _, _, _, rfl, _⟩ := h; rfl) | (obtain ⟨_, _, _, _, _, rfl, _⟩ := h; rfl) | (obtain ⟨_, _, _, _, _, _, rfl, _⟩ := h; rfl) | (obtain ⟨_, _, _, _, _, _, _, rfl, _⟩ := h; rfl) | (obtain ⟨_, _, _, _, _, _, _, _, rfl, _⟩ := h; rfl) | (obtain ⟨_, _, _, _, _, _, _, _, _, rfl, _⟩ := h; rfl) | (obtain ⟨_, _, _, _, _, _, _, _, _, _, rfl, _⟩ := h; rfl) | (obtain ⟨_, _, _, _, _, _, _, _, _, _, _, rfl, _⟩ := h; rfl) | (obtain ⟨_, _, _, _, _, _, _, _, _, _, _, _, rfl, _⟩ := h; rfl) | (obtain ⟨_, _, _, _, _, _, _, _, _, _, _, _, _, rfl, _⟩ := h; rfl) | (obtain ⟨_, _, _, _, _, _, _, _, _, _, _, _, _, _, rfl, _⟩ := h; rfl)
  case run =>
    obtain ⟨v, o, n, rfl, hv, sn, so, k⟩ := h
    refine ⟨_, (pss_one (ps_ret (pe_tup (pa_cons (pe_op op_add (pe_ix ix_seq (pv 0) pe_int (fun _ _ => rfl)) (pe_op op_mulW (pv 1) (pe_ix ix_seq (pv 0) pe_int (fun _ _ => rfl)))) (pa_cons (pe_ix ix_seq (pv 0) pe_int (fun _ _ => rfl)) pa_nil))))), ?_⟩
    refine ⟨_, rfl, ix_di hv (by decide) rfl ?_⟩
    refine ⟨_, rfl, _, rfl, ix_di hv (by decide) rfl ?_⟩
    refine ⟨_, _, rfl, rfl, wide_mul sn so (by decide) (by decide) (by decide), _, _, rfl, rfl, _, rfl, ix_di hv (by decide) rfl ?_⟩
    exact ⟨by show 2 ≤ sizeLine; decide, fun p np => k p np⟩
def isCountD : PyData → Bool
  | .int i => decide (i ≥ 0)
  | _ => false
def sp_is_count (K : PySem.W.Frag) (c : Addr) : Sp := fun vs H Q _ => ∃ (v : V) (d : PyData), vs = [v] ∧ D K H v d ∧ Q (.bl (isCountD d)) H
theorem cal_is_count (B : Bl mg) (DD : OwnDef K mg "is_count" s_is_count) (C_is_int : Cal P w K mg base 1 "is_int" (sp_is_int K c) [])  : Cal P w K mg base 2 "is_count" (sp_is_count K c) [] := by
  obtain ⟨f, fd, F, hm⟩ := DD.ex
  refine ⟨f, fd, ["value"], [], F.ok sc_is_count (fun vs H Q E h => ?len) (fun cdv A outer s H vs Q E hr h => ?run), hm, F.kp, F.binds (fun _ _ _ _ _ _ us hl => match us, hl with | [_], _ => rfl), .nil⟩
  case len => first | (obtain ⟨_, rfl, _⟩ := h; rfl) | (obtain ⟨_, _, rfl, _⟩ := h; rfl) | (obtain ⟨_, _, _, rfl, _⟩ := h; rfl) | (obtain ⟨_, _, _, _, rfl, _⟩ := h; rfl) | (obtain ⟨_, _, _, _, _, rfl, _⟩ := h; rfl) | (obtain ⟨_, _, _, _, _, _, rfl, _⟩ := h; rfl) | (obtain ⟨_, _, _, _, _, _, _, rfl, _⟩ := h; rfl) | (obtain ⟨_, _, _, _, _, _, _, _, rfl, _⟩ := h; rfl) | (obtain ⟨_, _, _, _, _, _, _, _, _, rfl, _⟩ := h; rfl) | (obtain ⟨_, _, _, _, _, _, _, _, _, _, rfl, _⟩ := h; rfl) | (obtain ⟨_, _, _, _, _, _, _, _, _, _, _, rfl, _⟩ := h; rfl) | (obtain ⟨_, _, _, _, _, _, _, _, _, _, _, _, rfl, _⟩ := h; rfl) | (obtain ⟨_, _, _, _, _, _, _, _, _, _, _, _, _, rfl, _⟩ := h; rfl) | (obtain ⟨_, _, _, _, _, _, _, _, _, _, _, _, _, _, rfl, _⟩ := h; rfl)
  case run =>
    obtain ⟨v, d, rfl, hv, k⟩ := h
    refine ⟨_, (pss_one (ps_ret (pe_and (pe_c C_is_int hr (by decide) (by rfl) (pa_cons (pv 0) pa_nil)) (pe_one (pe_cmpR op_ge (pv 0) pe_int (nomark _)))))), ?_⟩
    refine ⟨_, rfl, v, d, rfl, hv, _, rfl, ?_⟩
    cases d with
    | int i =>
      obtain rfl := hv.int_eq
      exact ⟨_, rfl, _, _, rfl, rfl, k⟩
    | _ => exact k
def isOffD (d : PyData) : Bool := isNumD d && (decide (0 ≤ (lowD d).1) && decide ((lowD d).1 ≤ (lowD d).2))
def sp__is_offset (K : PySem.W.Frag) (c : Addr) : Sp := fun vs H Q _ => ∃ (v : V) (d : PyData), vs = [v] ∧ D K H v d ∧ (∀ a b, d = encQ (a, b) → b.natAbs < 2 ^ 8000) ∧ ∀ H', Same H H' → Q (.bl (isOffD d)) H'
theorem cal__is_offset (B : Bl mg) (DD : OwnDef K mg "_is_offset" s__is_offset) (C_lowest : Cal P w K mg base 2 "lowest" (sp_lowest K c) []) (C_is_number : Cal P w K mg base 2 "is_number" (sp_is_number K c) [])  : Cal P w K mg base 3 "_is_offset" (sp__is_offset K c) [] := by
  obtain ⟨f, fd, F, hm⟩ := DD.ex
  refine ⟨f, fd, ["value"], [], F.ok sc__is_offset (fun vs H Q E h => ?len) (fun cdv A outer s H vs Q E hr h => ?run), hm, F.kp, F.binds (fun _ _ _ _ _ _ us hl => match us, hl with | [_], _ => rfl), .nil⟩
  case len => first | (obtain ⟨_, rfl, _⟩ := h; rfl) | (obtain ⟨_, _, rfl, _⟩ := h; rfl) | (obtain ⟨_, _, _, rfl, _⟩ := h; rfl) | (obtain ⟨_, _, _, _, rfl, _⟩ := h; rfl) | (obtain ⟨_, _, _, _, _, rfl, _⟩ := h; rfl) | (obtain ⟨_, _, _, _, _, _, rfl, _⟩ := h; rfl) | (obtain ⟨_, _, _, _, _, _, _, rfl, _⟩ := h; rfl) | (obtain ⟨_, _, _, _, _, _, _, _, rfl, _⟩ := h; rfl) | (obtain ⟨_, _, _, _, _, _, _, _, _, rfl, _⟩ := h; rfl) | (obtain ⟨_, _, _, _, _, _, _, _, _, _, rfl, _⟩ := h; rfl) | (obtain ⟨_, _, _, _, _, _, _, _, _, _, _, rfl, _⟩ := h; rfl) | (obtain ⟨_, _, _, _, _, _, _, _, _, _, _, _, rfl, _⟩ := h; rfl) | (obtain ⟨_, _, _, _, _, _, _, _, _, _, _, _, _, rfl, _⟩ := h; rfl) | (obtain ⟨_, _, _, _, _, _, _, _, _, _, _, _, _, _, rfl, _⟩ := h; rfl)
  case run =>
    obtain ⟨v, d, rfl, hv, hsz, k⟩ := h
    refine ⟨_, (pss_cons (ps_if (pt_not (pt_val (pe_c C_is_number hr (by decide) (by rfl) (pa_cons (pv 0) pa_nil)))) (pss_one (ps_ret pe_bl)) pss_nil)
      (pss_cons (ps_asg (pe_c C_lowest hr (by decide) (by rfl) (pa_cons (pv 0) pa_nil)) (pg_tup (by rfl) (pgs_cons (pg_name (i := 1) sc__is_offset.nd rfl (Or.inl rfl)) (pgs_cons (pg_name (i := 2) sc__is_offset.nd rfl (Or.inl rfl)) pgs_nil))))
      (pss_one (ps_ret (pe_chain op_le op_le pe_int (pv 1) (pv 2)))))), ?_⟩
    refine ⟨_, rfl, v, d, rfl, hv, _, rfl, ?_⟩
    cases hn : isNumD d with
    | false =>
      have z : isOffD d = false := by unfold isOffD; rw [hn]; rfl
      rw [z] at k
      exact k _ (Same.refl H)
    | true =>
      have z : isOffD d = (decide (0 ≤ (lowD d).1) && decide ((lowD d).1 ≤ (lowD d).2)) := by unfold isOffD; rw [hn]; rfl
      rw [z] at k
      refine ⟨_, rfl, v, d, rfl, hv, hn, hsz, fun p H1 s1 np ep => ?_⟩
      refine ⟨p, _, rfl, .inl (.inl ep), rfl, .int (lowD d).1, [.int (lowD d).2], rfl, .int (lowD d).2, [], rfl, rfl, ?_⟩
      refine ⟨_, rfl, _, _, rfl, rfl, _, rfl, ite2 (fun e => ?_) (fun e => ?_)⟩
      · rw [e, Bool.true_and] at k
        exact ⟨_, rfl, _, _, rfl, rfl, k _ s1⟩
      · have e' : decide (0 ≤ (lowD d).1) = false := by
          cases q : decide (0 ≤ (lowD d).1) with
          | false => rfl
          | true => exact absurd q e
        rw [e', Bool.false_and] at k
        exact k _ s1
/-- _is_next_mark(element, marks), marks the list at l -/
def nextD (d : PyData) (ms : List (Int × Int)) : Bool := isNumD d && (match ms.getLast? with | some m => decide (ltQ m (lowD d)) | none => decide (0 ≤ (lowD d).1))
def sp__is_next_mark (K : PySem.W.Frag) (c : Addr) : Sp := fun vs H Q _ => ∃ (v : V) (d : PyData) (l : Addr) (ms : List (Int × Int)), vs = [v, .ref l] ∧ D K H v d ∧ D K H (.ref l) (.list (ms.map encQ)) ∧ (∀ a b, d = encQ (a, b) → b.natAbs < 2 ^ 8000) ∧
  (∀ m ∈ ms, smallQ m) ∧ (isNumD d = true → smallQ (lowD d)) ∧ ∀ H', Same H H' → Q (.bl (nextD d ms)) H'
theorem cal__is_next_mark (B : Bl mg) (DD : OwnDef K mg "_is_next_mark" s__is_next_mark) (C_lowest : Cal P w K mg base 2 "lowest" (sp_lowest K c) []) (C_is_number : Cal P w K mg base 2 "is_number" (sp_is_number K c) []) (C_is_less : Cal P w K mg base 1 "is_less" (sp_is_less K c) [])  : Cal P w K mg base 3 "_is_next_mark" (sp__is_next_mark K c) [] := by
  obtain ⟨f, fd, F, hm⟩ := DD.ex
  refine ⟨f, fd, ["element", "marks"], [], F.ok sc__is_next_mark (fun vs H Q E h => ?len) (fun cdv A outer s H vs Q E hr h => ?run), hm, F.kp, F.binds (fun _ _ _ _ _ _ us hl => match us, hl with | [_, _], _ => rfl), .nil⟩
  case len => first | (obtain ⟨_, rfl, _⟩ := h; rfl) | (obtain ⟨_, _, rfl, _⟩ := h; rfl) | (obtain ⟨_, _, _, rfl, _⟩ := h; rfl) | (obtain ⟨_, _, _, _, rfl, _⟩ := h; rfl) | (obtain ⟨_, _, _, _, _, rfl, _⟩ := h; rfl) | (obtain ⟨_, _, _, _, _, _, rfl, _⟩ := h; rfl) | (obtain ⟨_, _, _, _, _, _, _, rfl, _⟩ := h; rfl) | (obtain ⟨_, _, _, _, _, _, _, _, rfl, _⟩ := h; rfl) | (obtain ⟨_, _, _, _, _, _, _, _, _, rfl, _⟩ := h; rfl) | (obtain ⟨_, _, _, _, _, _, _, _, _, _, rfl, _⟩ := h; rfl) | (obtain ⟨_, _, _, _, _, _, _, _, _, _, _, rfl, _⟩ := h; rfl) | (obtain ⟨_, _, _, _, _, _, _, _, _, _, _, _, rfl, _⟩ := h; rfl) | (obtain ⟨_, _, _, _, _, _, _, _, _, _, _, _, _, rfl, _⟩ := h; rfl) | (obtain ⟨_, _, _, _, _, _, _, _, _, _, _, _, _, _, rfl, _⟩ := h; rfl)
  case run =>
    obtain ⟨v, d, l, ms, rfl, hv, hl, hsz, sm, sd, k⟩ := h
    refine ⟨_, (pss_cons (ps_if (pt_not (pt_val (pe_c C_is_number hr (by decide) (by rfl) (pa_cons (pv 0) pa_nil)))) (pss_one (ps_ret pe_bl)) pss_nil)
      (pss_cons (ps_set (i := 2) sc__is_next_mark.nd rfl (Or.inl rfl) (pe_c C_lowest hr (by decide) (by rfl) (pa_cons (pv 0) pa_nil)))
      (pss_one (ps_ret (pe_ifExp (pt_truth (pv 1) (by intro _; rfl)) (pe_c C_is_less hr (by decide) (by rfl) (pa_cons (pe_ix ix_seq (pv 1) (pe_un un_neg pe_int) (fun _ _ => rfl)) (pa_cons (pv 2) pa_nil))) (pe_cmpR op_ge (pe_ix ix_seq (pv 2) pe_int (fun _ _ => rfl)) pe_int (nomark _))))))), ?_⟩
    refine ⟨_, rfl, v, d, rfl, hv, _, rfl, ?_⟩
    cases hn : isNumD d with
    | false =>
      have z : nextD d ms = false := by unfold nextD; rw [hn]; rfl
      rw [z] at k
      exact k _ (Same.refl H)
    | true =>
      refine ⟨_, rfl, v, d, rfl, hv, hn, hsz, fun p H1 s1 np ep => ?_⟩
      have hl1 := D.same s1 hl
      obtain ⟨l', ws, el, sq, all⟩ := hl1.list
      cases el
      refine ⟨_, rfl, !ws.isEmpty, .inl ⟨ws, sq, rfl⟩, ?_⟩
      have wl : ws.length = ms.length := by rw [all.len, List.length_map]
      cases hg : ms.getLast? with
      | none =>
        have e0 : ms = [] := List.getLast?_eq_none_iff.mp hg
        subst e0
        have ew : ws = [] := List.length_eq_zero_iff.mp wl
        subst ew
        have z : nextD d [] = decide (0 ≤ (lowD d).1) := by unfold nextD; rw [hn]; rfl
        rw [z] at k
        refine ⟨_, rfl, ix_di (D_Q ep) (by decide) rfl ?_⟩
        exact ⟨_, _, rfl, rfl, k _ s1⟩
      | some m =>
        have z : nextD d ms = decide (ltQ m (lowD d)) := by unfold nextD; rw [hn, hg]; rfl
        rw [z] at k
        have hm1 : m ∈ ms := List.mem_of_getLast? hg
        have hpos : 0 < ws.length := by rw [wl]; exact List.length_pos_iff.mpr (List.ne_nil_of_mem hm1)
        have hne : ws ≠ [] := List.length_pos_iff.mp hpos
        have hb : (!ws.isEmpty) = true := by
          cases ws with
          | nil => exact absurd rfl hne
          | cons _ _ => rfl
        rw [hb]
        have em : (ms.map encQ)[ws.length - 1]? = some (encQ m) := by
          rw [wl, List.getElem?_map, ← List.getLast?_eq_getElem?, hg]
          rfl
        obtain ⟨u, eu, hu⟩ := all.get em
        have ea : atI ws (-1) = some u := by
          have hz : ws = ws.dropLast ++ [ws.getLast hne] := (List.dropLast_concat_getLast hne).symm
          have e2 : ws.getLast hne = u := by
            rw [← List.getLast?_eq_getElem?, List.getLast?_eq_getLast hne] at eu
            exact Option.some.inj eu
          rw [hz, e2]
          exact atI_last _ _
        refine ⟨_, rfl, _, rfl, .inl ⟨l, ws, -1, u, rfl, rfl, sq, ea, ?_⟩⟩
        exact ⟨_, rfl, u, .ref p, m, lowD d, rfl, hu, D_Q ep, sm m hm1, sd hn, k _ s1⟩
end

theorem small200' {q : Int × Int} (h : q.1.natAbs < 2 ^ 300) (h2 : q.2.natAbs < 2 ^ 300) : smallQ q := ⟨Nat.lt_trans h (by decide +kernel), Nat.lt_trans h2 (by decide +kernel)⟩
theorem plain_small {o : Int × Int} {n : Nat} (h : o.1.natAbs < 2 ^ 200 ∧ o.2.natAbs < 2 ^ 200) (hn : n ≤ 8) : (o.1 + ((n : Nat) : Int) * o.2).natAbs < 2 ^ 300 := by
  have h1 := h.1
  have h2 := h.2
  have : (((n : Nat) : Int) * o.2).natAbs ≤ 8 * o.2.natAbs := by
    rw [Int.natAbs_mul]
    exact Nat.mul_le_mul_right
          _ (by omega)
  omega
/-! ### the program: the class Rule -/
open StX
/-- what the head of a rule must be -/
structure VH (o : Int × Int) (ds : List PyData) : Prop where
  len : ds.length ≤ 8
  o2 : o.1.natAbs < 2 ^ 200 ∧ o.2.natAbs < 2 ^ 200
  num : ∀ d ∈ ds, isNumD d = true ∧ (∀ a b, d = encQ (a, b) → b.natAbs < 2 ^ 8000) ∧ (lowD d).1.natAbs < 2 ^ 200 ∧ (lowD d).2.natAbs < 2 ^ 200
  next : ∀ (i : Nat) (d : PyData), ds[i]? = some d → nextD d ((ds.take i).map lowD) = true
  last : ∀ m, (ds.map lowD).getLast? = some m → ltQ m (plainQ o ds.length)
theorem small200 {q : Int × Int} (h : q.1.natAbs < 2 ^ 200 ∧ q.2.natAbs < 2 ^ 200) : smallQ q := ⟨Nat.lt_trans h.1 (by decide +kernel), Nat.lt_trans h.2 (by decide +kernel)⟩
section
variable {P : Program} {w : World} {K : PySem.W.Frag} {mg : Str → Option Value} {base : Heap} {c : Addr}
def sp__lowest_head (K : PySem.W.Frag) (c : Addr) : Sp := fun vs H Q _ => ∃ (v u : V) (A : List Addr) (o : Int × Int) (ds : List PyData), vs = [v, u] ∧ Hd A H ∧ Is K A H v (encQ o) ∧ Is K A H u (.tuple ds) ∧ VH o ds ∧
  ∀ t H', Same H H' → Is K A H' t (.tuple ((ds.map lowD).map encQ)) → Q t H'
theorem cal__lowest_head (B : Bl mg) (DD : OwnDef K mg "_lowest_head" s__lowest_head) (C__is_next_mark : Cal P w K mg base 3 "_is_next_mark" (sp__is_next_mark K c) []) (C_lowest : Cal P w K mg base 2 "lowest" (sp_lowest K c) []) (C_is_less : Cal P w K mg base 1 "is_less" (sp_is_less K c) []) (C__plain_mark : Cal P w K mg base 1 "_plain_mark" (sp__plain_mark K c) []) (T : Tx K mg c) : Cal P w K mg base 4 "_lowest_head" (sp__lowest_head K c) [] := by
  obtain ⟨f, fd, F, hm⟩ := DD.ex
  refine ⟨f, fd, ["offset", "head"], [], F.ok sc__lowest_head (fun vs H Q E h => ?len) (fun cdv A outer s H vs Q E hr h => ?run), hm, F.kp, F.binds (fun _ _ _ _ _ _ us hl => match us, hl with | [_, _], _ => rfl), .nil⟩
  case len => first | (obtain ⟨_, rfl, _⟩ := h; rfl) | (obtain ⟨_, _, rfl, _⟩ := h; rfl) | (obtain ⟨_, _, _, rfl, _⟩ := h; rfl) | (obtain ⟨_, _, _, _, rfl, _⟩ := h; rfl) | (obtain ⟨_, _, _, _, _, rfl, _⟩ := h; rfl) | (obtain ⟨_, _, _, _, _, _, rfl, _⟩ := h; rfl) | (obtain ⟨_, _, _, _, _, _, _, rfl, _⟩ := h; rfl) | (obtain ⟨_, _, _, _, _, _, _, _, rfl, _⟩ := h; rfl) | (obtain ⟨_, _, _, _, _, _, _, _, _, rfl, _⟩ := h; rfl) | (obtain ⟨_, _, _, _, _, _, _, _, _, _, rfl, _⟩ := h; rfl) | (obtain ⟨_, _, _, _, _, _, _, _, _, _, _, rfl, _⟩ := h; rfl) | (obtain ⟨_, _, _, _, _, _, _, _, _, _, _, _, rfl, _⟩ := h; rfl) | (obtain ⟨_, _, _, _, _, _, _, _, _, _, _, _, _, rfl, _⟩ := h; rfl) | (obtain ⟨_, _, _, _, _, _, _, _, _, _, _, _, _, _, rfl, _⟩ := h; rfl)
  case run =>
    obtain ⟨v, u, A0, o, ds, rfl, hA, hv, hu, vh, k⟩ := h
    refine ⟨_, (pss_cons (ps_if (pt_cmpR op_gt (pe_callB call_len_seq (by rfl) B.len (by decide +kernel) (pa_cons (pv 1) pa_nil)) (pe_gint (by rfl) T.g_MOST_HEAD) (nomark _)) (pss_one ps_never) pss_nil)
      (pss_cons (ps_set (i := 2) sc__lowest_head.nd rfl (Or.inl rfl) (pe_lst pa_nil))
      (pss_cons (ps_for PassesOwn.never rfl (pi_enumT (by rfl) B.enumerate (pa_cons (pv 1) pa_nil)) (pg_tup (by rfl) (pgs_cons (pg_name (i := 3) sc__lowest_head.nd rfl (Or.inl rfl)) (pgs_cons (pg_name (i := 4) sc__lowest_head.nd rfl (Or.inl rfl)) pgs_nil))) (pss_cons (ps_if (pt_not (pt_val (pe_c C__is_next_mark hr (by decide) (by rfl) (pa_cons (pv 4) (pa_cons (pv 2) pa_nil))))) (pss_one ps_never) pss_nil)
      (pss_one (ps_expr (pe_bm PySem.F.plainAttrs_list PySem.F.slot_list_append PySem.F.type_list_append mt_append (pv 2) (pa_cons (pe_c C_lowest hr (by decide) (by rfl) (pa_cons (pv 4) pa_nil)) pa_nil))))))
      (pss_cons (ps_if (PW.pt (pw_and (pt_truth (pv 2) (by intro _; rfl)) (pw_and1 (pt_not (pt_val (pe_c C_is_less hr (by decide) (by rfl) (pa_cons (pe_ix ix_seq (pv 2) (pe_un un_neg pe_int) (fun _ _ => rfl)) (pa_cons (pe_c C__plain_mark hr (by decide) (by rfl) (pa_cons (pv 0) (pa_cons (pe_callB call_len_seq (by rfl) B.len (by decide +kernel) (pa_cons (pv 2) pa_nil)) pa_nil))) pa_nil)))))))) (pss_one ps_never) pss_nil)
      (pss_one (ps_ret (pe_callTy call_tuple_of (by rfl) B.tuple (by decide +kernel) (pa_cons (pv 2) pa_nil)))))))), ?_⟩
    obtain ⟨a, ws, rfl, sq, all⟩ := is_tup hu
    have sq0 := sqT_full sq
    have wl : ws.length = ds.length := all.len
    -- if len(head) > MOST_HEAD
    refine ⟨_, rfl, a, ws, rfl, .inr sq0, _, _, rfl, rfl, _, rfl, ite2 (fun e => ?_) (fun _ => ?_)⟩
    · have e1 : (8 : Int) < ((ws.length : Nat) : Int) := of_decide_eq_true e
      have := vh.len
      omega
    -- marks = []
    refine ⟨Nat.zero_le _, fun l nl => ?_⟩
    have s1 : Same H (upd H l (.lst [])) := same_new nl
    have lA : l ∉ A0 := hA.out nl
    -- the loop
    refine ⟨_, rfl, a, ws, rfl, seqT_same s1 sq0, for_enumT (K := K) (a := a) (xs := ws) (fun i σ H2 => ∃ (x3 x4 : Option V) (ms : List V), σ = [some v, some (.ref a), some (.ref l), x3, x4] ∧ Same H H2 ∧ H2 l = some (.lst ms) ∧ Iss K (l :: A0) H2 ms (((ds.take i).map lowD).map encQ))
      ⟨none, none, [], rfl, s1, upd_same, DAll.nil⟩ (fun i σ H2 _ ⟨_, _, _, _, s2, _⟩ => seqT_same s2 sq0) ?_ ?_⟩
    · rintro i x σ H2 T0 hx ⟨x3, x4, ms, rfl, s2, el, hms⟩ nT
      obtain ⟨d, hd, hxd⟩ := all.get' hx
      have hil : i < ds.length := (List.getElem?_eq_some_iff.mp hd).1
      have hdm : d ∈ ds := List.mem_of_getElem? hd
      obtain ⟨nu, nsz, nsm⟩ := vh.num d hdm
      refine ⟨T0, _, rfl, .inl (.inl upd_same), rfl, _, _, rfl, x, [], rfl, rfl, ?_⟩
      have s3 : Same H2 (upd H2 T0 (.tup [.int (i : Nat), x])) := same_new nT
      have el3 := s3 _ _ el
      have hx3 : D K (upd H2 T0 (.tup [.int (i : Nat), x])) x d := D.same (s2.trans s3) (D.same hv_le hxd)
      have hms3 : DAll K (upd H2 T0 (.tup [.int (i : Nat), x])) ms (((ds.take i).map lowD).map encQ) := DAll.same s3 hms.full
      refine ⟨_, rfl, _, rfl, x, d, l, (ds.take i).map lowD, rfl, hx3, .lst' (.inl (.inl el3)) hms3, nsz, ?_, fun _ => small200 nsm, fun H4 s4 => ⟨_, rfl, ?_⟩⟩
      · intro m hm
        obtain ⟨d', hd', rfl⟩ := List.mem_map.mp hm
        exact small200 (vh.num d' (List.mem_of_mem_take hd')).2.2
      rw [vh.next i d hd]
      have el4 := s4 _ _ el3
      refine ⟨_, rfl, .inl ⟨rfl, _, .inl (.inl el4)⟩, _, rfl, x, d, rfl, D.same s4 hx3, nu, nsz, fun p H5 s5 np ep => ?_⟩
      have el5 := s5 _ _ el4
      have npl : p ≠ l := fun z => by rw [z, el4] at np; cases np
      have sH5 : Same H H5 := s2.trans (s3.trans (s4.trans s5))
      have npA : p ∉ A0 := fun z => by
        have h1 : H p ≠ none := hA p z
        cases q : H p with
        | none => exact h1 q
        | some u =>
          have : H4 p = some u := s4 _ _ (s3 _ _ (s2 _ _ q))
          rw [this] at np
          cases np
      have msl : ms.length < sizeLine := by
        have e1 := hms.len
        rw [List.length_map, List.length_map, List.length_take] at e1
        have := vh.len
        exact small1000 (by omega)
      refine ⟨l, ms, _, rfl, rfl, el5, msl, ?_⟩
      refine ⟨some (.int (i : Nat)), some x, ms ++ [.ref p], rfl, fun b ob e => ?_, upd_same, ?_⟩
      · rw [upd_ne (ne_of_none e nl)]
        exact sH5 _ _ e
      · have g25 : Go (l :: A0) H2 (upd H5 l (.lst (ms ++ [.ref p]))) := (Go.of (s3.trans (s4.trans s5))).trans (Go.chg (by simp))
        have e2 : ((ds.take (i + 1)).map lowD).map encQ = ((ds.take i).map lowD).map encQ ++ [encQ (lowD d)] := by
          rw [List.take_add_one, hd]
          simp
        rw [e2]
        refine iss_app (Iss.mono g25 hms) (DAll.cons (Is_Q ?_ ?_) DAll.nil)
        · simp [npl, npA]
        · rw [upd_ne npl]
          exact ep
    · rintro σ H2 ⟨x3, x4, ms, rfl, s2, el, hms⟩
      rw [wl, List.take_length] at hms
      have ml : ms.length = ds.length := by rw [hms.len, List.length_map, List.length_map]
      -- what follows the if
      have fin : ∀ H3, Same H2 H3 → ∀ p, H3 p = none → Q (.ref p) (upd H3 p (.tup ms)) := fun H3 s3 p np => by
        have hd3 : Hd A0 H3 := (Go.of (s2.trans s3)).held hA
        refine k _ _ ((s2.trans s3).trans (same_new np)) ?_
        refine is_new_tup hd3 np (Iss.mono (Go.of s3) (Iss.less hms))
      refine ⟨_, rfl, !ms.isEmpty, .inl ⟨ms, .inl (.inl el), rfl⟩, ?_⟩
      cases hg : (ds.map lowD).getLast? with
      | none =>
        have e0 : ds = [] := by
          have := List.getLast?_eq_none_iff.mp hg
          exact List.map_eq_nil_iff.mp this
        have em : ms = [] := List.length_eq_zero_iff.mp (by rw [ml, e0]; rfl)
        subst em
        exact ⟨_, rfl, l, [], rfl, .inl ⟨.inl (.inl el), fun p np => fin H2 (Same.refl _) p np⟩⟩
      | some m =>
        have hpos : 0 < ms.length := by
          rw [ml]
          cases ds with
          | nil => simp at hg
          | cons _ _ => simp
        have hne : ms ≠ [] := List.length_pos_iff.mp hpos
        have hb : (!ms.isEmpty) = true := by
          cases ms with
          | nil => exact absurd rfl hne
          | cons _ _ => rfl
        rw [hb]
        have em : ((ds.map lowD).map encQ)[ms.length - 1]? = some (encQ m) := by
          have z : ms.length = (ds.map lowD).length := by rw [ml, List.length_map]
          rw [z, List.getElem?_map, ← List.getLast?_eq_getElem?, hg]
          rfl
        obtain ⟨y, ey, hy⟩ := iss_get hms em
        have ea : atI ms (-1) = some y := by
          have hz : ms = ms.dropLast ++ [ms.getLast hne] := (List.dropLast_concat_getLast hne).symm
          have e2 : ms.getLast hne = y := by
            rw [← List.getLast?_eq_getElem?, List.getLast?_eq_getLast hne] at ey
            exact Option.some.inj ey
          rw [hz, e2]
          exact atI_last _ _
        have hmm : m ∈ ds.map lowD := List.mem_of_getLast? hg
        obtain ⟨dm, hdm, rfl⟩ := List.mem_map.mp hmm
        have hlast := vh.last _ hg
        refine ⟨_, rfl, _, rfl, .inl ⟨l, ms, -1, y, rfl, rfl, .inl (.inl el), ea, ?_⟩⟩
        refine ⟨_, rfl, _, rfl, l, ms, rfl, .inl (.inl (.inl el)), v, o, ((ms.length : Nat) : Int), rfl, D.same s2 hv.full, ?_, Nat.lt_trans vh.o2.2 (by decide +kernel), fun p np => ?_⟩
        · have := vh.len
          exact Nat.lt_of_le_of_lt (show (((ms.length : Nat) : Int)).natAbs ≤ 8 by omega) (by decide +kernel)
        refine ⟨y, .ref p, lowD dm, plainQ o ((ms.length : Nat) : Int), rfl, D.same (same_new np) hy.full, D_Q upd_same, small200 (vh.num dm hdm).2.2, ?_, ?_⟩
        · have h1 := vh.o2
          have h2 := vh.len
          refine small200' ?_ ?_
          · show (o.1 + ((ms.length : Nat) : Int) * o.2).natAbs < 2 ^ 300
            have := plain_small (o := o) (n := ms.length) h1 (by omega)
            exact this
          · exact Nat.lt_trans h1.2 (by decide +kernel)
        rw [ml]
        rw [show decide (ltQ (lowD dm) (plainQ o ((ds.length : Nat) : Int))) = true from decide_eq_true hlast]
        refine ⟨_, rfl, ?_⟩
        exact ⟨_, rfl, l, ms, rfl, .inl ⟨.inl (.inl ((same_new np) _ _ el)), fun p' np' => fin _ (same_new np) p' np'⟩⟩
def markQ (o : Int × Int) (hd : List (Int × Int)) (n : Int) : Int × Int := if n < ((hd.length : Nat) : Int) then hd.getD n.toNat (0, 1) else plainQ o n
def sp_Rule_mark (K : PySem.W.Frag) (c : Addr) : Sp := fun vs H Q _ => ∃ (r dx : Addr) (fs : List (Str × V)) (v0 v1 : V) (A : List Addr) (o : Int × Int) (hd : List (Int × Int)) (n : Int), vs = [.ref r, .int n] ∧
  H r = some (.ins c dx fs) ∧ fs.lookup ("offset" : Str) = some v0 ∧ fs.lookup ("head" : Str) = some v1 ∧ Hd A H ∧ Is K A H v0 (encQ o) ∧ Is K A H v1 (.tuple (hd.map encQ)) ∧ 0 ≤ n ∧ n.natAbs < 2 ^ 8000 ∧ o.2.natAbs < 2 ^ 8000 ∧
  ∀ v H', Same H H' → Is K A H' v (encQ (markQ o hd n)) → Q v H'
theorem met_Rule_mark {f : Addr} {fd : FuncData} (B : Bl mg) (T : Tx K mg c) (F : Fun K "mark" "Rule.mark" s_Rule_mark f fd) (me : Meth K c "mark" f) (C__plain_mark : Cal P w K mg base 1 "_plain_mark" (sp__plain_mark K c) []) (C_is_count : Cal P w K mg base 2 "is_count" (sp_is_count K c) [])  : Met P w K mg base 3 c "mark" (sp_Rule_mark K c) ∧ FnOk P w K mg base CX0 3 f fd ["self", "number"] (sp_Rule_mark K c) := by
  refine (fun Ok => ⟨⟨f, fd, ["self", "number"], T.cl, me, Ok, F.binds (fun _ _ _ _ _ _ us hl => match us, hl with | [_, _], _ => rfl)⟩, Ok⟩) (F.ok sc_Rule_mark (fun vs H Q E h => ?len) (fun cdv A outer s H vs Q E hr h => ?run))
  case len => first | (obtain ⟨_, rfl, _⟩ := h; rfl) | (obtain ⟨_, _, rfl, _⟩ := h; rfl) | (obtain ⟨_, _, _, rfl, _⟩ := h; rfl) | (obtain ⟨_, _, _, _, rfl, _⟩ := h; rfl) | (obtain ⟨_, _, _, _, _, rfl, _⟩ := h; rfl) | (obtain ⟨_, _, _, _, _, _, rfl, _⟩ := h; rfl) | (obtain ⟨_, _, _, _, _, _, _, rfl, _⟩ := h; rfl) | (obtain ⟨_, _, _, _, _, _, _, _, rfl, _⟩ := h; rfl) | (obtain ⟨_, _, _, _, _, _, _, _, _, rfl, _⟩ := h; rfl) | (obtain ⟨_, _, _, _, _, _, _, _, _, _, rfl, _⟩ := h; rfl) | (obtain ⟨_, _, _, _, _, _, _, _, _, _, _, rfl, _⟩ := h; rfl) | (obtain ⟨_, _, _, _, _, _, _, _, _, _, _, _, rfl, _⟩ := h; rfl) | (obtain ⟨_, _, _, _, _, _, _, _, _, _, _, _, _, rfl, _⟩ := h; rfl) | (obtain ⟨_, _, _, _, _, _, _, _, _, _, _, _, _, _, rfl, _⟩ := h; rfl)
  case run =>
    obtain ⟨r, dx, fs, v0, v1, A0, o, hd, n, rfl, er, l0, l1, hA, h0, h1, n0, nz, oz, k⟩ := h
    refine ⟨_, (pss_cons (ps_if (pt_not (pt_val (pe_c C_is_count hr (by decide) (by rfl) (pa_cons (pv 1) pa_nil)))) (pss_one ps_never) pss_nil)
      (pss_cons (ps_if (pt_cmpR op_lt (pv 1) (pe_callB call_len_seq (by rfl) B.len (by decide +kernel) (pa_cons (pe_fld (pv 0) rfl) pa_nil)) (nomark _)) (pss_one (ps_ret (pe_ix ix_seq (pe_fld (pv 0) rfl) (pv 1) (fun _ _ => rfl)))) pss_nil)
      (pss_one (ps_ret (pe_c C__plain_mark hr (by decide) (by rfl) (pa_cons (pe_fld (pv 0) rfl) (pa_cons (pv 1) pa_nil))))))), ?_⟩
    have hc : isCountD (.int n) = true := decide_eq_true (show n ≥ 0 from n0)
    refine ⟨_, rfl, .int n, .int n, rfl, .int n, _, rfl, ?_⟩
    rw [hc]
    obtain ⟨a, ws, rfl, sq, all⟩ := is_tup h1
    have wl : ws.length = hd.length := by rw [all.len, List.length_map]
    refine ⟨_, rfl, _, rfl, r, c, dx, fs, _, rfl, er, T.cl, T.nH, l1, a, ws, rfl, .inr (sqT_full sq), _, _, rfl, rfl, _, rfl, ite2 (fun e => ?_) (fun e => ?_)⟩
    · have e1 : n < ((ws.length : Nat) : Int) := of_decide_eq_true e
      have hi : n.toNat < hd.length := by omega
      have z : markQ o hd n = hd[n.toNat] := by
        unfold markQ
        rw [if_pos (by omega)]
        simp [List.getD, hi]
      rw [z] at k
      refine ⟨_, rfl, r, c, dx, fs, _, rfl, er, T.cl, T.nH, l1, _, rfl, ?_⟩
      exact rd_tup h1 n0 (d := encQ hd[n.toNat]) (by rw [List.getElem?_map, List.getElem?_eq_getElem hi]; rfl) fun u hu => k u H (Same.refl H) hu
    · have e1 : ¬ n < ((ws.length : Nat) : Int) := fun z => e (decide_eq_true z)
      have z : markQ o hd n = plainQ o n := by
        unfold markQ
        rw [if_neg (by omega)]
      rw [z] at k
      refine ⟨_, rfl, r, c, dx, fs, _, rfl, er, T.cl, T.nO, l0, _, rfl, v0, o, n, rfl, h0.full, nz, oz, fun p np => ?_⟩
      exact k _ _ (same_new np) (Is_Q (hA.out np) upd_same)
end

/-! ### the program: the unit of a rule -/
theorem dall_cons {K : PySem.W.Frag} {H : Hp} {vs : List V} {d : PyData} {ds : List PyData} (h : DAll K H vs (d :: ds)) : ∃ v ws, vs = v :: ws ∧ D K H v d ∧ DAll K H ws ds := by
  obtain ⟨v, ws, e, h1, h2⟩ := iss_cons (A := []) h.is
  exact ⟨v, ws, e, h1.full, h2.full⟩
theorem lowD_pos {d : PyData} (h : isNumD d = true) : 0 < (lowD d).2 := by
  have key : ∀ a b : Int, 0 < b → 0 < (lowQ a b).2 := fun a b hb => by
    have g0 : 0 < Nat.gcd a.natAbs b.natAbs := Nat.gcd_pos_of_pos_right _ (by omega)
    have g1 : Nat.gcd a.natAbs b.natAbs ≤ b.natAbs := Nat.gcd_le_right _ (by omega)
    show 0 < b / ((Nat.gcd a.natAbs b.natAbs : Nat) : Int)
    exact Int.ediv_pos_of_pos_of_dvd hb (by omega) (Int.natAbs_dvd_natAbs.mp (by rw [Int.natAbs_natCast]; exact Nat.gcd_dvd_right _ _))
  match d, h with
  | .int i, _ => exact Int.one_pos
  | .tuple [.int a, .int b], h => exact key a b (by have := of_decide_eq_true (show decide (b ≥ 1) = true from h); omega)
/-- the least number of which all bottoms are divisors -/
def lcmN (ps : List (Int × Int)) : Nat := ps.foldl (fun a q => Nat.lcm a q.2.natAbs) 1
theorem lcmN_app (ps : List (Int × Int)) (q : Int × Int) : lcmN (ps ++ [q]) = Nat.lcm (lcmN ps) q.2.natAbs := by
  unfold lcmN
  rw [List.foldl_append]
  rfl
theorem lcmN_lt : ∀ (n : Nat) (ps : List (Int × Int)), ps.length = n → (∀ q ∈ ps, q.2.natAbs < 2 ^ 200) → lcmN ps < 2 ^ (200 * n + 1)
  | 0, ps, e, _ => by
    obtain rfl := List.length_eq_zero_iff.mp e
    show (1 : Nat) < 2 ^ (200 * 0 + 1)
    decide
  | n + 1, ps, e, h => by
    have ne : ps ≠ [] := fun z => by rw [z] at e; simp at e
    have z : ps = ps.dropLast ++ [ps.getLast ne] := (List.dropLast_concat_getLast ne).symm
    have ih := lcmN_lt n ps.dropLast (by rw [List.length_dropLast, e]; rfl) fun q hq => h q ((List.dropLast_prefix _).subset hq)
    have hl := h _ (List.getLast_mem ne)
    rw [z, lcmN_app]
    refine Nat.lt_of_le_of_lt (lcm_le _ _) (Nat.lt_of_lt_of_le (Nat.mul_lt_mul'' ih hl) ?_)
    rw [← Nat.pow_add]
    exact Nat.pow_le_pow_right (by
          decide) (by omega)
theorem lcmN_pos : ∀ (n : Nat) (ps : List (Int × Int)), ps.length = n → (∀ q ∈ ps, 0 < q.2) → 0 < lcmN ps
  | 0, ps, e, _ => by
    obtain rfl := List.length_eq_zero_iff.mp e
    exact Nat.one_pos
  | n + 1, ps, e, h => by
    have ne : ps ≠ [] := fun z => by rw [z] at e; simp at e
    have z : ps = ps.dropLast ++ [ps.getLast ne] := (List.dropLast_concat_getLast ne).symm
    have ih := lcmN_pos n ps.dropLast (by rw [List.length_dropLast, e]; rfl) fun q hq => h q ((List.dropLast_prefix _).subset hq)
    have hl := h _ (List.getLast_mem ne)
    rw [z, lcmN_app]
    exact Nat.lcm_pos ih (by omega)
theorem lcmN_dvd : ∀ (n : Nat) (ps : List (Int × Int)), ps.length = n → ∀ q ∈ ps, q.2.natAbs ∣ lcmN ps
  | 0, ps, e, q, hq => by
    obtain rfl := List.length_eq_zero_iff.mp e
    cases hq
  | n + 1, ps, e, q, hq => by
    have ne : ps ≠ [] := fun z => by rw [z] at e; simp at e
    have z : ps = ps.dropLast ++ [ps.getLast ne] := (List.dropLast_concat_getLast ne).symm
    have ih := lcmN_dvd n ps.dropLast (by rw [List.length_dropLast, e]; rfl) q
    rw [z] at hq ⊢
    rw [lcmN_app]
    rcases List.mem_append.mp hq
          with hq | hq
    · exact Nat.dvd_trans (ih hq) (Nat.dvd_lcm_left _ _)
    · rw [List.mem_singleton.mp
          hq]
      exact Nat.dvd_lcm_right _ _
theorem lcmN_8000 {ps : List (Int × Int)} (l : ps.length ≤ 16) (h : ∀ q ∈ ps, q.2.natAbs < 2 ^ 200) : lcmN ps < 2 ^ 3201 :=
  Nat.lt_of_lt_of_le (lcmN_lt _ ps rfl h) (Nat.pow_le_pow_right (by decide) (by omega))
section
variable {P : Program} {w : World} {K : PySem.W.Frag} {mg : Str → Option Value} {base : Heap} {c : Addr}
def sp_common_bottom (K : PySem.W.Frag) (c : Addr) : Sp := fun vs H Q _ => ∃ (l : Addr) (A : List Addr) (ps : List (Int × Int)), vs = [.ref l] ∧ Is K A H (.ref l) (.list (ps.map encQ)) ∧ ps.length ≤ 16 ∧ (∀ q ∈ ps, q.2.natAbs < 2 ^ 200) ∧
  Q (.int ((lcmN ps : Nat) : Int)) H
theorem cal_common_bottom (B : Bl mg) (DD : OwnDef K mg "common_bottom" s_common_bottom)  (T : Tx K mg c) : Cal P w K mg base 1 "common_bottom" (sp_common_bottom K c) [] := by
  obtain ⟨f, fd, F, hm⟩ := DD.ex
  refine ⟨f, fd, ["pairs"], [], F.ok sc_common_bottom (fun vs H Q E h => ?len) (fun cdv A outer s H vs Q E hr h => ?run), hm, F.kp, F.binds (fun _ _ _ _ _ _ us hl => match us, hl with | [_], _ => rfl), .nil⟩
  case len => first | (obtain ⟨_, rfl, _⟩ := h; rfl) | (obtain ⟨_, _, rfl, _⟩ := h; rfl) | (obtain ⟨_, _, _, rfl, _⟩ := h; rfl) | (obtain ⟨_, _, _, _, rfl, _⟩ := h; rfl) | (obtain ⟨_, _, _, _, _, rfl, _⟩ := h; rfl) | (obtain ⟨_, _, _, _, _, _, rfl, _⟩ := h; rfl) | (obtain ⟨_, _, _, _, _, _, _, rfl, _⟩ := h; rfl) | (obtain ⟨_, _, _, _, _, _, _, _, rfl, _⟩ := h; rfl) | (obtain ⟨_, _, _, _, _, _, _, _, _, rfl, _⟩ := h; rfl) | (obtain ⟨_, _, _, _, _, _, _, _, _, _, rfl, _⟩ := h; rfl) | (obtain ⟨_, _, _, _, _, _, _, _, _, _, _, rfl, _⟩ := h; rfl) | (obtain ⟨_, _, _, _, _, _, _, _, _, _, _, _, rfl, _⟩ := h; rfl) | (obtain ⟨_, _, _, _, _, _, _, _, _, _, _, _, _, rfl, _⟩ := h; rfl) | (obtain ⟨_, _, _, _, _, _, _, _, _, _, _, _, _, _, rfl, _⟩ := h; rfl)
  case run =>
    obtain ⟨l, A0, ps, rfl, hl, ln, sz, k⟩ := h
    refine ⟨_, (pss_cons (ps_set (i := 1) sc_common_bottom.nd rfl (Or.inl rfl) pe_int)
      (pss_cons (ps_for PassesOwn.never rfl (pi_list (pv 0)) (pg_tup (by rfl) (pgs_cons (pg_name (i := 2) sc_common_bottom.nd rfl (Or.inl rfl)) (pgs_cons (pg_name (i := 3) sc_common_bottom.nd rfl (Or.inl rfl)) pgs_nil))) (pss_one (ps_set (i := 1) sc_common_bottom.nd rfl (Or.inl rfl) (pe_callBfun cr_lcm (by rfl) T.g_lcm (pa_cons (pv 1) (pa_cons (pv 3) pa_nil))))))
      (pss_one (ps_ret (pv 1))))), ?_⟩
    obtain ⟨a, ws, e, sq, all⟩ := hl.full.list
    cases e
    have wl : ws.length = ps.length := by rw [all.len, List.length_map]
    refine ⟨_, rfl, _, rfl, ⟨_, sq⟩, ?_⟩
    refine for_list (K := K) (a := l) (xs := ws) (fun i σ H2 => H2 = H ∧ ∃ (x2 x3 : Option V), σ = [some (.ref l), some (.int ((lcmN (ps.take i) : Nat) : Int)), x2, x3])
      ⟨rfl, none, none, rfl⟩ (fun i σ H2 _ ⟨e, _⟩ => by rw [e]; exact sq) ?_ ?_
    · rintro i x σ H2 hx ⟨rfl, x2, x3, rfl⟩
      obtain ⟨d, hd, hxd⟩ := all.get' hx
      obtain ⟨q, hq, rfl⟩ := some_map hd
      have qm : q ∈ ps := List.mem_of_getElem? hq
      obtain ⟨b8, us8, rfl, sq8, all8⟩ := hxd.tuple
      obtain ⟨u1, us1, rfl, hu1, all8⟩ := dall_cons all8
      obtain ⟨u2, us2, rfl, hu2, all8⟩ := dall_cons all8
      obtain rfl : us2 = [] := List.length_eq_zero_iff.mp all8.len
      obtain rfl := hu1.int_eq
      obtain rfl := hu2.int_eq
      refine ⟨b8, _, rfl, sq8, rfl, _, _, rfl, _, [], rfl, rfl, ?_⟩
      have z1 : (((lcmN (ps.take i) : Nat) : Int)).natAbs < 2 ^ 8000 := by
        rw [Int.natAbs_natCast]
        exact Nat.lt_trans (lcmN_8000 (by rw [List.length_take]; omega) fun q hq => sz q (List.mem_of_mem_take hq)) (by decide +kernel)
      have z2 : q.2.natAbs < 2 ^ 8000 := Nat.lt_trans (sz q qm) (by decide +kernel)
      refine ⟨_, rfl, _, rfl, _, _, rfl, z1, z2, rfl, some (.int q.1), some (.int q.2), ?_⟩
      rw [List.take_add_one, hq, Option.toList, lcmN_app, Int.natAbs_natCast]
      rfl
    · rintro σ H2 ⟨rfl, x2, x3, rfl⟩
      rw [wl, List.take_length]
      exact ⟨_, rfl, k⟩
end

/-! ### the program: a rule is made -/
section
variable {P : Program} {w : World} {K : PySem.W.Frag} {mg : Str → Option Value} {base : Heap} {c : Addr}
/-- the fields of a rule -/
abbrev rFs (v0 v1 : V) (u : Int) (v3 : V) (x : Int) (v2 : V) : List (Str × V) := [("offset", v0), ("head", v1), ("unit", .int u), ("_whole_head", v3), ("whole_offset", .int x), ("_start", v2)]
/-- its unit -/
def unitQ (o : Int × Int) (hd : List (Int × Int)) : Int := ((lcmN (o :: hd) : Nat) : Int)
/-- a number times the unit -/
def timesQ (u : Int) (q : Int × Int) : Int := q.1 * (u / q.2)
/-- a rule stands at r -/
structure RuleAt (K : PySem.W.Frag) (c : Addr) (A : List Addr) (H : Hp) (r : Addr) (o : Int × Int) (hd : List (Int × Int)) : Prop where
  ex : ∃ (dx : Addr) (v0 v1 v2 v3 : V), H r = some (.ins c dx (rFs v0 v1 (unitQ o hd) v3 (timesQ (unitQ o hd) o) v2)) ∧ Is K A H v0 (encQ o) ∧ Is K A H v1 (.tuple (hd.map encQ)) ∧
    Is K A H v2 (.tuple ((List.range 8).map fun i => encQ (markQ o hd ((i : Nat) : Int)))) ∧ Is K A H v3 (.list (hd.map fun q => .int (timesQ (unitQ o hd) q)))
theorem RuleAt.same {A : List Addr} {H H' : Hp} {r : Addr} {o : Int × Int} {hd : List (Int × Int)} (R : RuleAt K c A H r o hd) (s : Same H H') : RuleAt K c A H' r o hd := by
  obtain ⟨dx, v0, v1, v2, v3, e, h0, h1, h2, h3⟩ := R.ex
  exact ⟨dx, v0, v1, v2, v3, s _ _ e, Is.mono (Go.of s) h0, Is.mono (Go.of s) h1, Is.mono (Go.of s) h2, Is.mono (Go.of s) h3⟩
theorem RuleAt.go {A : List Addr} {H H' : Hp} {r : Addr} {o : Int × Int} {hd : List (Int × Int)} (R : RuleAt K c A H r o hd) (hr : r ∉ A) (s : Go A H H') : RuleAt K c A H' r o hd := by
  obtain ⟨dx, v0, v1, v2, v3, e, h0, h1, h2, h3⟩ := R.ex
  exact ⟨dx, v0, v1, v2, v3, s.keep _ _ hr e, Is.mono s h0, Is.mono s h1, Is.mono s h2, Is.mono s h3⟩
theorem put1 (v0 : V) : putF "offset" v0 [] = ([("offset", v0)] : List (Str × V)) := rfl
theorem kOH : ¬ (("offset" : Str) = "head") := by decide +kernel
theorem kOU : ¬ (("offset" : Str) = "unit") := by decide +kernel
theorem kOW : ¬ (("offset" : Str) = "_whole_head") := by decide +kernel
theorem kOX : ¬ (("offset" : Str) = "whole_offset") := by decide +kernel
theorem kOS : ¬ (("offset" : Str) = "_start") := by decide +kernel
theorem kHU : ¬ (("head" : Str) = "unit") := by decide +kernel
theorem kHW : ¬ (("head" : Str) = "_whole_head") := by decide +kernel
theorem kHX : ¬ (("head" : Str) = "whole_offset") := by decide +kernel
theorem kHS : ¬ (("head" : Str) = "_start") := by decide +kernel
theorem kUW : ¬ (("unit" : Str) = "_whole_head") := by decide +kernel
theorem kUX : ¬ (("unit" : Str) = "whole_offset") := by decide +kernel
theorem kUS : ¬ (("unit" : Str) = "_start") := by decide +kernel
theorem kWX : ¬ (("_whole_head" : Str) = "whole_offset") := by decide +kernel
theorem kWS : ¬ (("_whole_head" : Str) = "_start") := by decide +kernel
theorem kXS : ¬ (("whole_offset" : Str) = "_start") := by decide +kernel
theorem kOM : ¬ (("mark" : Str) = "offset") := by decide +kernel
theorem kHM : ¬ (("mark" : Str) = "head") := by decide +kernel
theorem kUM : ¬ (("mark" : Str) = "unit") := by decide +kernel
theorem kWM : ¬ (("mark" : Str) = "_whole_head") := by decide +kernel
theorem kXM : ¬ (("mark" : Str) = "whole_offset") := by decide +kernel
theorem kSM : ¬ (("mark" : Str) = "_start") := by decide +kernel
theorem put_cons {f g : Str} {v u : V} {r : List (Str × V)} (h : ¬ (f = g)) : putF g v ((f, u) :: r) = (f, u) :: putF g v r := by
  show (if f = g then _ else _) = _
  rw [if_neg h]
theorem put2 (v0 v1 : V) : putF "head" v1 ([("offset", v0)] : List (Str × V)) = ([("offset", v0), ("head", v1)] : List (Str × V)) := by
  rw [put_cons kOH]
  rfl
theorem put3 (v0 v1 v2 : V) : putF "unit" v2 ([("offset", v0), ("head", v1)] : List (Str × V)) = ([("offset", v0), ("head", v1), ("unit", v2)] : List (Str × V)) := by
  rw [put_cons kOU, put_cons kHU]
  rfl
theorem put4 (v0 v1 v2 v3 : V) : putF "_whole_head" v3 ([("offset", v0), ("head", v1), ("unit", v2)] : List (Str × V)) = ([("offset", v0), ("head", v1), ("unit", v2), ("_whole_head", v3)] : List (Str × V)) := by
  rw [put_cons kOW, put_cons kHW, put_cons kUW]
  rfl
theorem put5 (v0 v1 v2 v3 v4 : V) : putF "whole_offset" v4 ([("offset", v0), ("head", v1), ("unit", v2), ("_whole_head", v3)] : List (Str × V)) = ([("offset", v0), ("head", v1), ("unit", v2), ("_whole_head", v3), ("whole_offset", v4)] : List (Str × V)) := by
  rw [put_cons kOX, put_cons kHX, put_cons kUX, put_cons kWX]
  rfl
theorem put6 (v0 v1 v2 v3 v4 v5 : V) : putF "_start" v5 ([("offset", v0), ("head", v1), ("unit", v2), ("_whole_head", v3), ("whole_offset", v4)] : List (Str × V)) = ([("offset", v0), ("head", v1), ("unit", v2), ("_whole_head", v3), ("whole_offset", v4), ("_start", v5)] : List (Str × V)) := by
  rw [put_cons kOS, put_cons kHS, put_cons kUS, put_cons kWS, put_cons kXS]
  rfl
theorem lk_cons {f g : Str} {v : V} {r : List (Str × V)} : ((g, v) :: r).lookup f = if f = g then some v else r.lookup f := by
  by_cases h : f = g
  · subst h; simp
  · rw [if_neg h]
    have : (f == g) = false := by simpa using h
    simp [List.lookup, this]
theorem lkO (v0 : V) (r : List (Str × V)) : ((("offset" : Str), v0) :: r).lookup ("offset" : Str) = some v0 := by
  rw [lk_cons, if_pos rfl]
theorem lkH (v0 v1 : V) (r : List (Str × V)) : ((("offset" : Str), v0) :: (("head" : Str), v1) :: r).lookup ("head" : Str) = some v1 := by
  rw [lk_cons, if_neg (fun z => kOH z.symm), lk_cons, if_pos rfl]
theorem lkU (v0 v1 v2 : V) (r : List (Str × V)) : ((("offset" : Str), v0) :: (("head" : Str), v1) :: (("unit" : Str), v2) :: r).lookup ("unit" : Str) = some v2 := by
  rw [lk_cons, if_neg (fun z => kOU z.symm), lk_cons, if_neg (fun z => kHU z.symm), lk_cons, if_pos rfl]
theorem lkW (v0 v1 v2 v3 : V) (r : List (Str × V)) : ((("offset" : Str), v0) :: (("head" : Str), v1) :: (("unit" : Str), v2) :: (("_whole_head" : Str), v3) :: r).lookup ("_whole_head" : Str) = some v3 := by
  rw [lk_cons, if_neg (fun z => kOW z.symm), lk_cons, if_neg (fun z => kHW z.symm), lk_cons, if_neg (fun z => kUW z.symm), lk_cons, if_pos rfl]
theorem lkX (v0 v1 v2 v3 v4 : V) (r : List (Str × V)) : ((("offset" : Str), v0) :: (("head" : Str), v1) :: (("unit" : Str), v2) :: (("_whole_head" : Str), v3) :: (("whole_offset" : Str), v4) :: r).lookup ("whole_offset" : Str) = some v4 := by
  rw [lk_cons, if_neg (fun z => kOX z.symm), lk_cons, if_neg (fun z => kHX z.symm), lk_cons, if_neg (fun z => kUX z.symm), lk_cons, if_neg (fun z => kWX z.symm), lk_cons, if_pos rfl]
theorem lkS (v0 v1 v2 v3 v4 v5 : V) (r : List (Str × V)) : ((("offset" : Str), v0) :: (("head" : Str), v1) :: (("unit" : Str), v2) :: (("_whole_head" : Str), v3) :: (("whole_offset" : Str), v4) :: (("_start" : Str), v5) :: r).lookup ("_start" : Str) = some v5 := by
  rw [lk_cons, if_neg (fun z => kOS z.symm), lk_cons, if_neg (fun z => kHS z.symm), lk_cons, if_neg (fun z => kUS z.symm), lk_cons, if_neg (fun z => kWS z.symm), lk_cons, if_neg (fun z => kXS z.symm), lk_cons, if_pos rfl]
theorem lkM {v0 v1 v3 v5 : V} {u x : Int} : (rFs v0 v1 u v3 x v5).lookup ("mark" : Str) = none := by
  show List.lookup _ [_, _, _, _, _, _] = _
  rw [lk_cons, if_neg kOM, lk_cons, if_neg kHM, lk_cons, if_neg kUM, lk_cons, if_neg kWM, lk_cons, if_neg kXM, lk_cons, if_neg kSM]
  rfl
/-- Rule.__init__(self, offset, *head), at good ones -/
def sp_Rule_init (K : PySem.W.Frag) (c : Addr) : Sp := fun vs H Q _ => ∃ (r dx : Addr) (v : V) (t : Addr) (A : List Addr) (d : PyData) (ds : List PyData), vs = [.ref r, v, .ref t] ∧ H r = some (.ins c dx []) ∧ r ∉ A ∧ Hd A H ∧ Is K (r :: A) H v d ∧
  Is K (r :: A) H (.ref t) (.tuple ds) ∧ isOffD d = true ∧ (∀ a b, d = encQ (a, b) → b.natAbs < 2 ^ 8000) ∧ VH (lowD d) ds ∧
  ∀ H', (∀ b o, b ≠ r → H b = some o → H' b = some o) → RuleAt K c A H' r (lowD d) (ds.map lowD) → Q .non H'
theorem rd_Rule_init {f : Addr} {cdv : Value} {Ar : Around} {outer : List Env} {s : Shared} {H : Hp} {vs : List V} {Q : VK} {E : XK} (B : Bl mg) (T : Tx K mg c)
    (C__is_offset : Cal P w K mg base 3 "_is_offset" (sp__is_offset K c) []) (C_lowest : Cal P w K mg base 2 "lowest" (sp_lowest K c) [])
    (C__lowest_head : Cal P w K mg base 4 "_lowest_head" (sp__lowest_head K c) []) (C_common_bottom : Cal P w K mg base 1 "common_bottom" (sp_common_bottom K c) []) (M_mark : Met P w K mg base 3 c "mark" (sp_Rule_mark K c))
    (hr : Room 6 (Ar.deeper (envOfC "Rule.__init__" (defScope s_Rule___init__) s.heap.objs.size f cdv))) (h : sp_Rule_init K c vs H Q E) :
    ∃ t, PSs (cxOf CX0 P w K mg base ["self", "offset", "head", "top", "bottom", "number"] "Rule.__init__" (defScope s_Rule___init__) f cdv Ar outer s H E).nox (defBody s_Rule___init__) t ∧
      t { nx := fun _ H' => Q .non H', rt := Q } (start ["self", "offset", "head", "top", "bottom", "number"] vs) H := by
  obtain ⟨r, dx, v, t, A, d, ds, rfl, er, rA, hA, hv, ht, ho, hsz, vh, k⟩ := h
  refine ⟨_, (pss_cons (ps_if (pt_not (pt_val (pe_c C__is_offset hr (by decide) (by rfl) (pa_cons (pv 1) pa_nil)))) (pss_one ps_never) pss_nil)
      (pss_cons (ps_fld (pv 0) (pe_c C_lowest hr (by decide) (by rfl) (pa_cons (pv 1) pa_nil)) rfl)
      (pss_cons (ps_fld (pv 0) (pe_c C__lowest_head hr (by decide) (by rfl) (pa_cons (pe_fld (pv 0) rfl) (pa_cons (pv 2) pa_nil))) rfl)
      (pss_cons (ps_fld (pv 0) (pe_c C_common_bottom hr (by decide) (by rfl) (pa_cons (pe_lst (pa_cons (pe_fld (pv 0) rfl) (pa_star (pe_fld (pv 0) rfl) pa_nil))) pa_nil)) rfl)
      (pss_cons (ps_fld (pv 0) (pe_lc (own := [("top", 3), ("bottom", 4)]) (by rfl) sc_Rule___init__.nd (pi_tup (pe_fld (pv 0) rfl)) (blkOk_by (own := [("top", 3), ("bottom", 4)]) (N := ["self", "offset", "head", "top", "bottom", "number"]) (sc := defScope s_Rule___init__) (by decide +kernel)) (fun _ _ _ _ _ => (show PG _ _ (gTup K 2 (gCons (gName 3) (gCons (gName 4) gNil))) from (pg_tup (by rfl) (pgs_cons (pg_name (i := 3) sc_Rule___init__.nd rfl (Or.inl rfl)) (pgs_cons (pg_name (i := 4) sc_Rule___init__.nd rfl (Or.inl rfl)) pgs_nil))))) (fun _ _ _ _ _ => pts_nil) (fun _ _ _ _ _ => (pe_op op_mulW (pv 3) (pe_op op_fdivW (show PE _ _ (tFld K (tVar 0) "unit") from pe_fld (pv 0) rfl) (pv 4))))) rfl)
      (pss_cons (ps_fld (pv 0) (pe_op op_mulW (pe_ix ix_seq (pe_fld (pv 0) rfl) pe_int (fun _ _ => rfl)) (pe_op op_fdivW (pe_fld (pv 0) rfl) (pe_ix ix_seq (pe_fld (pv 0) rfl) pe_int (fun _ _ => rfl)))) rfl)
      (pss_one (ps_fld (pv 0) (pe_callTy call_tuple_of (by rfl) B.tuple (by decide +kernel) (pa_cons (pe_lc (own := [("number", 5)]) (by rfl) sc_Rule___init__.nd (pi_range1 (by rfl) B.range (pa_cons (pe_gint (by rfl) T.g_MOST_HEAD) pa_nil)) (blkOk_by (own := [("number", 5)]) (N := ["self", "offset", "head", "top", "bottom", "number"]) (sc := defScope s_Rule___init__) (by decide +kernel)) (fun _ _ _ _ _ => (pg_name (i := 5) sc_Rule___init__.nd rfl (Or.inl rfl))) (fun _ _ _ _ _ => pts_nil) (fun _ _ _ _ _ => (pe_mt M_mark hr (by decide) (pv 0) (pa_cons (pv 5) pa_nil)))) pa_nil)) rfl)))))))), ?_⟩
  have hn : isNumD d = true := by
    unfold isOffD at ho
    rw [Bool.and_eq_true] at ho
    exact ho.1
  refine ⟨_, rfl, v, d, rfl, hv.full, hsz, fun H1 s1 => ⟨_, rfl, ?_⟩⟩
  rw [ho]
  refine ⟨_, rfl, v, d, rfl, D.same s1 hv.full, hn, hsz, fun p H2 s2 np ep => ?_⟩
  have s02 := s1.trans s2
  have er2 := s02 _ _ er
  have npr : p ≠ r := fun z => by rw [z, s1 _ _ er] at np; cases np
  refine ⟨_, rfl, r, c, dx, _, rfl, er2, T.cl, T.nO, (by show 0 < 1000; decide), ?_⟩
  rw [put1]
  -- self.head = _lowest_head(self.offset, head)
  have hA0 : Hd (r :: A) H := Hd.cons er hA
  have hA2 : Hd (r :: A) H2 := (Go.of s02).held hA0
  have pA : p ∉ A := fun z => by
    cases q : H p with
    | none => exact hA p z q
    | some u => rw [s1 _ _ q] at np; cases np
  have g3 : Go (r :: A) H2 (upd H2 r (.ins c dx [("offset", .ref p)])) := Go.chg (by simp)
  have hA3 := g3.held hA2
  have hp3 : Is K (r :: A) (upd H2 r (.ins c dx [("offset", .ref p)])) (.ref p) (encQ (lowD d)) := Is_Q (by simp [npr, pA]) (by rw [upd_ne npr]; exact ep)
  have ht3 : Is K (r :: A) (upd H2 r (.ins c dx [("offset", .ref p)])) (.ref t) (.tuple ds) := Is.mono ((Go.of s02).trans g3) ht
  refine ⟨_, rfl, r, c, dx, _, _, rfl, upd_same, T.cl, T.nO, lkO _ _, _, rfl, .ref p, .ref t, r :: A, lowD d, ds, rfl, hA3, hp3, ht3, vh, fun v1 H4 s4 hv1 => ?_⟩
  have er4 := s4 _ _ (upd_same (H := H2) (a := r) (o := .ins c dx [("offset", .ref p)]))
  refine ⟨_, rfl, r, c, dx, _, rfl, er4, T.cl, T.nH, (by show 1 < 1000; decide), ?_⟩
  rw [put2]
  have hA4 := (Go.of s4).held hA3
  have g5 : Go (r :: A) H4 (upd H4 r (.ins c dx [("offset", .ref p), ("head", v1)])) := Go.chg (by simp)
  have hA5 := g5.held hA4
  have hp5 := Is.mono ((Go.of s4).trans g5) hp3
  have hv5 := Is.mono g5 hv1
  have er5 : (upd H4 r (.ins c dx [("offset", .ref p), ("head", v1)])) r = some (.ins c dx [("offset", .ref p), ("head", v1)]) := upd_same
  have k5 : ∀ b ob, b ≠ r → H4 b = some ob → (upd H4 r (.ins c dx [("offset", .ref p), ("head", v1)])) b = some ob := fun b ob hb e => by rw [upd_ne hb]; exact e
  generalize (upd H4 r (.ins c dx [("offset", .ref p), ("head", v1)])) = H5 at g5 hA5 hp5 hv5 er5 k5 ⊢
  -- self.unit = common_bottom([self.offset, *self.head])
  obtain ⟨a1, ws1, rfl, sq1, all1⟩ := is_tup hv5
  have wl1 : ws1.length = ds.length := by rw [all1.len, List.length_map, List.length_map]
  have v8 := vh.len
  have numB : ∀ q ∈ lowD d :: ds.map lowD, 0 < q.2 ∧ q.1.natAbs < 2 ^ 200 ∧ q.2.natAbs < 2 ^ 200 := fun q hq => by
    rcases List.mem_cons.mp hq with e | hq
    · subst e
      exact ⟨lowD_pos hn, vh.o2.1, vh.o2.2⟩
    · obtain ⟨d', hd', rfl⟩ := List.mem_map.mp hq
      obtain ⟨nu, _, z1, z2⟩ := vh.num d' hd'
      exact ⟨lowD_pos nu, z1, z2⟩
  have hU : unitQ (lowD d) (ds.map lowD) = ((lcmN (lowD d :: ds.map lowD) : Nat) : Int) := rfl
  have U1 : (unitQ (lowD d) (ds.map lowD)).natAbs < 2 ^ 3201 := by
    rw [hU, Int.natAbs_natCast]
    exact lcmN_8000 (by rw [List.length_cons, List.length_map]; omega) fun q hq => (numB q hq).2.2
  have U0 : 0 ≤ unitQ (lowD d) (ds.map lowD) := by rw [hU]; exact Int.natCast_nonneg _
  have wq : ∀ q ∈ lowD d :: ds.map lowD, CDivW (unitQ (lowD d) (ds.map lowD)) q.2 ∧ CMulW q.1 (unitQ (lowD d) (ds.map lowD) / q.2) := fun q hq => by
    obtain ⟨b0, b1, b2⟩ := numB q hq
    refine ⟨wide_div b0 b2 (by decide) (by decide), wide_mul (b := 3201) b1 ?_ (by decide) (by decide) (by decide)⟩
    exact Nat.lt_of_le_of_lt (by
      have z0 : 0 ≤ unitQ (lowD d) (ds.map lowD) / q.2 := Int.ediv_nonneg U0 (by omega)
      have z1 : unitQ (lowD d) (ds.map lowD) / q.2 ≤ unitQ (lowD d) (ds.map lowD) := Int.ediv_le_self _ U0
      omega) U1
  generalize hUU : unitQ (lowD d) (ds.map lowD) = U at hU U1 U0 wq
  refine ⟨_, rfl, r, c, dx, _, _, rfl, er5, T.cl, T.nO, lkO _ _, _, rfl, r, c, dx, _, _, rfl, er5, T.cl, T.nH, lkH _ _ _, a1, ws1, rfl, .inl (sqT_full sq1), ⟨?_, fun l6 nl6 => ?_⟩⟩
  · rw [List.append_nil, List.length_cons]
    exact Nat.le_of_lt (small1000 (by omega))
  rw [List.append_nil]
  have g6 : Go (r :: A) H5 (upd H5 l6 (.lst (.ref p :: ws1))) := Go.new nl6
  have hl6 : Is K (r :: A) (upd H5 l6 (.lst (.ref p :: ws1))) (.ref l6) (.list ((lowD d :: ds.map lowD).map encQ)) := is_new_lst hA5 nl6 (DAll.cons hp5 all1)
  have s6 : Same H5 (upd H5 l6 (.lst (.ref p :: ws1))) := same_new nl6
  refine ⟨l6, r :: A, lowD d :: ds.map lowD, rfl, hl6, by rw [List.length_cons, List.length_map]; omega, fun q hq => (numB q hq).2.2, ?_⟩
  rw [← hU]
  have er6 := s6 _ _ er5
  have hA6 := g6.held hA5
  have hp6 := Is.mono g6 hp5
  have hv6 := Is.mono g6 hv5
  generalize (upd H5 l6 (.lst (.ref p :: ws1))) = H6 at g6 hl6 s6 er6 hA6 hp6 hv6 ⊢
  refine ⟨_, rfl, r, c, dx, _, rfl, er6, T.cl, T.nU, (by show 2 < 1000; decide), ?_⟩
  rw [put3]
  have g7 : Go (r :: A) H6 (upd H6 r (.ins c dx [("offset", .ref p), ("head", .ref a1), ("unit", .int U)])) := Go.chg (by simp)
  have hA7 := g7.held hA6
  have hp7 := Is.mono g7 hp6
  have hv7 := Is.mono g7 hv6
  have er7 : (upd H6 r (.ins c dx [("offset", .ref p), ("head", .ref a1), ("unit", .int U)])) r = some (.ins c dx [("offset", .ref p), ("head", .ref a1), ("unit", .int U)]) := upd_same
  have k7 : ∀ b ob, b ≠ r → H6 b = some ob → (upd H6 r (.ins c dx [("offset", .ref p), ("head", .ref a1), ("unit", .int U)])) b = some ob := fun b ob hb e => by rw [upd_ne hb]; exact e
  generalize (upd H6 r (.ins c dx [("offset", .ref p), ("head", .ref a1), ("unit", .int U)])) = H7 at g7 hA7 hp7 hv7 er7 k7 ⊢
  -- self._whole_head = [..]
  obtain ⟨a1', ws7, e7, sq7, all7⟩ := is_tup hv7
  cases e7
  have sq7f := sqT_full sq7
  have wl7 : ws7.length = ds.length := by rw [all7.len, List.length_map, List.length_map]
  refine ⟨_, rfl, r, c, dx, _, _, rfl, er7, T.cl, T.nH, lkH _ _ _, a1, rfl, ⟨_, sq7f⟩, fun D0 nD => ?_⟩
  refine lc_tup (K := K) (a := a1) (xs := ws7) (fun i H8 => Same H7 H8 ∧ H8 D0 = some (.lst (((ds.map lowD).take i).map fun q => V.int (timesQ U q)))) ⟨same_new nD, upd_same⟩ (fun i H8 _ ⟨s8, _⟩ => seqT_same s8 sq7f) ?_ ?_
  · rintro i y H8 hi ⟨s8, eD⟩
    obtain ⟨d', hd', hy⟩ := iss_get' all7 hi
    obtain ⟨q, hq, rfl⟩ := some_map hd'
    have qm : q ∈ lowD d :: ds.map lowD := List.mem_cons_of_mem _ (List.mem_of_getElem? hq)
    have hy8 := D.same s8 hy.full
    have er8 := s8 _ _ er7
    obtain ⟨wdq, wmq⟩ := wq q qm
    obtain ⟨b8, us8, rfl, sq8, all8⟩ := hy8.tuple
    obtain ⟨u1, us1, rfl, hu1, all8⟩ := dall_cons all8
    obtain ⟨u2, us2, rfl, hu2, all8⟩ := dall_cons all8
    obtain rfl : us2 = [] := List.length_eq_zero_iff.mp all8.len
    obtain rfl := hu1.int_eq
    obtain rfl := hu2.int_eq
    refine ⟨b8, _, rfl, sq8, rfl, _, _, rfl, _, [], rfl, rfl, ?_⟩
    refine ⟨rfl, _, rfl, _, rfl, r, c, dx, _, _, rfl, er8, T.cl, T.nU, lkU _ _ _ _, _, rfl, _, _, rfl, rfl, wdq, _, _, rfl, rfl, wmq, _, eD, ?_, fun b' o e => ?_, ?_⟩
    · rw [List.length_map, List.length_take, List.length_map]
      exact small1000 (by omega)
    · rw [upd_ne (ne_of_none e nD)]
      exact s8 _ _ e
    · rw [upd_same, List.take_add_one, hq, List.map_append]
      rfl
  rintro H8 ⟨s8, eD⟩
  rw [wl7, ← List.length_map (as := ds) (f := lowD), List.take_length] at eD
  have er8 := s8 _ _ er7
  refine ⟨_, rfl, r, c, dx, _, rfl, er8, T.cl, T.nW, (by show 3 < 1000; decide), ?_⟩
  rw [put4]
  have nDr : D0 ≠ r := fun z => by rw [z, er7] at nD; cases nD
  have D0A : D0 ∉ r :: A := hA7.out nD
  have g9 : Go (r :: A) H8 (upd H8 r (.ins c dx [("offset", .ref p), ("head", .ref a1), ("unit", .int U), ("_whole_head", .ref D0)])) := Go.chg (by simp)
  have hA8 := (Go.of s8).held hA7
  have hA9 := g9.held hA8
  have hp9 := Is.mono ((Go.of s8).trans g9) hp7
  have hv9 := Is.mono ((Go.of s8).trans g9) hv7
  have er9 : (upd H8 r (.ins c dx [("offset", .ref p), ("head", .ref a1), ("unit", .int U), ("_whole_head", .ref D0)])) r = some (.ins c dx [("offset", .ref p), ("head", .ref a1), ("unit", .int U), ("_whole_head", .ref D0)]) := upd_same
  have hw9 : Is K (r :: A) (upd H8 r (.ins c dx [("offset", .ref p), ("head", .ref a1), ("unit", .int U), ("_whole_head", .ref D0)])) (.ref D0) (.list ((ds.map lowD).map fun q => PyData.int (timesQ U q))) := by
    refine is_own_lst (vs := (ds.map lowD).map fun q => V.int (timesQ U q)) (by rw [upd_ne nDr]; exact eD) D0A ?_
    have z : Iss K (D0 :: r :: A) (upd H8 r (.ins c dx [("offset", .ref p), ("head", .ref a1), ("unit", .int U), ("_whole_head", .ref D0)])) (((ds.map lowD).map (timesQ U)).map V.int) (((ds.map lowD).map (timesQ U)).map PyData.int) := iss_ints _
    simp only [List.map_map, Function.comp_def] at z ⊢
    exact z
  have k9 : ∀ b ob, b ≠ r → H8 b = some ob → (upd H8 r (.ins c dx [("offset", .ref p), ("head", .ref a1), ("unit", .int U), ("_whole_head", .ref D0)])) b = some ob := fun b ob hb e => by rw [upd_ne hb]; exact e
  generalize (upd H8 r (.ins c dx [("offset", .ref p), ("head", .ref a1), ("unit", .int U), ("_whole_head", .ref D0)])) = H9 at g9 hA9 hp9 hv9 er9 hw9 k9 ⊢
  -- self.whole_offset = ..
  obtain ⟨wd, wm⟩ := wq _ (List.mem_cons_self)
  refine ⟨_, rfl, r, c, dx, _, _, rfl, er9, T.cl, T.nO, lkO _ _, ix_di hp9.full (by decide) rfl ?_⟩
  refine ⟨_, rfl, r, c, dx, _, _, rfl, er9, T.cl, T.nU, lkU _ _ _ _, _, rfl, r, c, dx, _, _, rfl, er9, T.cl, T.nO, lkO _ _, ix_di hp9.full (by decide) rfl ?_⟩
  refine ⟨_, _, rfl, rfl, wd, _, _, rfl, rfl, wm, ?_⟩
  refine ⟨_, rfl, r, c, dx, _, rfl, er9, T.cl, T.nX, (by show 4 < 1000; decide), ?_⟩
  rw [put5]
  dsimp only
  have ho : (lowD d).1 * (U / (lowD d).2) = timesQ U (lowD d) := rfl
  rw [ho]
  generalize hx : timesQ U (lowD d) = x
  have g11 : Go (r :: A) H9 (upd H9 r (.ins c dx [("offset", .ref p), ("head", .ref a1), ("unit", .int U), ("_whole_head", .ref D0), ("whole_offset", .int x)])) := Go.chg (by simp)
  have hA11 := g11.held hA9
  have hp11 := Is.mono g11 hp9
  have hv11 := Is.mono g11 hv9
  have hw11 := Is.mono g11 hw9
  have er11 : (upd H9 r (.ins c dx [("offset", .ref p), ("head", .ref a1), ("unit", .int U), ("_whole_head", .ref D0), ("whole_offset", .int x)])) r = some (.ins c dx [("offset", .ref p), ("head", .ref a1), ("unit", .int U), ("_whole_head", .ref D0), ("whole_offset", .int x)]) := upd_same
  have k11 : ∀ b ob, b ≠ r → H5 b = some ob → (upd H9 r (.ins c dx [("offset", .ref p), ("head", .ref a1), ("unit", .int U), ("_whole_head", .ref D0), ("whole_offset", .int x)])) b = some ob := fun b ob hb e => by
    rw [upd_ne hb]
    exact k9 b ob hb (s8 b ob (k7 b ob hb (s6 b ob e)))
  have k5' : ∀ b ob, b ≠ r → H4 b = some ob → (upd H9 r (.ins c dx [("offset", .ref p), ("head", .ref a1), ("unit", .int U), ("_whole_head", .ref D0), ("whole_offset", .int x)])) b = some ob := fun b ob hb e => k11 b ob hb (k5 b ob hb e)
  generalize (upd H9 r (.ins c dx [("offset", .ref p), ("head", .ref a1), ("unit", .int U), ("_whole_head", .ref D0), ("whole_offset", .int x)])) = H11 at g11 hA11 hp11 hv11 hw11 er11 k11 k5' ⊢
  -- self._start = tuple([..])
  refine ⟨8, rfl, by decide, by decide, fun E0 nE => ?_⟩
  have nEr : E0 ≠ r := fun z => by rw [z, er11] at nE; cases nE
  have nEA : E0 ∉ A := fun z => hA11 E0 (List.mem_cons_of_mem _ z) nE
  have oz : (lowD d).2.natAbs < 2 ^ 8000 := Nat.lt_trans vh.o2.2 (by decide +kernel)
  refine lc_range (lo := 0) (fun i H6 => Same H11 H6 ∧ Hd (E0 :: r :: A) H6 ∧ ∃ ws, H6 E0 = some (.lst ws) ∧ Iss K (E0 :: r :: A) H6 ws ((List.range i).map fun i => encQ (markQ (lowD d) (ds.map lowD) ((i : Nat) : Int))))
    ⟨same_new nE, Hd.cons upd_same (hd_new hA11 nE), [], upd_same, DAll.nil⟩ ?_ ?_
  · rintro i H6 hi ⟨s6, hA6, ws, eD, hws⟩
    have er6 := s6 _ _ er11
    have hi8 : i < 8 := by simpa using hi
    refine ⟨rfl, _, rfl, r, dx, _, rfl, er6, ?_, _, rfl, ?_⟩
    · rw [lk_cons, if_neg kOM, lk_cons, if_neg kHM, lk_cons, if_neg kUM, lk_cons, if_neg kWM, lk_cons, if_neg kXM]
      rfl
    refine ⟨r, dx, _, .ref p, .ref a1, E0 :: r :: A, lowD d, ds.map lowD, _, rfl, er6, lkO _ _, lkH _ _ _, hA6, Is.mono (Go.of s6) (Is.more nE hp11), Is.mono (Go.of s6) (Is.more nE hv11), by omega, ?_, oz, fun y H7 s7 hy => ?_⟩
    · exact Nat.lt_of_le_of_lt (show (0 + ((i : Nat) : Int)).natAbs ≤ 8 by omega) (by decide +kernel)
    · have wl : ws.length = i := by rw [hws.len]; simp
      refine ⟨ws, s7 _ _ eD, small1000 (by omega), fun b ob e => ?_, ?_, ws ++ [y], upd_same, ?_⟩
      · rw [upd_ne (ne_of_none e nE)]
        exact s7 _ _ (s6 _ _ e)
      · exact (Go.chg (A := E0 :: r :: A) (by simp)).held ((Go.of s7).held hA6)
      · have g8 : Go (E0 :: r :: A) H7 (upd H7 E0 (.lst (ws ++ [y]))) := Go.chg (by simp)
        rw [List.range_succ, List.map_append]
        refine iss_app (Iss.mono ((Go.of s7).trans g8) hws) (DAll.cons ?_ DAll.nil)
        have e0 : (0 + ((i : Nat) : Int)) = ((i : Nat) : Int) := by omega
        rw [e0] at hy
        exact Is.mono g8 hy
  · rintro H6 ⟨s6, hA6, ws, eD, hws⟩
    refine ⟨E0, ws, rfl, .inl ⟨.inl (.inl eD), fun l nl => ?_⟩⟩
    have er7 := (same_new nl (o := .tup ws)) _ _ (s6 _ _ er11)
    refine ⟨_, rfl, r, c, dx, _, rfl, er7, T.cl, T.nS, (by show 5 < 1000; decide), ?_⟩
    rw [put6]
    have lA : l ∉ E0 :: r :: A := hA6.out nl
    have g9 : Go (r :: A) H11 (upd (upd H6 l (.tup ws)) r (.ins c dx [("offset", .ref p), ("head", .ref a1), ("unit", .int U), ("_whole_head", .ref D0), ("whole_offset", .int x), ("_start", .ref l)])) := ((Go.of s6).trans (Go.new nl)).trans (Go.chg (by simp))
    have g10 : Go (E0 :: r :: A) H6 (upd (upd H6 l (.tup ws)) r (.ins c dx [("offset", .ref p), ("head", .ref a1), ("unit", .int U), ("_whole_head", .ref D0), ("whole_offset", .int x), ("_start", .ref l)])) := (Go.new nl).trans (Go.chg (by simp))
    refine k _ (fun b ob hb e => ?_) ⟨dx, .ref p, .ref a1, .ref l, .ref D0, ?_, Is.less (Is.mono g9 hp11), Is.less (Is.mono g9 hv11), ?_, ?_⟩
    · have a2 := s02 _ _ e
      rw [upd_ne hb]
      have a4 := s4 b ob (by rw [upd_ne hb]; exact a2)
      have a5 : H11 b = some ob := k5' b ob hb a4
      exact (same_new nl) _ _ (s6 _ _ a5)
    · rw [hUU, hx]
      exact upd_same
    · have z : Is K (E0 :: r :: A) (upd H6 l (.tup ws)) (.ref l) (.tuple ((List.range 8).map fun i => encQ (markQ (lowD d) (ds.map lowD) ((i : Nat) : Int)))) := is_new_tup hA6 nl hws
      exact Is.less (Is.less (Is.mono (Go.chg (by simp)) z))
    · rw [hUU]
      exact Is.less (Is.mono g9 hw11)
end

/-! ### the program: Rule(..) and Rule.read(text) -/
theorem atI_neg {α : Type} {xs : List α} {k : Nat} {v : α} (hk : 0 < k) (h : k ≤ xs.length) (e : xs[xs.length - k]? = some v) : atI xs (-(k : Int)) = some v := by
  unfold atI ixN
  rw [if_neg (by omega), if_pos (by omega), Option.bind_some, show (-(k : Int) + (xs.length : Int)).toNat = xs.length - k by omega]
  exact e
theorem cut_neg (xs : List V) {k : Nat} (hk : 0 < k) (h : k ≤ xs.length) : cutV xs none (some (-(k : Int))) = xs.take (xs.length - k) := by
  show (xs.drop 0).take ((if (-(k : Int)) < 0 then (-(k : Int) + (xs.length : Int)).toNat else min (-(k : Int)).toNat xs.length) - 0) = _
  rw [if_pos (by omega), show (-(k : Int) + (xs.length : Int)).toNat = xs.length - k by omega]
  rfl
/-- a rule's numbers as the document has them: lowest terms, not too long for texts -/
structure VR (o : Int × Int) (hd : List (Int × Int)) : Prop where
  ok : OkW o
  low : lowQ o.1 o.2 = o
  le1 : o.1 ≤ o.2
  len : hd.length ≤ 8
  oks : ∀ q ∈ hd, OkW q ∧ lowQ q.1 q.2 = q
  inc : ∀ (i : Nat) (p q : Int × Int), hd[i]? = some p → hd[i + 1]? = some q → ltQ p q
  last : ∀ m, hd.getLast? = some m → ltQ m (plainQ o hd.length)
theorem enc_low {q : Int × Int} (low : lowQ q.1 q.2 = q) : lowD (encQ q) = q := low
theorem map_low {hd : List (Int × Int)} (h : ∀ q ∈ hd, OkW q ∧ lowQ q.1 q.2 = q) : (hd.map encQ).map lowD = hd := by
  rw [List.map_map]
  conv => rhs; rw [← List.map_id hd]
  exact List.map_congr_left fun q hq => (h q hq).2
theorem enc_sz {q : Int × Int} (ok : OkW q) : ∀ a b, encQ q = encQ (a, b) → b.natAbs < 2 ^ 8000 := by
  intro a b z
  have z1 : PyData.tuple [.int q.1, .int q.2] = PyData.tuple [.int a, .int b] := z
  injection z1 with z1
  injection z1 with _ z1
  injection z1 with z1
  injection z1 with z1
  rw [← z1]
  exact Nat.lt_trans (show q.2.natAbs < 2 ^ 200 by have := ok.b; have := ok.b2; omega) (by decide +kernel)
theorem VR.vh {o : Int × Int} {hd : List (Int × Int)} (r : VR o hd) : VH o (hd.map encQ) where
  len := by rw [List.length_map]; exact r.len
  o2 := by have := r.ok.a; have := r.ok.b; have := r.ok.a2; have := r.ok.b2; constructor <;> omega
  num := by
    intro d hd'
    obtain ⟨q, hq, rfl⟩ := List.mem_map.mp hd'
    obtain ⟨ok, low⟩ := r.oks q hq
    refine ⟨enc_num ok.b, enc_sz ok, ?_, ?_⟩
    · rw [enc_low low]; have := ok.a; have := ok.a2; omega
    · rw [enc_low low]; have := ok.b; have := ok.b2; omega
  next := by
    intro i d e
    rw [List.getElem?_map] at e
    cases hq : hd[i]? with
    | none => rw [hq] at e; cases e
    | some q =>
      rw [hq] at e
      have e' : encQ q = d := Option.some.inj e
      subst e'
      have hm : q ∈ hd := List.mem_of_getElem? hq
      obtain ⟨ok, low⟩ := r.oks q hm
      have hil : i < hd.length := (List.getElem?_eq_some_iff.mp hq).1
      rw [← List.map_take, map_low (fun q hq => r.oks q (List.mem_of_mem_take hq))]
      unfold nextD
      rw [enc_num ok.b, enc_low low, Bool.true_and]
      cases i with
      | zero => exact decide_eq_true ok.a
      | succ i =>
        have hi : i < hd.length := by omega
        have e1 : (hd.take (i + 1)).getLast? = some hd[i] := by
          rw [List.getLast?_eq_getElem?, List.length_take, Nat.min_eq_left (by omega)]
          rw [List.getElem?_take_of_lt
                (by omega)]
          simp [hi]
        rw [e1]
        exact decide_eq_true (r.inc i _ _ (List.getElem?_eq_getElem hi) hq)
  last := by
    rw [map_low r.oks, List.length_map]
    exact r.last
theorem VR.off {o : Int × Int} {hd : List (Int × Int)} (r : VR o hd) : isOffD (encQ o) = true := by
  unfold isOffD
  rw [enc_num r.ok.b, enc_low r.low, decide_eq_true r.ok.a, decide_eq_true r.le1]
  rfl
def ruleParts (o : Int × Int) (hd : List (Int × Int)) : List (List Nat) := hd.map qL ++ [[124], qL o]
def ruleL (o : Int × Int) (hd : List (Int × Int)) : List Nat := TL.joinL [32] (ruleParts o hd)
theorem qL_free (q : Int × Int) {s : Nat} (h : s < 47 ∨ 57 < s) : s ∉ qL q := by
  unfold qL
  split
  · exact TL.numL_free (by omega)
  · intro z
    rcases List.mem_append.mp z with z | z
    · exact TL.numL_free (by omega) z
    · rcases List.mem_cons.mp
          z with z | z
      · omega
      · exact TL.numL_free (by omega) z
theorem rSplit (o : Int × Int) (hd : List (Int × Int)) : Txt.split (SX.S (ruleL o hd)) (SX.S [32]) = (ruleParts o hd).map SX.S := by
  refine split_join (by decide) (by unfold ruleParts; simp) ?_
  intro p hp
  unfold ruleParts at hp
  rcases List.mem_append.mp hp
        with hp | hp
  · obtain ⟨q, _, rfl⟩ := List.mem_map.mp hp
    exact qL_free q (.inl (by decide))
  · rcases List.mem_cons.mp hp
        with rfl | hp
    · decide
    · rw [List.mem_singleton] at hp
      subst hp
      exact qL_free o (.inl (by decide))
theorem joinL_len (S : List Nat) : ∀ ps : List (List Nat), (TL.joinL S ps).length ≤ (ps.map (·.length)).sum + ps.length * S.length
  | [] => by simp [TL.joinL]
  | [p] => by simp [TL.joinL]
  | p :: q :: r => by
    have ih := joinL_len S (q :: r)
    show (p ++ (S ++ TL.joinL S (q :: r))).length ≤ _
    rw [List.length_append, List.length_append, List.map_cons, List.sum_cons, List.length_cons (a := p), Nat.succ_mul]
    omega
theorem sum_le {ps : List (List Nat)} {k : Nat} (h : ∀ p ∈ ps, p.length ≤ k) : (ps.map (·.length)).sum ≤ ps.length * k := by
  induction ps with
  | nil => simp
  | cons p r ih =>
    rw [List.map_cons, List.sum_cons, List.length_cons,
          Nat.succ_mul]
    have h1 := h p (by simp)
    have h2 := ih fun q hq => h q (by simp [hq])
    omega
theorem ruleL_len {o : Int × Int} {hd : List (Int × Int)} (r : VR o hd) : (ruleL o hd).length ≤ 2000 := by
  have h1 := joinL_len [32] (ruleParts o hd)
  have h2 : ∀ p ∈ ruleParts o hd, p.length ≤ 101 := by
    intro p hp
    unfold ruleParts at hp
    rcases List.mem_append.mp hp
          with hp | hp
    · obtain ⟨q, hq, rfl⟩ := List.mem_map.mp hp
      exact qL_len (r.oks q hq).1
    · rcases List.mem_cons.mp hp
          with rfl | hp
      · decide
      · rw [List.mem_singleton] at hp
        subst hp
        exact qL_len r.ok
  have h3 := sum_le h2
  have h4 : (ruleParts o hd).length = hd.length + 2 := by unfold ruleParts; simp
  have h5 := r.len
  have h6 : ([32] : List Nat).length = 1 := rfl
  unfold ruleL
  rw [h4] at h1 h3
  rw [h6] at h1
  omega
section
variable {P : Program} {w : World} {K : PySem.W.Frag} {mg : Str → Option Value} {base : Heap} {c : Addr}
/-- Rule(offset, mark, ..), at good ones -/
def sp_Rule_new (K : PySem.W.Frag) (c : Addr) : Sp := fun vs H Q _ => ∃ (r dx : Addr) (v : V) (rest : List V) (A : List Addr) (d : PyData) (ds : List PyData), vs = .ref r :: v :: rest ∧ H r = some (.ins c dx []) ∧ r ∉ A ∧ Hd A H ∧ Is K (r :: A) H v d ∧
  Iss K (r :: A) H rest ds ∧ isOffD d = true ∧ (∀ a b, d = encQ (a, b) → b.natAbs < 2 ^ 8000) ∧ VH (lowD d) ds ∧
  ∀ H', (∀ b o, b ≠ r → H b = some o → H' b = some o) → RuleAt K c A H' r (lowD d) (ds.map lowD) → Q .non H'
theorem mak_Rule {f : Addr} {fd : FuncData} (B : Bl mg) (T : Tx K mg c) (F : Fun K "__init__" "Rule.__init__" s_Rule___init__ f fd) (M : Mk K c f)
    (C__is_offset : Cal P w K mg base 3 "_is_offset" (sp__is_offset K c) []) (C_lowest : Cal P w K mg base 2 "lowest" (sp_lowest K c) [])
    (C__lowest_head : Cal P w K mg base 4 "_lowest_head" (sp__lowest_head K c) []) (C_common_bottom : Cal P w K mg base 1 "common_bottom" (sp_common_bottom K c) []) (M_mark : Met P w K mg base 3 c "mark" (sp_Rule_mark K c)) :
    MakR P w K mg base 7 "Rule" c (sp_Rule_new K c) := by
  refine ⟨f, M, ?_, T.g_Rule⟩
  obtain ⟨oc, od, kV, doc, pm, an, cdv, ct, osl,
        rfl, lk, hcd⟩ := F.ex
  refine FnR.imp (fn_star (ps := ["self", "offset"]) (pv := "head") (N := ["self", "offset", "head", "top", "bottom", "number"]) (sp := sp_Rule_init K c) (k := 6) lk hcd sc_Rule___init__ cxUp_none (fun us rest hl => match us, rest, hl with | [a, b], [], _ => rfl | [a, b], r :: rs, _ => rfl) ?_) ?_
  · intro A outer s H vs Q E hr h
    obtain ⟨t, der, rd⟩ := rd_Rule_init B T C__is_offset C_lowest C__lowest_head C_common_bottom M_mark hr h
    exact ⟨t, der.nox, rd⟩
  · rintro vs H Q E ⟨r, dx, v, rest, A, d, ds, rfl, er, rA, hA, hv, hr, ho, hsz, vh, k⟩
    have rl : rest.length ≤ 8 := by rw [hr.len]; exact vh.len
    refine ⟨[.ref r, v], rest, rfl, rfl, Nat.le_of_lt (small1000 (by omega)), fun p np => ?_⟩
    have hA0 : Hd (r :: A) H := Hd.cons er hA
    refine ⟨r, dx, v, p, A, d, ds, rfl, same_new np _ _ er, rA, hd_new hA np, Is.mono (Go.new np) hv, is_new_tup hA0 np hr, ho, hsz, vh, fun H' keep R => k H' (fun b o hb e => keep b o hb (same_new np _ _ e)) R⟩
def sp_Rule_read (K : PySem.W.Frag) (c : Addr) : Sp := fun vs H Q _ => ∃ (o : Int × Int) (hd : List (Int × Int)) (A : List Addr), vs = [.str (SX.S (ruleL o hd))] ∧ VR o hd ∧ Hd A H ∧
  ∀ r H', Same H H' → r ∉ A → RuleAt K c A H' r o hd → Q (.ref r) H'
theorem sta_read {mc : Value} {p f : Addr} {fd : FuncData} (B : Bl mg) (T : Tx K mg c) (F : Fun K "read" "Rule.read" s_Rule_read f fd) (sm : SMet K c mc "read" p f)
    (C_read_number : Cal P w K mg base 3 "read_number" (sp_read_number K c) []) (M_Rule : MakR P w K mg base 7 "Rule" c (sp_Rule_new K c)) :
    Sta P w K mg base 9 "Rule" "read" (sp_Rule_read K c) := by
  refine ⟨c, mc, p, f, fd, ["text"], T.g_Rule, sm, F.ok sc_Rule_read (fun vs H Q E h => ?_) (fun cdv A outer s H vs Q E hr h => ?_), F.binds (fun _ _ _ _ _ _ us hl => match us, hl with | [_], _ => rfl)⟩
  · obtain ⟨_, _, _, rfl, _⟩ := h
    rfl
  obtain ⟨o, hd, A0, rfl, vr, hA, k⟩ := h
  refine ⟨_, (pss_cons (ps_if (pt_not (pt_val (pe_callB call_isi (by rfl) B.isinstance (by decide +kernel) (pa_cons (pv 0) (pa_cons (pe_bltn (v := .ty "str") (by rfl) B.str (by decide +kernel) rfl) pa_nil))))) (pss_one ps_never) pss_nil)
      (pss_cons (ps_set (i := 1) sc_Rule_read.nd rfl (Or.inl rfl) (pe_split (pv 0) pe_str))
      (pss_cons (ps_if (PW.pt (pw_or (pt_cmpR op_lt (pe_callB call_len_seq (by rfl) B.len (by decide +kernel) (pa_cons (pv 1) pa_nil)) pe_int (nomark _)) (pw_or1 (pt_cmpR op_ne (pe_ix ix_seq (pv 1) (pe_un un_neg pe_int) (fun _ _ => rfl)) pe_str (nomark _))))) (pss_one ps_never) pss_nil)
      (pss_cons (ps_set (i := 2) sc_Rule_read.nd rfl (Or.inl rfl) (pe_c C_read_number hr (by decide) (by rfl) (pa_cons (pe_ix ix_seq (pv 1) (pe_un un_neg pe_int) (fun _ _ => rfl)) pa_nil)))
      (pss_cons (ps_setLc (i := 3) (own := [("word", 4)]) (by rfl) sc_Rule_read.nd rfl rfl (sw_true rfl rfl rfl (by decide +kernel)) (pi_list (pe_slice sl_list (pv 1) po_none (po_some (pe_un un_neg pe_int)))) (blkOk_by (own := [("word", 4)]) (N := ["text", "words", "offset", "head", "word"]) (sc := defScope s_Rule_read) (by decide +kernel)) (fun _ _ _ _ _ => (pg_name (i := 4) sc_Rule_read.nd rfl (Or.inl rfl))) (fun _ _ _ _ _ => pts_nil) (fun _ _ _ _ _ => (pe_c C_read_number hr (by decide) (by rfl) (pa_cons (pv 4) pa_nil))))
      (pss_one (ps_try_thru0 (pss_one (ps_ret (pe_mkS M_Rule hr (by decide) (by rfl) (pv 2) (pv 3))))))))))), ?_⟩
  have rl := ruleL_len vr
  have sl : sizeLine = 16777216 := sizeLine_eq
  have c32 : (" " : Str) = SX.S [32] := by decide +kernel
  have c124 : ("|" : Str) = SX.S [124] := by decide +kernel
  refine ⟨_, rfl, _, _, _, _, _, rfl, .ty _, (D.str (K := K) (H := H) (SX.S (ruleL o hd))).ty, kit_ty (kit_str _), _, rfl, ?_⟩
  refine ⟨_, rfl, ⟨_, rfl⟩, _, _, rfl, rfl, by decide +kernel, by rw [SX.S_len]; omega, fun l nl => ?_⟩
  have es : Txt.split (SX.S (ruleL o hd)) (" " : Str) = (ruleParts o hd).map SX.S := by rw [c32]; exact rSplit o hd
  rw [es]
  have s1 : Same H (upd H l (.lst (((ruleParts o hd).map SX.S).map V.str))) := same_new nl
  have hS : SqL K (upd H l (.lst (((ruleParts o hd).map SX.S).map V.str))) l (((ruleParts o hd).map SX.S).map V.str) := .inl (.inl upd_same)
  generalize (upd H l (.lst (((ruleParts o hd).map SX.S).map V.str))) = H1 at s1 hS ⊢
  have wl : (((ruleParts o hd).map SX.S).map V.str).length = hd.length + 2 := by unfold ruleParts; simp
  have e2 : (((ruleParts o hd).map SX.S).map V.str)[(((ruleParts o hd).map SX.S).map V.str).length - 2]? = some (V.str (SX.S [124])) := by
    rw [wl]
    unfold ruleParts
    simp
  have e1 : (((ruleParts o hd).map SX.S).map V.str)[(((ruleParts o hd).map SX.S).map V.str).length - 1]? = some (V.str (SX.S (qL o))) := by
    rw [wl]
    unfold ruleParts
    simp
  have et : (((ruleParts o hd).map SX.S).map V.str).take ((((ruleParts o hd).map SX.S).map V.str).length - 2) = (hd.map fun q => V.str (SX.S (qL q))) := by
    rw [wl]
    unfold ruleParts
    simp
  generalize hW : (((ruleParts o hd).map SX.S).map V.str) = W at hS wl e2 e1 et
  -- if len(words) < 2 or words[-2] != "|"
  refine ⟨_, rfl, l, W, rfl, .inl hS, _, _, rfl, rfl, _, rfl, ite2 (fun e => ?_) (fun _ => ?_)⟩
  · have e0 : ((W.length : Nat) : Int) < 2 := of_decide_eq_true e
    omega
  refine ⟨_, rfl, _, rfl, .inl ⟨l, W, -2, _, rfl, rfl, hS, atI_neg (k := 2) (by decide) (by omega) e2, ?_⟩⟩
  rw [c124]
  refine ⟨rfl, _, rfl, iteNS rfl ?_⟩
  -- offset = read_number(words[-1])
  refine ⟨_, rfl, _, rfl, .inl ⟨l, W, -1, _, rfl, rfl, hS, atI_neg (k := 1) (by decide) (by omega) e1, ?_⟩⟩
  refine ⟨o, rfl, vr.ok, vr.low, fun po H2 s2 npo epo => ?_⟩
  have s02 := s1.trans s2
  have hA2 : Hd A0 H2 := (Go.of s02).held hA
  have poA : po ∉ A0 := ((Go.of s1).held hA).out npo
  have ho2 : Is K A0 H2 (.ref po) (encQ o) := Is_Q poA epo
  -- head = [..]
  refine ⟨_, rfl, _, rfl, _, rfl, l, W, rfl, s2.seq hS, fun l2 nl2 => ?_⟩
  have ec : cutV W none (some (-2)) = hd.map fun q => V.str (SX.S (qL q)) := by
    rw [← et]
    exact cut_neg W (k := 2) (by decide) (by omega)
  rw [ec]
  have s3 : Same H2 (upd H2 l2 (.lst (hd.map fun q => V.str (SX.S (qL q))))) := same_new nl2
  have hS3 : SqL K (upd H2 l2 (.lst (hd.map fun q => V.str (SX.S (qL q))))) l2 (hd.map fun q => V.str (SX.S (qL q))) := .inl (.inl upd_same)
  generalize (upd H2 l2 (.lst (hd.map fun q => V.str (SX.S (qL q))))) = H3 at s3 hS3 ⊢
  have hA3 : Hd A0 H3 := (Go.of s3).held hA2
  refine ⟨l2, rfl, ⟨_, hS3⟩, fun D0 nD => ?_⟩
  refine lc_list (K := K) (a := l2) (xs := hd.map fun q => V.str (SX.S (qL q))) (fun i H4 => Same H3 H4 ∧ Hd (D0 :: A0) H4 ∧ ∃ ws, H4 D0 = some (.lst ws) ∧ Iss K (D0 :: A0) H4 ws ((hd.take i).map encQ))
    ⟨same_new nD, Hd.cons upd_same (hd_new hA3 nD), [], upd_same, DAll.nil⟩ (fun i H4 _ ⟨s4, _⟩ => s4.seq hS3) ?_ ?_
  · rintro i y H4 hi ⟨s4, hA4, ws, eD, hws⟩
    obtain ⟨q, hq, rfl⟩ := some_map hi
    have hm : q ∈ hd := List.mem_of_getElem? hq
    obtain ⟨okq, lowq⟩ := vr.oks q hm
    refine ⟨rfl, _, rfl, q, rfl, okq, lowq, fun p H5 s5 np ep => ?_⟩
    have npD : p ≠ D0 := fun z => by rw [z, eD] at np; cases np
    have pA : p ∉ D0 :: A0 := hA4.out np
    refine ⟨ws, s5 _ _ eD, ?_, fun b ob e => ?_, ?_, ws ++ [.ref p], upd_same, ?_⟩
    · have e1 := hws.len
      rw [List.length_map, List.length_take] at e1
      have := vr.len
      exact small1000 (by omega)
    · rw [upd_ne (ne_of_none e nD)]
      exact s5 _ _ (s4 _ _ e)
    · exact (Go.chg (A := D0 :: A0) (by simp)).held ((Go.of s5).held hA4)
    · have g6 : Go (D0 :: A0) H5 (upd H5 D0 (.lst (ws ++ [.ref p]))) := Go.chg (by simp)
      rw [List.take_add_one, hq]
      simp only [List.map_append, Option.toList, List.map_cons, List.map_nil]
      exact iss_app (Iss.mono ((Go.of s5).trans g6) hws) (DAll.cons (Is.mono g6 (Is_Q pA ep)) DAll.nil)
  · rintro H4 ⟨s4, hA4, ws, eD, hws⟩
    rw [List.length_map, List.take_length] at hws
    have hA4' : Hd A0 H4 := fun b hb => hA4 b (List.mem_cons_of_mem _ hb)
    have ho4 : Is K A0 H4 (.ref po) (encQ o) := Is.mono (Go.of (s3.trans s4)) ho2
    -- return Rule(offset, *head)
    refine ⟨_, rfl, _, rfl, D0, ws, rfl, .inr (.inl (.inl eD)), ?_⟩
    intro r dx nr ndx ne
    have rA : r ∉ A0 := hA4'.out nr
    have nDr : D0 ≠ r := ne_of_none eD nr
    have g5 : Go (r :: A0) H4 (upd (upd H4 dx (.own r)) r (.ins c dx [])) := (Go.new ndx).trans (Go.chg (by simp))
    have sH : ∀ b o, b ≠ r → H4 b = some o → (upd (upd H4 dx (.own r)) r (.ins c dx [])) b = some o := fun b ob hb e => by
      rw [upd_ne hb, upd_ne (ne_of_none e ndx)]
      exact e
    have hA5 : Hd A0 (upd (upd H4 dx (.own r)) r (.ins c dx [])) := fun b hb z => by
      have nb : b ≠ r := fun y => rA (by rw [← y]; exact hb)
      cases q : H4 b with
      | none => exact hA4' b hb q
      | some u => rw [sH b u nb q] at z; cases z
    refine ⟨r, dx, .ref po, ws, A0, encQ o, hd.map encQ, by rw [List.append_nil], upd_same, rA, hA5, Is.mono g5 (Is.more nr ho4), ?_, vr.off, enc_sz vr.ok, ?_, fun H6 keep R => ⟨rfl, ?_⟩⟩
    · have z : Iss K A0 H4 ws (hd.map encQ) := Iss.less hws
      exact ⟨z.len, fun i v d h1 h2 => Is.mono g5 (Is.more nr (z.all i v d h1 h2))⟩
    · rw [enc_low vr.low]
      exact vr.vh
    · rw [enc_low vr.low, map_low vr.oks] at R
      refine k r H6 (fun b ob e => ?_) rA R
      have e4 := s4 _ _ (s3 _ _ (s02 _ _ e))
      have nb : b ≠ r := ne_of_none e4 nr
      exact keep b ob nb (sH b ob nb e4)
end

end LW

set_option Elab.async false
set_option linter.all false
set_option maxRecDepth 100000
set_option maxHeartbeats 4000100
set_option exponentiation.threshold 9000
namespace LW
open L2 PySem.Spec PyProof.Rows PySem
abbrev s_InvalidOffset___init__ : Stmt := inClass (topS 4) 0
theorem sc_InvalidOffset___init__ : FnScope ["self", "value"] ["self", "value"] (defScope s_InvalidOffset___init__) := ⟨rfl, rfl, rfl, by decide +kernel, rfl, by decide +kernel, by decide +kernel⟩
abbrev s_InvalidHead___init__ : Stmt := inClass (topS 7) 0
theorem sc_InvalidHead___init__ : FnScope ["self", "index"] ["self", "index"] (defScope s_InvalidHead___init__) := ⟨rfl, rfl, rfl, by decide +kernel, rfl, by decide +kernel, by decide +kernel⟩
local macro_rules | `(tactic| walk_at "len") => `(tactic| skip)
/-! ### the program: a head that is refused -/
structure CalX (P : Program) (w : World) (K : PySem.W.Frag) (mg : Str → Option Value) (base : Heap) (k : Nat) (x : Str) (sp : Sp) : Prop where
  ex : ∃ (f : Addr) (fd : FuncData) (ps : List Str), FnOk P w K mg base (L2.CX P w) k f fd ps sp ∧ mg x = some (.ref f) ∧ PySem.W.keepIn K (.ref f) = true ∧ Binds K fd ps []
section
variable {X : Cx} {k j : Nat} {x : Str} {sp : Sp} {E : XK} {p pos : Pos} {e : Expr} {es : List Expr} {t : TA}
theorem pe_cX (c : CalX X.prog X.w X.K X.mg X.base k x sp) (hr : Room j X.A) (hk : k ≤ j) (hg : Gl X x) (hx : Passes (L2.CX X.prog X.w) X E) (ha : PA X (e :: es) t)
    (hdb : (x == ("__debug__" : Str)) = false := by
          decide) (he : starEach (e :: es) X.env = (false, eval e X.env) :: starEach es X.env := by rfl)
    (hpl : (backTo pos (starEach es X.env)).any (·.1) = false := by rfl) :
    PE X (.Call (.Name x p) (e :: es) [] pos) (tCall sp [] E t) := by
  obtain ⟨f, fd, ps, F, hm, kp, b⟩ := c.ex
  exact pe_call F (hr.mono hk) hg hm kp b .nil hx ha hdb he hpl
end
theorem passX {X : Cx} {E : XK} (tk : Takes X fun cls d _ H => E cls d H) : Passes (L2.CX X.prog X.w) X E := passes_call tk fun _ _ _ _ z => z
/-- the numbers in a head are not too long -/
structure HSz (o : Int × Int) (ds : List PyData) : Prop where
  o2 : o.1.natAbs < 2 ^ 200 ∧ o.2.natAbs < 2 ^ 200
  num : ∀ d ∈ ds, (∀ a b, d = encQ (a, b) → b.natAbs < 2 ^ 8000) ∧ (isNumD d = true → (lowD d).1.natAbs < 2 ^ 200 ∧ (lowD d).2.natAbs < 2 ^ 200)
def NextOk (ds : List PyData) (j : Nat) : Prop := ∀ d, ds[j]? = some d → nextD d ((ds.take j).map lowD) = true
def LastOk (o : Int × Int) (ds : List PyData) : Prop := ∀ m, (ds.map lowD).getLast? = some m → ltQ m (plainQ o ds.length)
/-- why a head is refused -/
def HeadErr (o : Int × Int) (ds : List PyData) : Option Nat → Prop
  | none => 8 < ds.length
  | some i => ds.length ≤ 8 ∧ (((∃ d, ds[i]? = some d ∧ nextD d ((ds.take i).map lowD) = false) ∧ ∀ j, j < i → NextOk ds j) ∨ ((∀ j, NextOk ds j) ∧ ¬ LastOk o ds ∧ i + 1 = ds.length))
def VofN : Option Nat → V
  | none => .non
  | some i => .int (i : Nat)
section
variable {P : Program} {w : World} {K : PySem.W.Frag} {mg : Str → Option Value} {base : Heap} {c : Addr}
theorem ini_InvalidHead {C f : Addr} {fd : FuncData} (F : Fun K "__init__" "InvalidHead.__init__" s_InvalidHead___init__ f fd) (O : OexC K C) (no : PySem.W.findIn K (.ref C) "index" = some none) :
    FnOk P w K mg base CX0 1 f fd ["self", "index"] (sp_exi K C "index") := by
  refine F.ok sc_InvalidHead___init__ (fun vs H Q E h => ?_) (fun cdv A outer s H vs Q E hr h => ?_)
  · obtain ⟨_, _, rfl, _⟩ := h
    rfl
  · obtain ⟨a, v, rfl, e, q⟩ := h
    exact ⟨_, pss_one (ps_ost (pv 0) (pv 1)), ⟨_, rfl, _, rfl, a, C, rfl, O, no, .inl ⟨e, fun dx nd ne => q dx nd ne⟩⟩⟩
theorem ini_InvalidOffset {C f : Addr} {fd : FuncData} (F : Fun K "__init__" "InvalidOffset.__init__" s_InvalidOffset___init__ f fd) (O : OexC K C) (no : PySem.W.findIn K (.ref C) "value" = some none) :
    FnOk P w K mg base CX0 1 f fd ["self", "value"] (sp_exi K C "value") := by
  refine F.ok sc_InvalidOffset___init__ (fun vs H Q E h => ?_) (fun cdv A outer s H vs Q E hr h => ?_)
  · obtain ⟨_, _, rfl, _⟩ := h
    rfl
  · obtain ⟨a, v, rfl, e, q⟩ := h
    exact ⟨_, pss_one (ps_ost (pv 0) (pv 1)), ⟨_, rfl, _, rfl, a, C, rfl, O, no, .inl ⟨e, fun dx nd ne => q dx nd ne⟩⟩⟩
def sp__lowest_headX (K : PySem.W.Frag) (CH : Addr) : Sp := fun vs H Q E => ∃ (v u : V) (A : List Addr) (o : Int × Int) (ds : List PyData), vs = [v, u] ∧ Hd A H ∧ Is K A H v (encQ o) ∧ Is K A H u (.tuple ds) ∧ HSz o ds ∧
  (ds.length ≤ 8 → (∀ j, NextOk ds j) → LastOk o ds → ∀ t H', Same H H' → Is K A H' t (.tuple ((ds.map lowD).map encQ)) → Q t H') ∧
  ∀ x, HeadErr o ds x → ∀ dd H', Same H H' → H' dd = none → E (.ref CH) (some dd) (upd H' dd (.xd [("index", VofN x)]))
theorem calX__lowest_head {CH : Addr} (B : Bl mg) (DD : OwnDef K mg "_lowest_head" s__lowest_head) (C__is_next_mark : Cal P w K mg base 3 "_is_next_mark" (sp__is_next_mark K c) []) (C_lowest : Cal P w K mg base 2 "lowest" (sp_lowest K c) []) (C_is_less : Cal P w K mg base 1 "is_less" (sp_is_less K c) []) (C__plain_mark : Cal P w K mg base 1 "_plain_mark" (sp__plain_mark K c) []) (T : Tx K mg c) (RH : Rais P w K mg base 1 "InvalidHead" CH "index") :
    CalX P w K mg base 4 "_lowest_head" (sp__lowest_headX K CH) := by
  obtain ⟨f, fd, F, hm⟩ := DD.ex
  refine ⟨f, fd, ["offset", "head"], F.okX sc__lowest_head (fun vs H Q E h => ?len) (fun cdv A outer s H vs Q E hr h => ?run), hm, F.kp, F.binds (fun _ _ _ _ _ _ us hl => match us, hl with | [_, _], _ => rfl)⟩
  case len =>
    obtain ⟨_, _, _, _, _, rfl, _⟩ := h
    rfl
  case run =>
    obtain ⟨v, u, A0, o, ds, rfl, hA, hv, hu, hz, k, kx⟩ := h
    refine ⟨_, (pss_cons (ps_if (pt_cmpR op_gt (pe_callB call_len_seq (by rfl) B.len (by decide +kernel) (pa_cons (pv 1) pa_nil)) (pe_gint (by rfl) T.g_MOST_HEAD) (nomark _)) (pss_one (ps_rais RH rfl hr (by decide) (takes_of rfl rfl rfl rfl) (by rfl) (pa_cons pe_non pa_nil))) pss_nil)
      (pss_cons (ps_set (i := 2) sc__lowest_head.nd rfl (Or.inl rfl) (pe_lst pa_nil))
      (pss_cons (ps_for (passes_of rfl) rfl (pi_enumT (by rfl) B.enumerate (pa_cons (pv 1) pa_nil)) (pg_tup (by rfl) (pgs_cons (pg_name (i := 3) sc__lowest_head.nd rfl (Or.inl rfl)) (pgs_cons (pg_name (i := 4) sc__lowest_head.nd rfl (Or.inl rfl)) pgs_nil))) (pss_cons (ps_if (pt_not (pt_val (pe_c C__is_next_mark hr (by decide) (by rfl) (pa_cons (pv 4) (pa_cons (pv 2) pa_nil))))) (pss_one (ps_rais RH rfl hr (by decide) (takes_of rfl rfl rfl rfl) (by rfl) (pa_cons (pv 3) pa_nil))) pss_nil)
      (pss_one (ps_expr (pe_bm PySem.F.plainAttrs_list PySem.F.slot_list_append PySem.F.type_list_append mt_append (pv 2) (pa_cons (pe_c C_lowest hr (by decide) (by rfl) (pa_cons (pv 4) pa_nil)) pa_nil))))))
      (pss_cons (ps_if (PW.pt (pw_and (pt_truth (pv 2) (by intro _; rfl)) (pw_and1 (pt_not (pt_val (pe_c C_is_less hr (by decide) (by rfl) (pa_cons (pe_ix ix_seq (pv 2) (pe_un un_neg pe_int) (fun _ _ => rfl)) (pa_cons (pe_c C__plain_mark hr (by decide) (by rfl) (pa_cons (pv 0) (pa_cons (pe_callB call_len_seq (by rfl) B.len (by decide +kernel) (pa_cons (pv 2) pa_nil)) pa_nil))) pa_nil)))))))) (pss_one (ps_rais RH rfl hr (by decide) (takes_of rfl rfl rfl rfl) (by rfl) (pa_cons (pe_op op_sub (pe_callB call_len_seq (by rfl) B.len (by decide +kernel) (pa_cons (pv 2) pa_nil)) pe_int) pa_nil))) pss_nil)
      (pss_one (ps_ret (pe_callTy call_tuple_of (by rfl) B.tuple (by decide +kernel) (pa_cons (pv 2) pa_nil)))))))), ?_⟩
    obtain ⟨a, ws, rfl, sq, all⟩ := is_tup hu
    have sq0 := sqT_full sq
    have wl : ws.length = ds.length := all.len
    -- if len(head) > MOST_HEAD
    refine ⟨_, rfl, a, ws, rfl, .inr sq0, _, _, rfl, rfl, _, rfl, ite2 (fun e => ?_) (fun e => ?_)⟩
    · have e1 : (8 : Int) < ((ws.length : Nat) : Int) := of_decide_eq_true e
      have e2 : HeadErr o ds none := show 8 < ds.length by omega
      exact rais_read fun dd nd => kx none e2 dd H (Same.refl _) nd
    have n8 : ds.length ≤ 8 := by
      have : ¬ (8 : Int) < ((ws.length : Nat) : Int) := fun z => e (decide_eq_true z)
      omega
    -- marks = []
    refine ⟨Nat.zero_le _, fun l nl => ?_⟩
    have s1 : Same H (upd H l (.lst [])) := same_new nl
    have lA : l ∉ A0 := hA.out nl
    -- the loop
    refine ⟨_, rfl, a, ws, rfl, seqT_same s1 sq0, for_enumT (K := K) (a := a) (xs := ws) (fun i σ H2 => ∃ (x3 x4 : Option V) (ms : List V), σ = [some v, some (.ref a), some (.ref l), x3, x4] ∧ Same H H2 ∧ H2 l = some (.lst ms) ∧ Iss K (l :: A0) H2 ms (((ds.take i).map lowD).map encQ) ∧ ∀ j, j < i → NextOk ds j)
      ⟨none, none, [], rfl, s1, upd_same, DAll.nil, fun j hj => absurd hj (Nat.not_lt_zero j)⟩ (fun i σ H2 _ ⟨_, _, _, _, s2, _⟩ => seqT_same s2 sq0) ?_ ?_⟩
    · rintro i x σ H2 T0 hx ⟨x3, x4, ms, rfl, s2, el, hms, oks⟩ nT
      obtain ⟨d, hd, hxd⟩ := all.get' hx
      have hil : i < ds.length := (List.getElem?_eq_some_iff.mp hd).1
      have hdm : d ∈ ds := List.mem_of_getElem? hd
      obtain ⟨nsz, nsm⟩ := hz.num d hdm
      refine ⟨T0, _, rfl, .inl (.inl upd_same), rfl, _, _, rfl, x, [], rfl, rfl, ?_⟩
      have s3 : Same H2 (upd H2 T0 (.tup [.int (i : Nat), x])) := same_new nT
      have el3 := s3 _ _ el
      have hx3 : D K (upd H2 T0 (.tup [.int (i : Nat), x])) x d := D.same (s2.trans s3) (D.same hv_le hxd)
      have hms3 : DAll K (upd H2 T0 (.tup [.int (i : Nat), x])) ms (((ds.take i).map lowD).map encQ) := DAll.same s3 hms.full
      refine ⟨_, rfl, _, rfl, x, d, l, (ds.take i).map lowD, rfl, hx3, .lst' (.inl (.inl el3)) hms3, nsz, ?_, fun nu => small200 (nsm nu), fun H4 s4 => ⟨_, rfl, ?_⟩⟩
      · intro m hm
        obtain ⟨d', hd', rfl⟩ := List.mem_map.mp hm
        obtain ⟨j, hj⟩ := List.getElem?_of_mem hd'
        have hj2 : j < (ds.take i).length := (List.getElem?_eq_some_iff.mp hj).1
        rw [List.length_take] at hj2
        have hj3 : ds[j]? = some d' := by rw [List.getElem?_take_of_lt (by omega)] at hj; exact hj
        have ok := oks j (by omega) d' hj3
        unfold nextD at ok
        rw [Bool.and_eq_true] at ok
        exact small200 ((hz.num d' (List.mem_of_mem_take hd')).2 ok.1)
      have el4 := s4 _ _ el3
      cases nx : nextD d ((ds.take i).map lowD) with
      | false =>
        have e2 : HeadErr o ds (some i) := ⟨n8, .inl ⟨⟨d, hd, nx⟩, oks⟩⟩
        refine ite2 (fun _ => ?_) (fun z => absurd rfl z)
        exact ⟨_, rfl, rais_read fun dd nd => kx (some i) e2 dd H4 (s2.trans (s3.trans s4)) nd⟩
      | true =>
      have nu : isNumD d = true := by
        unfold nextD at nx
        rw [Bool.and_eq_true] at nx
        exact nx.1
      refine ite2 (fun z => nomatch z) (fun _ => ?_)
      refine ⟨_, rfl, .inl ⟨rfl, _, .inl (.inl el4)⟩, _, rfl, x, d, rfl, D.same s4 hx3, nu, nsz, fun p H5 s5 np ep => ?_⟩
      have el5 := s5 _ _ el4
      have npl : p ≠ l := fun z => by rw [z, el4] at np; cases np
      have sH5 : Same H H5 := s2.trans (s3.trans (s4.trans s5))
      have npA : p ∉ A0 := fun z => by
        have h1 : H p ≠ none := hA p z
        cases q : H p with
        | none => exact h1 q
        | some u =>
          have : H4 p = some u := s4 _ _ (s3 _ _ (s2 _ _ q))
          rw [this] at np
          cases np
      have msl : ms.length < sizeLine := by
        have e1 := hms.len
        rw [List.length_map, List.length_map, List.length_take] at e1
        exact small1000 (by omega)
      refine ⟨l, ms, _, rfl, rfl, el5, msl, ?_⟩
      refine ⟨some (.int (i : Nat)), some x, ms ++ [.ref p], rfl, fun b ob e => ?_, upd_same, ?_, fun j hj => ?_⟩
      · rw [upd_ne (ne_of_none e nl)]
        exact sH5 _ _ e
      · have g25 : Go (l :: A0) H2 (upd H5 l (.lst (ms ++ [.ref p]))) := (Go.of (s3.trans (s4.trans s5))).trans (Go.chg (by simp))
        have e2 : ((ds.take (i + 1)).map lowD).map encQ = ((ds.take i).map lowD).map encQ ++ [encQ (lowD d)] := by
          rw [List.take_add_one, hd]
          simp
        rw [e2]
        refine iss_app (Iss.mono g25 hms) (DAll.cons (Is_Q ?_ ?_) DAll.nil)
        · simp [npl, npA]
        · rw [upd_ne npl]
          exact ep
      · rcases Nat.lt_or_ge j i with y | y
        · exact oks j y
        · have : j = i := by omega
          subst this
          intro d' hd'
          rw [hd] at hd'
          cases hd'
          exact nx
    · rintro σ H2 ⟨x3, x4, ms, rfl, s2, el, hms, oks0⟩
      rw [wl, List.take_length] at hms
      have oks : ∀ j, NextOk ds j := fun j d hd => oks0 j (by rw [wl]; exact (List.getElem?_eq_some_iff.mp hd).1) d hd
      have ml : ms.length = ds.length := by rw [hms.len, List.length_map, List.length_map]
      have fin : LastOk o ds → ∀ H3, Same H2 H3 → ∀ p, H3 p = none → Q (.ref p) (upd H3 p (.tup ms)) := fun lo H3 s3 p np => by
        have hd3 : Hd A0 H3 := (Go.of (s2.trans s3)).held hA
        refine k n8 oks lo _ _ ((s2.trans s3).trans (same_new np)) ?_
        refine is_new_tup hd3 np (Iss.mono (Go.of s3) (Iss.less hms))
      refine ⟨_, rfl, !ms.isEmpty, .inl ⟨ms, .inl (.inl el), rfl⟩, ?_⟩
      cases hg : (ds.map lowD).getLast? with
      | none =>
        have e0 : ds = [] := by
          have := List.getLast?_eq_none_iff.mp hg
          exact List.map_eq_nil_iff.mp this
        have em : ms = [] := List.length_eq_zero_iff.mp (by rw [ml, e0]; rfl)
        subst em
        exact ⟨_, rfl, l, [], rfl, .inl ⟨.inl (.inl el), fun p np => fin (fun m hm => by rw [hg] at hm; cases hm) H2 (Same.refl _) p np⟩⟩
      | some m =>
        have hpos : 0 < ms.length := by
          rw [ml]
          cases ds with
          | nil => simp at hg
          | cons _ _ => simp
        have hne : ms ≠ [] := List.length_pos_iff.mp hpos
        have hb : (!ms.isEmpty) = true := by
          cases ms with
          | nil => exact absurd rfl hne
          | cons _ _ => rfl
        rw [hb]
        have em : ((ds.map lowD).map encQ)[ms.length - 1]? = some (encQ m) := by
          have z : ms.length = (ds.map lowD).length := by rw [ml, List.length_map]
          rw [z, List.getElem?_map, ← List.getLast?_eq_getElem?, hg]
          rfl
        obtain ⟨y, ey, hy⟩ := iss_get hms em
        have ea : atI ms (-1) = some y := by
          have hz : ms = ms.dropLast ++ [ms.getLast hne] := (List.dropLast_concat_getLast hne).symm
          have e2 : ms.getLast hne = y := by
            rw [← List.getLast?_eq_getElem?, List.getLast?_eq_getLast hne] at ey
            exact Option.some.inj ey
          rw [hz, e2]
          exact atI_last _ _
        have hmm : m ∈ ds.map lowD := List.mem_of_getLast? hg
        obtain ⟨dm, hdm, rfl⟩ := List.mem_map.mp hmm
        have nuM : isNumD dm = true := by
          obtain ⟨j, hj⟩ := List.getElem?_of_mem hdm
          have ok := oks j dm hj
          unfold nextD at ok
          rw [Bool.and_eq_true] at ok
          exact ok.1
        refine ⟨_, rfl, _, rfl, .inl ⟨l, ms, -1, y, rfl, rfl, .inl (.inl el), ea, ?_⟩⟩
        refine ⟨_, rfl, _, rfl, l, ms, rfl, .inl (.inl (.inl el)), v, o, ((ms.length : Nat) : Int), rfl, D.same s2 hv.full, ?_, Nat.lt_trans hz.o2.2 (by decide +kernel), fun p np => ?_⟩
        · exact Nat.lt_of_le_of_lt (show (((ms.length : Nat) : Int)).natAbs ≤ 8 by omega) (by decide +kernel)
        refine ⟨y, .ref p, lowD dm, plainQ o ((ms.length : Nat) : Int), rfl, D.same (same_new np) hy.full, D_Q upd_same, small200 ((hz.num dm hdm).2 nuM), ?_, ?_⟩
        · refine small200' ?_ ?_
          · show (o.1 + ((ms.length : Nat) : Int) * o.2).natAbs < 2 ^ 300
            exact plain_small (o := o) (n := ms.length) hz.o2 (by omega)
          · exact Nat.lt_trans hz.o2.2 (by decide +kernel)
        rw [ml]
        by_cases lo : ltQ (lowD dm) (plainQ o ((ds.length : Nat) : Int))
        · rw [show decide (ltQ (lowD dm) (plainQ o ((ds.length : Nat) : Int))) = true from decide_eq_true lo]
          refine ⟨_, rfl, ?_⟩
          have lok : LastOk o ds := fun m hm => by rw [hg] at hm; cases hm; exact lo
          exact ⟨_, rfl, l, ms, rfl, .inl ⟨.inl (.inl ((same_new np) _ _ el)), fun p' np' => fin lok _ (same_new np) p' np'⟩⟩
        · rw [show decide (ltQ (lowD dm) (plainQ o ((ds.length : Nat) : Int))) = false from decide_eq_false lo]
          have e2 : HeadErr o ds (some (ds.length - 1)) := ⟨n8, .inr ⟨oks, fun z => lo (z _ hg), by omega⟩⟩
          refine ⟨_, rfl, ite2 (fun _ => ?_) (fun z => absurd rfl z)⟩
          refine ⟨_, rfl, l, ms, rfl, .inl (.inl (.inl (same_new np _ _ el))), _, _, rfl, rfl, ?_⟩
          have ei : ((ms.length : Nat) : Int) - 1 = ((ds.length - 1 : Nat) : Int) := by omega
          dsimp only
          rw [ei]
          exact rais_read fun dd nd => kx (some (ds.length - 1)) e2 dd _ (s2.trans (same_new np)) nd
end

/-! ### the program: Rule(..) that is refused -/
open StX
section
variable {P : Program} {w : World} {K : PySem.W.Frag} {mg : Str → Option Value} {base : Heap} {c : Addr}
/-- Rule.__init__(self, offset, *head), at any -/
def sp_Rule_initX (K : PySem.W.Frag) (c CO CH : Addr) : Sp := fun vs H Q E => ∃ (r dx : Addr) (v : V) (t : Addr) (A : List Addr) (d : PyData) (ds : List PyData), vs = [.ref r, v, .ref t] ∧ H r = some (.ins c dx []) ∧ r ∉ A ∧ Hd A H ∧ Is K (r :: A) H v d ∧
  Is K (r :: A) H (.ref t) (.tuple ds) ∧ (∀ a b, d = encQ (a, b) → b.natAbs < 2 ^ 8000) ∧ (isOffD d = true → HSz (lowD d) ds) ∧
  (isOffD d = true → ds.length ≤ 8 → (∀ j, NextOk ds j) → LastOk (lowD d) ds → ∀ H', (∀ b o, b ≠ r → H b = some o → H' b = some o) → RuleAt K c A H' r (lowD d) (ds.map lowD) → Q .non H') ∧
  (isOffD d = false → ∀ dd H', (∀ b o, b ≠ r → H b = some o → H' b = some o) → H' dd = none → E (.ref CO) (some dd) (upd H' dd (.xd [("value", v)]))) ∧
  (isOffD d = true → ∀ x, HeadErr (lowD d) ds x → ∀ dd H', (∀ b o, b ≠ r → H b = some o → H' b = some o) → H' dd = none → E (.ref CH) (some dd) (upd H' dd (.xd [("index", VofN x)])))
theorem rd_Rule_initX {f CO CH : Addr} {cdv : Value} {Ar : Around} {outer : List Env} {s : Shared} {H : Hp} {vs : List V} {Q : VK} {E : XK} (B : Bl mg) (T : Tx K mg c) (RO : Rais P w K mg base 1 "InvalidOffset" CO "value")
    (C__is_offset : Cal P w K mg base 3 "_is_offset" (sp__is_offset K c) []) (C_lowest : Cal P w K mg base 2 "lowest" (sp_lowest K c) [])
    (CX_lowest_head : CalX P w K mg base 4 "_lowest_head" (sp__lowest_headX K CH)) (C_common_bottom : Cal P w K mg base 1 "common_bottom" (sp_common_bottom K c) []) (M_mark : Met P w K mg base 3 c "mark" (sp_Rule_mark K c))
    (hr : Room 6 (Ar.deeper (envOfC "Rule.__init__" (defScope s_Rule___init__) s.heap.objs.size f cdv))) (h : sp_Rule_initX K c CO CH vs H Q E) :
    ∃ t, PSs (cxOf (L2.CX P w) P w K mg base ["self", "offset", "head", "top", "bottom", "number"] "Rule.__init__" (defScope s_Rule___init__) f cdv Ar outer s H E) (defBody s_Rule___init__) t ∧
      t { nx := fun _ H' => Q .non H', rt := Q } (start ["self", "offset", "head", "top", "bottom", "number"] vs) H := by
  obtain ⟨r, dx, v, t, A, d, ds, rfl, er, rA, hA, hv, ht, hsz, hzs, k, kO, kH⟩ := h
  refine ⟨_, (pss_cons (ps_if (pt_not (pt_val (pe_c C__is_offset hr (by decide) (by rfl) (pa_cons (pv 1) pa_nil)))) (pss_one (ps_rais RO rfl hr (by decide) (takes_of rfl rfl rfl rfl) (by rfl) (pa_cons (pv 1) pa_nil))) pss_nil)
      (pss_cons (ps_fld (pv 0) (pe_c C_lowest hr (by decide) (by rfl) (pa_cons (pv 1) pa_nil)) rfl)
      (pss_cons (ps_fld (pv 0) (pe_cX CX_lowest_head hr (by decide) (by rfl) (passX (takes_of rfl rfl rfl rfl)) (pa_cons (pe_fld (pv 0) rfl) (pa_cons (pv 2) pa_nil))) rfl)
      (pss_cons (ps_fld (pv 0) (pe_c C_common_bottom hr (by decide) (by rfl) (pa_cons (pe_lst (pa_cons (pe_fld (pv 0) rfl) (pa_star (pe_fld (pv 0) rfl) pa_nil))) pa_nil)) rfl)
      (pss_cons (ps_fld (pv 0) (pe_lc (own := [("top", 3), ("bottom", 4)]) (by rfl) sc_Rule___init__.nd (pi_tup (pe_fld (pv 0) rfl)) (blkOk_by (own := [("top", 3), ("bottom", 4)]) (N := ["self", "offset", "head", "top", "bottom", "number"]) (sc := defScope s_Rule___init__) (by decide +kernel)) (fun _ _ _ _ _ => (show PG _ _ (gTup K 2 (gCons (gName 3) (gCons (gName 4) gNil))) from (pg_tup (by rfl) (pgs_cons (pg_name (i := 3) sc_Rule___init__.nd rfl (Or.inl rfl)) (pgs_cons (pg_name (i := 4) sc_Rule___init__.nd rfl (Or.inl rfl)) pgs_nil))))) (fun _ _ _ _ _ => pts_nil) (fun _ _ _ _ _ => (pe_op op_mulW (pv 3) (pe_op op_fdivW (show PE _ _ (tFld K (tVar 0) "unit") from pe_fld (pv 0) rfl) (pv 4))))) rfl)
      (pss_cons (ps_fld (pv 0) (pe_op op_mulW (pe_ix ix_seq (pe_fld (pv 0) rfl) pe_int (fun _ _ => rfl)) (pe_op op_fdivW (pe_fld (pv 0) rfl) (pe_ix ix_seq (pe_fld (pv 0) rfl) pe_int (fun _ _ => rfl)))) rfl)
      (pss_one (ps_fld (pv 0) (pe_callTy call_tuple_of (by rfl) B.tuple (by decide +kernel) (pa_cons (pe_lc (own := [("number", 5)]) (by rfl) sc_Rule___init__.nd (pi_range1 (by rfl) B.range (pa_cons (pe_gint (by rfl) T.g_MOST_HEAD) pa_nil)) (blkOk_by (own := [("number", 5)]) (N := ["self", "offset", "head", "top", "bottom", "number"]) (sc := defScope s_Rule___init__) (by decide +kernel)) (fun _ _ _ _ _ => (pg_name (i := 5) sc_Rule___init__.nd rfl (Or.inl rfl))) (fun _ _ _ _ _ => pts_nil) (fun _ _ _ _ _ => (pe_mt M_mark hr (by decide) (pv 0) (pa_cons (pv 5) pa_nil)))) pa_nil)) rfl)))))))), ?_⟩
  refine ⟨_, rfl, v, d, rfl, hv.full, hsz, fun H1 s1 => ⟨_, rfl, ?_⟩⟩
  cases ho : isOffD d with
  | false =>
    refine ite2 (fun _ => ?_) (fun z => absurd rfl z)
    exact ⟨_, rfl, rais_read fun dd nd => kO ho dd H1 (fun b o _ e => s1 b o e) nd⟩
  | true =>
  have hz := hzs ho
  have hn : isNumD d = true := by
    have ho' := ho
    unfold isOffD at ho'
    rw [Bool.and_eq_true] at ho'
    exact ho'.1
  refine ite2 (fun z => nomatch z) (fun _ => ?_)
  refine ⟨_, rfl, v, d, rfl, D.same s1 hv.full, hn, hsz, fun p H2 s2 np ep => ?_⟩
  have s02 := s1.trans s2
  have er2 := s02 _ _ er
  have npr : p ≠ r := fun z => by rw [z, s1 _ _ er] at np; cases np
  refine ⟨_, rfl, r, c, dx, _, rfl, er2, T.cl, T.nO, (by show 0 < 1000; decide), ?_⟩
  rw [put1]
  -- self.head = _lowest_head(self.offset, head)
  have hA0 : Hd (r :: A) H := Hd.cons er hA
  have hA2 : Hd (r :: A) H2 := (Go.of s02).held hA0
  have pA : p ∉ A := fun z => by
    cases q : H p with
    | none => exact hA p z q
    | some u => rw [s1 _ _ q] at np; cases np
  have g3 : Go (r :: A) H2 (upd H2 r (.ins c dx [("offset", .ref p)])) := Go.chg (by simp)
  have hA3 := g3.held hA2
  have hp3 : Is K (r :: A) (upd H2 r (.ins c dx [("offset", .ref p)])) (.ref p) (encQ (lowD d)) := Is_Q (by simp [npr, pA]) (by rw [upd_ne npr]; exact ep)
  have ht3 : Is K (r :: A) (upd H2 r (.ins c dx [("offset", .ref p)])) (.ref t) (.tuple ds) := Is.mono ((Go.of s02).trans g3) ht
  refine ⟨_, rfl, r, c, dx, _, _, rfl, upd_same, T.cl, T.nO, lkO _ _, _, rfl, .ref p, .ref t, r :: A, lowD d, ds, rfl, hA3, hp3, ht3, hz, fun n8 oks lo v1 H4 s4 hv1 => ?_, fun x ex dd H4 s4 nd => kH ho x ex dd H4 (fun b o hb e => s4 b o (by rw [upd_ne hb]; exact s02 _ _ e)) nd⟩
  have er4 := s4 _ _ (upd_same (H := H2) (a := r) (o := .ins c dx [("offset", .ref p)]))
  refine ⟨_, rfl, r, c, dx, _, rfl, er4, T.cl, T.nH, (by show 1 < 1000; decide), ?_⟩
  rw [put2]
  have hA4 := (Go.of s4).held hA3
  have g5 : Go (r :: A) H4 (upd H4 r (.ins c dx [("offset", .ref p), ("head", v1)])) := Go.chg (by simp)
  have hA5 := g5.held hA4
  have hp5 := Is.mono ((Go.of s4).trans g5) hp3
  have hv5 := Is.mono g5 hv1
  have er5 : (upd H4 r (.ins c dx [("offset", .ref p), ("head", v1)])) r = some (.ins c dx [("offset", .ref p), ("head", v1)]) := upd_same
  have k5 : ∀ b ob, b ≠ r → H4 b = some ob → (upd H4 r (.ins c dx [("offset", .ref p), ("head", v1)])) b = some ob := fun b ob hb e => by rw [upd_ne hb]; exact e
  generalize (upd H4 r (.ins c dx [("offset", .ref p), ("head", v1)])) = H5 at g5 hA5 hp5 hv5 er5 k5 ⊢
  -- self.unit = common_bottom([self.offset, *self.head])
  obtain ⟨a1, ws1, rfl, sq1, all1⟩ := is_tup hv5
  have wl1 : ws1.length = ds.length := by rw [all1.len, List.length_map, List.length_map]
  have v8 := n8
  have numB : ∀ q ∈ lowD d :: ds.map lowD, 0 < q.2 ∧ q.1.natAbs < 2 ^ 200 ∧ q.2.natAbs < 2 ^ 200 := fun q hq => by
    rcases List.mem_cons.mp hq with e | hq
    · subst e
      exact ⟨lowD_pos hn, hz.o2.1, hz.o2.2⟩
    · obtain ⟨d', hd', rfl⟩ := List.mem_map.mp hq
      have nu : isNumD d' = true := by
        obtain ⟨j, hj, ej⟩ := List.getElem_of_mem hd'
        have z := oks j d' (by rw [← ej]; exact List.getElem?_eq_getElem hj)
        unfold nextD at z
        rw [Bool.and_eq_true] at z
        exact z.1
      obtain ⟨z1, z2⟩ := (hz.num d' hd').2 nu
      exact ⟨lowD_pos nu, z1, z2⟩
  have hU : unitQ (lowD d) (ds.map lowD) = ((lcmN (lowD d :: ds.map lowD) : Nat) : Int) := rfl
  have U1 : (unitQ (lowD d) (ds.map lowD)).natAbs < 2 ^ 3201 := by
    rw [hU, Int.natAbs_natCast]
    exact lcmN_8000 (by rw [List.length_cons, List.length_map]; omega) fun q hq => (numB q hq).2.2
  have U0 : 0 ≤ unitQ (lowD d) (ds.map lowD) := by rw [hU]; exact Int.natCast_nonneg _
  have wq : ∀ q ∈ lowD d :: ds.map lowD, CDivW (unitQ (lowD d) (ds.map lowD)) q.2 ∧ CMulW q.1 (unitQ (lowD d) (ds.map lowD) / q.2) := fun q hq => by
    obtain ⟨b0, b1, b2⟩ := numB q hq
    refine ⟨wide_div b0 b2 (by decide) (by decide), wide_mul (b := 3201) b1 ?_ (by decide) (by decide) (by decide)⟩
    exact Nat.lt_of_le_of_lt (by
      have z0 : 0 ≤ unitQ (lowD d) (ds.map lowD) / q.2 := Int.ediv_nonneg U0 (by omega)
      have z1 : unitQ (lowD d) (ds.map lowD) / q.2 ≤ unitQ (lowD d) (ds.map lowD) := Int.ediv_le_self _ U0
      omega) U1
  generalize hUU : unitQ (lowD d) (ds.map lowD) = U at hU U1 U0 wq
  refine ⟨_, rfl, r, c, dx, _, _, rfl, er5, T.cl, T.nO, lkO _ _, _, rfl, r, c, dx, _, _, rfl, er5, T.cl, T.nH, lkH _ _ _, a1, ws1, rfl, .inl (sqT_full sq1), ⟨?_, fun l6 nl6 => ?_⟩⟩
  · rw [List.append_nil, List.length_cons]
    exact Nat.le_of_lt (small1000 (by omega))
  rw [List.append_nil]
  have g6 : Go (r :: A) H5 (upd H5 l6 (.lst (.ref p :: ws1))) := Go.new nl6
  have hl6 : Is K (r :: A) (upd H5 l6 (.lst (.ref p :: ws1))) (.ref l6) (.list ((lowD d :: ds.map lowD).map encQ)) := is_new_lst hA5 nl6 (DAll.cons hp5 all1)
  have s6 : Same H5 (upd H5 l6 (.lst (.ref p :: ws1))) := same_new nl6
  refine ⟨l6, r :: A, lowD d :: ds.map lowD, rfl, hl6, by rw [List.length_cons, List.length_map]; omega, fun q hq => (numB q hq).2.2, ?_⟩
  rw [← hU]
  have er6 := s6 _ _ er5
  have hA6 := g6.held hA5
  have hp6 := Is.mono g6 hp5
  have hv6 := Is.mono g6 hv5
  generalize (upd H5 l6 (.lst (.ref p :: ws1))) = H6 at g6 hl6 s6 er6 hA6 hp6 hv6 ⊢
  refine ⟨_, rfl, r, c, dx, _, rfl, er6, T.cl, T.nU, (by show 2 < 1000; decide), ?_⟩
  rw [put3]
  have g7 : Go (r :: A) H6 (upd H6 r (.ins c dx [("offset", .ref p), ("head", .ref a1), ("unit", .int U)])) := Go.chg (by simp)
  have hA7 := g7.held hA6
  have hp7 := Is.mono g7 hp6
  have hv7 := Is.mono g7 hv6
  have er7 : (upd H6 r (.ins c dx [("offset", .ref p), ("head", .ref a1), ("unit", .int U)])) r = some (.ins c dx [("offset", .ref p), ("head", .ref a1), ("unit", .int U)]) := upd_same
  have k7 : ∀ b ob, b ≠ r → H6 b = some ob → (upd H6 r (.ins c dx [("offset", .ref p), ("head", .ref a1), ("unit", .int U)])) b = some ob := fun b ob hb e => by rw [upd_ne hb]; exact e
  generalize (upd H6 r (.ins c dx [("offset", .ref p), ("head", .ref a1), ("unit", .int U)])) = H7 at g7 hA7 hp7 hv7 er7 k7 ⊢
  -- self._whole_head = [..]
  obtain ⟨a1', ws7, e7, sq7, all7⟩ := is_tup hv7
  cases e7
  have sq7f := sqT_full sq7
  have wl7 : ws7.length = ds.length := by rw [all7.len, List.length_map, List.length_map]
  refine ⟨_, rfl, r, c, dx, _, _, rfl, er7, T.cl, T.nH, lkH _ _ _, a1, rfl, ⟨_, sq7f⟩, fun D0 nD => ?_⟩
  refine lc_tup (K := K) (a := a1) (xs := ws7) (fun i H8 => Same H7 H8 ∧ H8 D0 = some (.lst (((ds.map lowD).take i).map fun q => V.int (timesQ U q)))) ⟨same_new nD, upd_same⟩ (fun i H8 _ ⟨s8, _⟩ => seqT_same s8 sq7f) ?_ ?_
  · rintro i y H8 hi ⟨s8, eD⟩
    obtain ⟨d', hd', hy⟩ := iss_get' all7 hi
    obtain ⟨q, hq, rfl⟩ := some_map hd'
    have qm : q ∈ lowD d :: ds.map lowD := List.mem_cons_of_mem _ (List.mem_of_getElem? hq)
    have hy8 := D.same s8 hy.full
    have er8 := s8 _ _ er7
    obtain ⟨wdq, wmq⟩ := wq q qm
    obtain ⟨b8, us8, rfl, sq8, all8⟩ := hy8.tuple
    obtain ⟨u1, us1, rfl, hu1, all8⟩ := dall_cons all8
    obtain ⟨u2, us2, rfl, hu2, all8⟩ := dall_cons all8
    obtain rfl : us2 = [] := List.length_eq_zero_iff.mp all8.len
    obtain rfl := hu1.int_eq
    obtain rfl := hu2.int_eq
    refine ⟨b8, _, rfl, sq8, rfl, _, _, rfl, _, [], rfl, rfl, ?_⟩
    refine ⟨rfl, _, rfl, _, rfl, r, c, dx, _, _, rfl, er8, T.cl, T.nU, lkU _ _ _ _, _, rfl, _, _, rfl, rfl, wdq, _, _, rfl, rfl, wmq, _, eD, ?_, fun b' o e => ?_, ?_⟩
    · rw [List.length_map, List.length_take, List.length_map]
      exact small1000 (by omega)
    · rw [upd_ne (ne_of_none e nD)]
      exact s8 _ _ e
    · rw [upd_same, List.take_add_one, hq, List.map_append]
      rfl
  rintro H8 ⟨s8, eD⟩
  rw [wl7, ← List.length_map (as := ds) (f := lowD), List.take_length] at eD
  have er8 := s8 _ _ er7
  refine ⟨_, rfl, r, c, dx, _, rfl, er8, T.cl, T.nW, (by show 3 < 1000; decide), ?_⟩
  rw [put4]
  have nDr : D0 ≠ r := fun z => by rw [z, er7] at nD; cases nD
  have D0A : D0 ∉ r :: A := hA7.out nD
  have g9 : Go (r :: A) H8 (upd H8 r (.ins c dx [("offset", .ref p), ("head", .ref a1), ("unit", .int U), ("_whole_head", .ref D0)])) := Go.chg (by simp)
  have hA8 := (Go.of s8).held hA7
  have hA9 := g9.held hA8
  have hp9 := Is.mono ((Go.of s8).trans g9) hp7
  have hv9 := Is.mono ((Go.of s8).trans g9) hv7
  have er9 : (upd H8 r (.ins c dx [("offset", .ref p), ("head", .ref a1), ("unit", .int U), ("_whole_head", .ref D0)])) r = some (.ins c dx [("offset", .ref p), ("head", .ref a1), ("unit", .int U), ("_whole_head", .ref D0)]) := upd_same
  have hw9 : Is K (r :: A) (upd H8 r (.ins c dx [("offset", .ref p), ("head", .ref a1), ("unit", .int U), ("_whole_head", .ref D0)])) (.ref D0) (.list ((ds.map lowD).map fun q => PyData.int (timesQ U q))) := by
    refine is_own_lst (vs := (ds.map lowD).map fun q => V.int (timesQ U q)) (by rw [upd_ne nDr]; exact eD) D0A ?_
    have z : Iss K (D0 :: r :: A) (upd H8 r (.ins c dx [("offset", .ref p), ("head", .ref a1), ("unit", .int U), ("_whole_head", .ref D0)])) (((ds.map lowD).map (timesQ U)).map V.int) (((ds.map lowD).map (timesQ U)).map PyData.int) := iss_ints _
    simp only [List.map_map, Function.comp_def] at z ⊢
    exact z
  have k9 : ∀ b ob, b ≠ r → H8 b = some ob → (upd H8 r (.ins c dx [("offset", .ref p), ("head", .ref a1), ("unit", .int U), ("_whole_head", .ref D0)])) b = some ob := fun b ob hb e => by rw [upd_ne hb]; exact e
  generalize (upd H8 r (.ins c dx [("offset", .ref p), ("head", .ref a1), ("unit", .int U), ("_whole_head", .ref D0)])) = H9 at g9 hA9 hp9 hv9 er9 hw9 k9 ⊢
  -- self.whole_offset = ..
  obtain ⟨wd, wm⟩ := wq _ (List.mem_cons_self)
  refine ⟨_, rfl, r, c, dx, _, _, rfl, er9, T.cl, T.nO, lkO _ _, ix_di hp9.full (by decide) rfl ?_⟩
  refine ⟨_, rfl, r, c, dx, _, _, rfl, er9, T.cl, T.nU, lkU _ _ _ _, _, rfl, r, c, dx, _, _, rfl, er9, T.cl, T.nO, lkO _ _, ix_di hp9.full (by decide) rfl ?_⟩
  refine ⟨_, _, rfl, rfl, wd, _, _, rfl, rfl, wm, ?_⟩
  refine ⟨_, rfl, r, c, dx, _, rfl, er9, T.cl, T.nX, (by show 4 < 1000; decide), ?_⟩
  rw [put5]
  dsimp only
  have hoT : (lowD d).1 * (U / (lowD d).2) = timesQ U (lowD d) := rfl
  rw [hoT]
  generalize hx : timesQ U (lowD d) = x
  have g11 : Go (r :: A) H9 (upd H9 r (.ins c dx [("offset", .ref p), ("head", .ref a1), ("unit", .int U), ("_whole_head", .ref D0), ("whole_offset", .int x)])) := Go.chg (by simp)
  have hA11 := g11.held hA9
  have hp11 := Is.mono g11 hp9
  have hv11 := Is.mono g11 hv9
  have hw11 := Is.mono g11 hw9
  have er11 : (upd H9 r (.ins c dx [("offset", .ref p), ("head", .ref a1), ("unit", .int U), ("_whole_head", .ref D0), ("whole_offset", .int x)])) r = some (.ins c dx [("offset", .ref p), ("head", .ref a1), ("unit", .int U), ("_whole_head", .ref D0), ("whole_offset", .int x)]) := upd_same
  have k11 : ∀ b ob, b ≠ r → H5 b = some ob → (upd H9 r (.ins c dx [("offset", .ref p), ("head", .ref a1), ("unit", .int U), ("_whole_head", .ref D0), ("whole_offset", .int x)])) b = some ob := fun b ob hb e => by
    rw [upd_ne hb]
    exact k9 b ob hb (s8 b ob (k7 b ob hb (s6 b ob e)))
  have k5' : ∀ b ob, b ≠ r → H4 b = some ob → (upd H9 r (.ins c dx [("offset", .ref p), ("head", .ref a1), ("unit", .int U), ("_whole_head", .ref D0), ("whole_offset", .int x)])) b = some ob := fun b ob hb e => k11 b ob hb (k5 b ob hb e)
  generalize (upd H9 r (.ins c dx [("offset", .ref p), ("head", .ref a1), ("unit", .int U), ("_whole_head", .ref D0), ("whole_offset", .int x)])) = H11 at g11 hA11 hp11 hv11 hw11 er11 k11 k5' ⊢
  -- self._start = tuple([..])
  refine ⟨8, rfl, by decide, by decide, fun E0 nE => ?_⟩
  have nEr : E0 ≠ r := fun z => by rw [z, er11] at nE; cases nE
  have nEA : E0 ∉ A := fun z => hA11 E0 (List.mem_cons_of_mem _ z) nE
  have oz : (lowD d).2.natAbs < 2 ^ 8000 := Nat.lt_trans hz.o2.2 (by decide +kernel)
  refine lc_range (lo := 0) (fun i H6 => Same H11 H6 ∧ Hd (E0 :: r :: A) H6 ∧ ∃ ws, H6 E0 = some (.lst ws) ∧ Iss K (E0 :: r :: A) H6 ws ((List.range i).map fun i => encQ (markQ (lowD d) (ds.map lowD) ((i : Nat) : Int))))
    ⟨same_new nE, Hd.cons upd_same (hd_new hA11 nE), [], upd_same, DAll.nil⟩ ?_ ?_
  · rintro i H6 hi ⟨s6, hA6, ws, eD, hws⟩
    have er6 := s6 _ _ er11
    have hi8 : i < 8 := by simpa using hi
    refine ⟨rfl, _, rfl, r, dx, _, rfl, er6, ?_, _, rfl, ?_⟩
    · rw [lk_cons, if_neg kOM, lk_cons, if_neg kHM, lk_cons, if_neg kUM, lk_cons, if_neg kWM, lk_cons, if_neg kXM]
      rfl
    refine ⟨r, dx, _, .ref p, .ref a1, E0 :: r :: A, lowD d, ds.map lowD, _, rfl, er6, lkO _ _, lkH _ _ _, hA6, Is.mono (Go.of s6) (Is.more nE hp11), Is.mono (Go.of s6) (Is.more nE hv11), by omega, ?_, oz, fun y H7 s7 hy => ?_⟩
    · exact Nat.lt_of_le_of_lt (show (0 + ((i : Nat) : Int)).natAbs ≤ 8 by omega) (by decide +kernel)
    · have wl : ws.length = i := by rw [hws.len]; simp
      refine ⟨ws, s7 _ _ eD, small1000 (by omega), fun b ob e => ?_, ?_, ws ++ [y], upd_same, ?_⟩
      · rw [upd_ne (ne_of_none e nE)]
        exact s7 _ _ (s6 _ _ e)
      · exact (Go.chg (A := E0 :: r :: A) (by simp)).held ((Go.of s7).held hA6)
      · have g8 : Go (E0 :: r :: A) H7 (upd H7 E0 (.lst (ws ++ [y]))) := Go.chg (by simp)
        rw [List.range_succ, List.map_append]
        refine iss_app (Iss.mono ((Go.of s7).trans g8) hws) (DAll.cons ?_ DAll.nil)
        have e0 : (0 + ((i : Nat) : Int)) = ((i : Nat) : Int) := by omega
        rw [e0] at hy
        exact Is.mono g8 hy
  · rintro H6 ⟨s6, hA6, ws, eD, hws⟩
    refine ⟨E0, ws, rfl, .inl ⟨.inl (.inl eD), fun l nl => ?_⟩⟩
    have er7 := (same_new nl (o := .tup ws)) _ _ (s6 _ _ er11)
    refine ⟨_, rfl, r, c, dx, _, rfl, er7, T.cl, T.nS, (by show 5 < 1000; decide), ?_⟩
    rw [put6]
    have lA : l ∉ E0 :: r :: A := hA6.out nl
    have g9 : Go (r :: A) H11 (upd (upd H6 l (.tup ws)) r (.ins c dx [("offset", .ref p), ("head", .ref a1), ("unit", .int U), ("_whole_head", .ref D0), ("whole_offset", .int x), ("_start", .ref l)])) := ((Go.of s6).trans (Go.new nl)).trans (Go.chg (by simp))
    have g10 : Go (E0 :: r :: A) H6 (upd (upd H6 l (.tup ws)) r (.ins c dx [("offset", .ref p), ("head", .ref a1), ("unit", .int U), ("_whole_head", .ref D0), ("whole_offset", .int x), ("_start", .ref l)])) := (Go.new nl).trans (Go.chg (by simp))
    refine k ho n8 oks lo _ (fun b ob hb e => ?_) ⟨dx, .ref p, .ref a1, .ref l, .ref D0, ?_, Is.less (Is.mono g9 hp11), Is.less (Is.mono g9 hv11), ?_, ?_⟩
    · have a2 := s02 _ _ e
      rw [upd_ne hb]
      have a4 := s4 b ob (by rw [upd_ne hb]; exact a2)
      have a5 : H11 b = some ob := k5' b ob hb a4
      exact (same_new nl) _ _ (s6 _ _ a5)
    · rw [hUU, hx]
      exact upd_same
    · have z : Is K (E0 :: r :: A) (upd H6 l (.tup ws)) (.ref l) (.tuple ((List.range 8).map fun i => encQ (markQ (lowD d) (ds.map lowD) ((i : Nat) : Int)))) := is_new_tup hA6 nl hws
      exact Is.less (Is.less (Is.mono (Go.chg (by simp)) z))
    · rw [hUU]
      exact Is.less (Is.mono g9 hw11)
/-- Rule(offset, mark, ..), at any -/
def sp_Rule_newX (K : PySem.W.Frag) (c CO CH : Addr) : Sp := fun vs H Q E => ∃ (r dx : Addr) (v : V) (rest : List V) (A : List Addr) (d : PyData) (ds : List PyData), vs = .ref r :: v :: rest ∧ H r = some (.ins c dx []) ∧ r ∉ A ∧ Hd A H ∧ Is K (r :: A) H v d ∧
  Iss K (r :: A) H rest ds ∧ rest.length ≤ 1000 ∧ (∀ a b, d = encQ (a, b) → b.natAbs < 2 ^ 8000) ∧ (isOffD d = true → HSz (lowD d) ds) ∧
  (isOffD d = true → ds.length ≤ 8 → (∀ j, NextOk ds j) → LastOk (lowD d) ds → ∀ H', (∀ b o, b ≠ r → H b = some o → H' b = some o) → RuleAt K c A H' r (lowD d) (ds.map lowD) → Q .non H') ∧
  (isOffD d = false → ∀ dd H', (∀ b o, b ≠ r → H b = some o → H' b = some o) → H' dd = none → E (.ref CO) (some dd) (upd H' dd (.xd [("value", v)]))) ∧
  (isOffD d = true → ∀ x, HeadErr (lowD d) ds x → ∀ dd H', (∀ b o, b ≠ r → H b = some o → H' b = some o) → H' dd = none → E (.ref CH) (some dd) (upd H' dd (.xd [("index", VofN x)])))
structure MakX (P : Program) (w : World) (K : PySem.W.Frag) (mg : Str → Option Value) (base : Heap) (k : Nat) (x : Str) (C : Addr) (sp : Sp) : Prop where
  ex : ∃ f : Addr, Mk K C f ∧ FnR P w K mg base (L2.CX P w) k f sp ∧ mg x = some (.ref C)
theorem makX_Rule {f CO CH : Addr} {fd : FuncData} (B : Bl mg) (T : Tx K mg c) (F : Fun K "__init__" "Rule.__init__" s_Rule___init__ f fd) (M : Mk K c f) (RO : Rais P w K mg base 1 "InvalidOffset" CO "value")
    (C__is_offset : Cal P w K mg base 3 "_is_offset" (sp__is_offset K c) []) (C_lowest : Cal P w K mg base 2 "lowest" (sp_lowest K c) [])
    (CX_lowest_head : CalX P w K mg base 4 "_lowest_head" (sp__lowest_headX K CH)) (C_common_bottom : Cal P w K mg base 1 "common_bottom" (sp_common_bottom K c) []) (M_mark : Met P w K mg base 3 c "mark" (sp_Rule_mark K c)) :
    MakX P w K mg base 7 "Rule" c (sp_Rule_newX K c CO CH) := by
  refine ⟨f, M, ?_, T.g_Rule⟩
  obtain ⟨oc, od, kV, doc, pm, an, cdv, ct, osl,
        rfl, lk, hcd⟩ := F.ex
  refine FnR.imp (fn_star (ps := ["self", "offset"]) (pv := "head") (N := ["self", "offset", "head", "top", "bottom", "number"]) (sp := sp_Rule_initX K c CO CH) (k := 6) lk hcd sc_Rule___init__ cxUp (fun us rest hl => match us, rest, hl with | [a, b], [], _ => rfl | [a, b], r :: rs, _ => rfl) ?_) ?_
  · intro A outer s H vs Q E hr h
    exact rd_Rule_initX B T RO C__is_offset C_lowest CX_lowest_head C_common_bottom M_mark hr h
  · rintro vs H Q E ⟨r, dx, v, rest, A, d, ds, rfl, er, rA, hA, hv, hr, rl, hsz, hzs, k, kO, kH⟩
    refine ⟨[.ref r, v], rest, rfl, rfl, Nat.le_of_lt (small1000 (by omega)), fun p np => ?_⟩
    have hA0 : Hd (r :: A) H := Hd.cons er hA
    have kp : ∀ {H' : Hp}, (∀ b o, b ≠ r → (upd H p (.tup rest)) b = some o → H' b = some o) → ∀ b o, b ≠ r → H b = some o → H' b = some o := fun {H'} keep b o hb e => keep b o hb (same_new np _ _ e)
    exact ⟨r, dx, v, p, A, d, ds, rfl, same_new np _ _ er, rA, hd_new hA np, Is.mono (Go.new np) hv, is_new_tup hA0 np hr, hsz, hzs, fun o1 o2 o3 o4 H' keep R => k o1 o2 o3 o4 H' (kp keep) R, fun o1 dd H' keep nd => kO o1 dd H' (kp keep) nd, fun o1 x ex dd H' keep nd => kH o1 x ex dd H' (kp keep) nd⟩
end
section
variable {X : Cx} {k j : Nat} {C : Addr} {sp : Sp} {x : Str} {e : Expr} {es : List Expr} {t : TA} {p pos : Pos} {E : XK}
theorem pe_mkX (c : MakX X.prog X.w X.K X.mg X.base k x C sp) (hr : Room j X.A) (hk : k + 1 ≤ j) (hg : Gl X x) (hx : Passes (L2.CX X.prog X.w) X E) (ha : PA X (e :: es) t) (hdb : (x == ("__debug__" : Str)) = false := by decide)
    (he : starEach (e :: es) X.env = (false, eval e X.env) :: starEach es X.env := by
          rfl) (hpl : (backTo pos (starEach es X.env)).any (·.1) = false := by rfl) :
    PE X (.Call (.Name x p) (e :: es) [] pos) (tMakeR C sp E t) := by
  obtain ⟨f, M, F, m⟩ := c.ex
  exact pe_makeR M F (hr.mono hk) hg m hx ha hdb he hpl
end

end LW

set_option Elab.async false
set_option linter.all false
set_option maxRecDepth 100000
set_option maxHeartbeats 4000100
set_option exponentiation.threshold 9000
namespace LW
open L2 PySem.Spec PyProof.Rows PySem
abbrev s__law_got : Stmt := topS 35
theorem sc__law_got : FnScope ["_law_ask", "_law_given", "e"] ["_law_ask"] (defScope s__law_got) := ⟨rfl, rfl, rfl, by decide +kernel, rfl, by decide +kernel, by decide +kernel⟩
local macro_rules | `(tactic| walk_at "len") => `(tactic| skip)
/-! ### the law: what a call gives or raises (two classes) -/
/-- what the written part says of an error class -/
structure GotC (K : PySem.W.Frag) (mg : Str → Option Value) (x n : Str) (C CI : Addr) : Prop where
  xf : XfC K C
  no : PySem.W.findIn K (.ref C) n = some none
  ie : IsEx K C
  gC : mg x = some (.ref C)
  te : PySem.W.exmOne K (.ref C) (.ref C) = some true
  kI : PySem.W.kitOne K (.ref C) (.ref CI) = some true
  kV : PySem.W.kitOne K (.ref C) (.type "ValueError") = some true
section
variable {X : Cx}
/-- what is asked of a lambda that raises -/
def Egot2 (CH CO : Addr) (Q : VK) : XK := fun cls d H' => (∃ (dd : Addr) (v : V), cls = .ref CH ∧ d = some dd ∧ H' dd = some (.xd [("index", v)]) ∧ ∀ l, H' l = none → l ≠ sysModules → Q (.ref l) (upd H' l (.lst [.str "InvalidHead", v, .bl true]))) ∨
  ∃ (dd : Addr) (v : V), cls = .ref CO ∧ d = some dd ∧ H' dd = some (.xd [("value", v)]) ∧ ∀ l, H' l = none → l ≠ sysModules → Q (.ref l) (upd H' l (.lst [.str "InvalidOffset", v, .bl true]))
def TTgot2 (CH CO : Addr) : (XK → Hp → VK → Prop) → Hp → VK → Prop := fun tl H Q => ∀ Qg : VK, (∀ v H', (∀ l, H' l = none → Q (.ref l) (upd H' l (.lst [.str "given", v]))) → Qg v H') → tl (Egot2 CH CO Q) H Qg
theorem got_gives2 {CH CO CI g : Addr} {cdg : Value} {q : Str} (B : Bl X.mg) (GH : GotC X.K X.mg "InvalidHead" "index" CH CI) (GO : GotC X.K X.mg "InvalidOffset" "value" CO CI) (not : PySem.W.exmOne X.K (.ref CO) (.ref CH) = some false)
    (gI : X.mg "InputError" = some (.ref CI)) (mV : X.mg "ValueError" = none) :
    LamX.GivesTo X ["_law_ask", "_law_given", "e"] "_law_got" (defScope s__law_got) g cdg (defBody s__law_got) "_law_ask" q (TTgot2 CH CO) := by
  intro f c' s H Q tl act hc h
  refine ⟨_, pss_cons (ps_try_ass (X := (cxOf C8.CX0 X.prog X.w X.K X.mg X.base ["_law_ask", "_law_given", "e"] "_law_got" (defScope s__law_got) g cdg X.A X.stack s H C8.E0).nox) (Wout := fun _ _ _ _ => False)
      (tb := fun W D σ H => ∃ Ech : XK, (∀ cls d σ' H', σ'.length = 3 → Ech cls d H' → W cls d σ' H') ∧ σ[0]? = some (some (.ref f)) ∧ H c' = some (LamX.CodeO c' q) ∧ tl Ech H (fun v H' => D.nx (σ.set 1 (some v)) H'))
      rfl rfl sc__law_got.nd LamX.takes0 (fun W pn xe tk _ => ?body)
      (.cons (i := 2) (c := .ref CH) rfl rfl ⟨rfl, by decide, .inl GH.gC⟩ (fun a oe cls d pn hz hf => pss_one (ps_ret (pe_lstS (pa_cons pe_str (pa_cons (pe_xf GH.xf GH.no hz hf (pv 2)) (pa_cons
        (pe_and (pe_callB (call_isO GH.ie hz hf) (by rfl) B.isinstance (by decide +kernel) (pa_cons (pv 2) (pa_cons (pe_glob (v := .ref CI) (by rfl) gI rfl) pa_nil)))
          (pe_one (pe_callB (call_isO GH.ie hz hf) (by rfl) B.isinstance (by decide +kernel) (pa_cons (pv 2) (pa_cons (pe_bltn (v := .ty "ValueError") (by rfl) mV (by decide +kernel) rfl) pa_nil))))) pa_nil))))))
        (.cons (i := 2) (c := .ref CO) rfl rfl ⟨rfl, by decide, .inl GO.gC⟩ (fun a oe cls d pn hz hf => pss_one (ps_ret (pe_lstS (pa_cons pe_str (pa_cons (pe_xf GO.xf GO.no hz hf (pv 2)) (pa_cons
        (pe_and (pe_callB (call_isO GO.ie hz hf) (by rfl) B.isinstance (by decide +kernel) (pa_cons (pv 2) (pa_cons (pe_glob (v := .ref CI) (by rfl) gI rfl) pa_nil)))
          (pe_one (pe_callB (call_isO GO.ie hz hf) (by rfl) B.isinstance (by decide +kernel) (pa_cons (pv 2) (pa_cons (pe_bltn (v := .ty "ValueError") (by rfl) mV (by decide +kernel) rfl) pa_nil))))) pa_nil)))))) .nil)))
      (pss_one (ps_ret (pe_lst (pa_cons pe_str (pa_cons (pv 1) pa_nil))))), ?read⟩
  case body =>
    refine ⟨fun pins s' σ H' D I h' => ?_⟩
    obtain ⟨Ech, hW, h1,
          h2, h3⟩ := h'
    exact (pss_one (ps_set (i := 1) sc__law_got.nd rfl (Or.inl rfl) (act (fun cls d _ H'' => Ech cls d H'') pn xe Ech _ _ (Takes.len tk fun cls d σ' H'' e w => hW cls d σ' H'' e w) (fun _ _ _ _ z => z)))).run pins s' σ H' D I ⟨h1, h2, h3⟩
  case read =>
    refine ⟨Egot2 CH CO Q, fun cls d σ' H' ln z => ?_, rfl, hc, ?_⟩
    · rcases z with ⟨dd, v, rfl, rfl, ed, k⟩ | ⟨dd, v, rfl, rfl, ed, k⟩
      · refine ⟨true, GH.te, fun _ a na => ?_, fun z => Bool.noConfusion z⟩
        have l2 : (σ'.set 2 (some (V.ref a)))[2]? = some (some (.ref a)) := List.getElem?_set_self (by omega)
        refine ⟨.ref a, l2, rfl, rfl, dd, [("index", v)], v, rfl, ed, by simp [List.lookup], ?_⟩
        refine ⟨.ref a, l2, .ref CI, .ref CI, true, dd, _, rfl, rfl, rfl, fun u hu => hu, ed, GH.kI, true, rfl, ?_⟩
        refine ⟨.ref a, l2, .ty "ValueError", .type "ValueError", true, dd, _, rfl, rfl, rfl, fun u hu => hu, ed, GH.kV, ?_⟩
        exact ⟨by show 3 ≤ sizeLine; decide, fun p np ne => k p np ne⟩
      · refine ⟨false, not, fun z => Bool.noConfusion z, fun _ => ?_⟩
        change wAs _ _ _ _ _ _ _ _ _ _
        refine ⟨true, GO.te, fun _ a na => ?_, fun z => Bool.noConfusion z⟩
        have l2 : (σ'.set 2 (some (V.ref a)))[2]? = some (some (.ref a)) := List.getElem?_set_self (by omega)
        refine ⟨.ref a, l2, rfl, rfl, dd, [("value", v)], v, rfl, ed, by simp [List.lookup], ?_⟩
        refine ⟨.ref a, l2, .ref CI, .ref CI, true, dd, _, rfl, rfl, rfl, fun u hu => hu, ed, GO.kI, true, rfl, ?_⟩
        refine ⟨.ref a, l2, .ty "ValueError", .type "ValueError", true, dd, _, rfl, rfl, rfl, fun u hu => hu, ed, GO.kV, ?_⟩
        exact ⟨by show 3 ≤ sizeLine; decide, fun p np ne => k p np ne⟩
    · exact h _ fun v H' k => ⟨v, rfl, by show 2 ≤ sizeLine; decide, fun p np => k p np⟩
end
/-- what the written part says of both classes and of the law's def that catches them -/
structure GotT2 (K : PySem.W.Frag) (mg : Str → Option Value) (CH CO CI : Addr) : Prop where
  gh : GotC K mg "InvalidHead" "index" CH CI
  go : GotC K mg "InvalidOffset" "value" CO CI
  not : PySem.W.exmOne K (.ref CO) (.ref CH) = some false
  gI : mg "InputError" = some (.ref CI)
  mV : mg "ValueError" = none
  fn : OwnDef K mg "_law_got" s__law_got
section
variable {X : Cx} {CH CO CI c P : Addr} {T : List (Addr × Str)} {k : Nat} {params : Arguments} {body : Expr} {scope : Scope} {t : XK → TE} {p lpos pos : Pos}
theorem pe_got2 (B : Bl X.mg) (G : GotT2 X.K X.mg CH CO CI) (hg : Gl X "_law_got") (TB : LamX.TabB X.base X.mg c P) (hcode : X.env.code = .ref c) (hmT : (P, X.env.qual ++ "<lambda>") ∈ T) (hu : ∀ p ∈ T, p.1 = P → p.2 = X.env.qual ++ "<lambda>")
    (hr : Room (k + 2) X.A) (L : LamX.LamS X.env.scope scope) (hdef : defaultsOf params X.env = ([], []))
    (hbind : ∀ (q : Str) (cl : List (Str × Addr)) (pm cv ctv : Value), bindArgs (PySem.W.kla_fn "<lambda>" q
          params body scope cl pm cv ctv) ⟨[], []⟩ = pure [])
    (hbody : ∀ (A : Around) (outer : List Env) (s : Shared) (H : Hp) (E : XK) (f c' : Addr), Room k (A.deeper (LamX.lamEnv X scope s.heap.objs.size f c')) → PE (LamX.lamCx X A outer s H E scope f c') body (t E)) :
    PE X (.Call (.Name "_law_got" p) [.Lambda params body scope lpos] [] pos) (LamX.tLam T (TTgot2 CH CO) t) := by
  obtain ⟨f, fd, F, m⟩ := G.fn.ex
  have hb : Binds X.K fd ["_law_ask"] [] := F.binds (fun _ _ _ _ _ _ us hl => match us, hl with | [_], _ => rfl)
  have kp := F.kp
  obtain ⟨oc, od, kV, doc, pm, an, cdv, ct, osl,
        rfl, lk, hcd⟩ := F.ex
  exact LamX.pe_lamcall (a := "_law_ask") hg m kp lk hcd hb sc__law_got rfl (.inl rfl) (got_gives2 B G.gh G.go G.not G.gI G.mV) TB hcode hmT hu hr L hdef hbind hbody
end

end LW

set_option Elab.async false
set_option linter.all false
set_option maxRecDepth 100000
set_option maxHeartbeats 4000100
set_option exponentiation.threshold 9000
namespace LW
open PySem PySem.Spec PyProof.Rows L2 StX
abbrev s_Rule___str__ : Stmt := inClass (topS 30) 5
theorem sc_Rule___str__ : FnScope ["self", "words", "mark"] ["self"] (defScope s_Rule___str__) := ⟨rfl, rfl, rfl, by decide +kernel, rfl, by decide +kernel, by decide +kernel⟩
local macro_rules | `(tactic| walk_at "len") => `(tactic| skip)
/-! ### the program: a rule's text -/
section
variable {P : Program} {w : World} {K : PySem.W.Frag} {mg : Str → Option Value} {base : Heap} {c : Addr}
def sp_Rule_str (K : PySem.W.Frag) (c : Addr) : Sp := fun vs H Q _ => ∃ (r : Addr) (A : List Addr) (o : Int × Int) (hd : List (Int × Int)), vs = [.ref r] ∧ RuleAt K c A H r o hd ∧ VR o hd ∧
  ∀ H', Same H H' → Q (.str (SX.S (ruleL o hd))) H'
theorem ok_Rule_str {f : Addr} {fd : FuncData} (B : Bl mg) (T : Tx K mg c) (F : Fun K "__str__" "Rule.__str__" s_Rule___str__ f fd) (C_number_text : Cal P w K mg base 2 "number_text" (sp_number_text K c) []) :
    FnOk P w K mg base CX0 (2 + 1) f fd ["self"] (sp_Rule_str K c) := by
  refine F.ok sc_Rule___str__ (fun vs H Q E h => ?_) (fun cdv A outer s H vs Q E hr h => ?_)
  · obtain ⟨_, _, _, _, rfl, _⟩ := h; rfl
  · obtain ⟨r, A0, o, hd, rfl, R, vr, k⟩ := h
    refine ⟨_, (pss_cons (ps_setLc (i := 1) (own := [("mark", 2)]) (by rfl) sc_Rule___str__.nd rfl rfl (sw_true rfl rfl rfl (by decide +kernel)) (pi_tup (pe_fld (pv 0) rfl)) (blkOk_by (own := [("mark", 2)]) (N := ["self", "words", "mark"]) (sc := defScope s_Rule___str__) (by decide +kernel)) (fun _ _ _ _ _ => (pg_name (i := 2) sc_Rule___str__.nd rfl (Or.inl rfl))) (fun _ _ _ _ _ => pts_nil) (fun _ _ _ _ _ => (pe_c C_number_text hr (by decide) (by rfl) (pa_cons (pv 2) pa_nil))))
      (pss_one (ps_ret (pe_join pe_str (pe_lst (pa_star (pv 1) (pa_cons pe_str (pa_cons (pe_c C_number_text hr (by decide) (by rfl) (pa_cons (pe_fld (pv 0) rfl) pa_nil)) pa_nil)))))))), ?_⟩
    obtain ⟨dx, v0, v1, v2, v3, e, h0, h1, h2, h3⟩ := R.ex
    have v8 := vr.len
    obtain ⟨a, ws, rfl, sq, all⟩ := is_tup h1
    have wl : ws.length = hd.length := by rw [all.len, List.length_map]
    have sq0 := sqT_full sq
    refine ⟨_, rfl, r, c, dx, _, _, rfl, e, T.cl, T.nH, lkH _ _ _, a, rfl, ⟨_, sq0⟩, fun d0 nD => ?_⟩
    refine lc_tup (K := K) (a := a) (xs := ws) (fun i H4 => Same H H4 ∧ H4 d0 = some (.lst (((hd.take i).map fun q => V.str (SX.S (qL q)))))) ⟨same_new nD, upd_same⟩ (fun i H4 _ ⟨s4, _⟩ => seqT_same s4 sq0) ?_ ?_
    · rintro i y H4 hi ⟨s4, eD⟩
      obtain ⟨d, hd', hy⟩ := iss_get' all hi
      obtain ⟨q, hq, rfl⟩ := some_map hd'
      have qm : q ∈ hd := List.mem_of_getElem? hq
      refine ⟨rfl, _, rfl, y, q, rfl, D.same s4 hy.full, (vr.oks q qm).1, fun H5 s5 => ⟨_, s5 _ _ eD, ?_, fun b' o e => ?_, ?_⟩⟩
      · rw [List.length_map,
            List.length_take]
        exact small1000 (by omega)
      · rw [upd_ne (ne_of_none e nD)]
        exact s5 _ _ (s4 _ _ e)
      · rw [upd_same, List.take_add_one, hq, List.map_append]
        rfl
    rintro H4 ⟨s4, eD⟩
    rw [wl, List.take_length] at eD
    dsimp only [gName, tSeq, tRet]
    refine ⟨⟨_, rfl⟩, _, rfl, d0, _, rfl, .inr (.inl (.inl eD)), ?_⟩
    refine ⟨_, rfl, r, c, dx, _, _, rfl, s4 _ _ e, T.cl, T.nO, lkO _ _, v0, o, rfl, D.same s4 h0.full, vr.ok, fun H5 s5 => ?_⟩
    have c124 : ("|" : Str) = SX.S [124] := by decide +kernel
    have c32 : (" " : Str) = SX.S [32] := by decide +kernel
    have el : (hd.map fun q => V.str (SX.S (qL q))) ++ [V.str ("|" : Str), V.str (SX.S (qL o))] = ((ruleParts o hd).map SX.S).map V.str := by
      unfold ruleParts
      rw [c124]
      simp only [List.map_append, List.map_map, List.map_cons, List.map_nil]
      rfl
    refine ⟨?_, fun p np => ?_⟩
    · have sl : sizeLine = 16777216 := sizeLine_eq
      rw [List.length_append, List.length_map, sl]
      show hd.length + 2 ≤ _
      omega
    refine ⟨_, p, (ruleParts o hd).map SX.S, rfl, rfl, .inl (.inl (.inl ?_)), ?_, ?_⟩
    · rw [← el]
      exact upd_same
    · have h2 : ∀ p ∈ ruleParts o hd, p.length ≤ 101 := by
        intro p hp
        unfold ruleParts at hp
        rcases List.mem_append.mp hp
              with hp | hp
        · obtain ⟨q, hq, rfl⟩ := List.mem_map.mp hp
          exact qL_len (vr.oks q hq).1
        · rcases List.mem_cons.mp hp
              with rfl | hp
          · decide
          · rw [List.mem_singleton] at hp
            subst hp
            exact qL_len vr.ok
      have h3 := sum_le h2
      have h4 : (ruleParts o hd).length = hd.length + 2 := by unfold ruleParts; simp
      have e1 : (((ruleParts o hd).map SX.S).map (fun x => x.length)).sum = ((ruleParts o hd).map (·.length)).sum := by
        rw [List.map_map]
        exact congrArg List.sum (List.map_congr_left fun q _ => SX.S_len q)
      have e2 : (" " : Str).length = 1 := by rw [c32, SX.S_len] <;> rfl
      rw [e1, e2, List.length_map, h4]
      rw [h4] at h3
      omega
    · have e : Txt.join (" " : Str) ((ruleParts o hd).map SX.S) = SX.S (ruleL o hd) := by
        rw [c32, SX.join_S]
        rfl
      show Q (.str (Txt.join (" " : Str) ((ruleParts o hd).map SX.S))) _
      rw [e]
      exact k _ ((s4.trans s5).trans (same_new np))
end

end LW

set_option Elab.async false
set_option linter.all false
set_option maxRecDepth 100000
set_option maxHeartbeats 4000100
set_option exponentiation.threshold 9000
namespace LW
open PySem PySem.Spec PyProof.Rows L2 StX
abbrev s__law_tank : Stmt := topS 32
theorem sc__law_tank : FnScope ["_law_script", "_law_k", "_law_mixed", "_law_entry", "_law_own"] ["_law_script", "_law_k"] (defScope s__law_tank) := ⟨rfl, rfl, rfl, by decide +kernel, rfl, by decide +kernel, by decide +kernel⟩
abbrev s__law_tap : Stmt := topS 33
theorem sc__law_tap : FnScope ["_law_tank_here", "_law_many", "_law_part"] ["_law_tank_here", "_law_many"] (defScope s__law_tap) := ⟨rfl, rfl, rfl, by decide +kernel, rfl, by decide +kernel, by decide +kernel⟩
abbrev s__law_any : Stmt := topS 34
theorem sc__law_any : FnScope ["_law_tank_here", "_law_things"] ["_law_tank_here", "_law_things"] (defScope s__law_any) := ⟨rfl, rfl, rfl, by decide +kernel, rfl, by decide +kernel, by decide +kernel⟩
local macro_rules | `(tactic| walk_at "len") => `(tactic| skip)
/-! ### the draws -/
section
variable {P : Program} {w : World} {K : PySem.W.Frag} {mg : Str → Option Value} {base : Heap} {c : Addr}
/-- _law_tank(script, k) -/
def sp__law_tank (K : PySem.W.Frag) (c : Addr) : Sp := fun vs H Q _ => ∃ (a : Addr) (ns : List Int) (k : Int), vs = [.ref a, .int k] ∧ SqL K H a (ns.map V.int) ∧ ns.length ≤ 1000 ∧ 0 ≤ k ∧ k < 1000 ∧
  ∀ p H', Same H H' → H p = none → TankAt H' p → Q (.ref p) H'
theorem cal__law_tank (B : Bl mg) (DD : OwnDef K mg "_law_tank" s__law_tank)   : Cal P w K mg base 1 "_law_tank" (sp__law_tank K c) [] := by
  obtain ⟨f, fd, F, hm⟩ := DD.ex
  refine ⟨f, fd, ["_law_script", "_law_k"], [], F.ok sc__law_tank (fun vs H Q E h => ?len) (fun cdv A outer s H vs Q E hr h => ?run), hm, F.kp, F.binds (fun _ _ _ _ _ _ us hl => match us, hl with | [_, _], _ => rfl), .nil⟩
  case len => first | (obtain ⟨_, rfl, _⟩ := h; rfl) | (obtain ⟨_, _, rfl, _⟩ := h; rfl) | (obtain ⟨_, _, _, rfl, _⟩ := h; rfl) | (obtain ⟨_, _, _, _, rfl, _⟩ := h; rfl) | (obtain ⟨_, _, _, _, _, rfl, _⟩ := h; rfl) | (obtain ⟨_, _, _, _, _, _, rfl, _⟩ := h; rfl) | (obtain ⟨_, _, _, _, _, _, _, rfl, _⟩ := h; rfl) | (obtain ⟨_, _, _, _, _, _, _, _, rfl, _⟩ := h; rfl) | (obtain ⟨_, _, _, _, _, _, _, _, _, rfl, _⟩ := h; rfl) | (obtain ⟨_, _, _, _, _, _, _, _, _, _, rfl, _⟩ := h; rfl) | (obtain ⟨_, _, _, _, _, _, _, _, _, _, _, rfl, _⟩ := h; rfl) | (obtain ⟨_, _, _, _, _, _, _, _, _, _, _, _, rfl, _⟩ := h; rfl) | (obtain ⟨_, _, _, _, _, _, _, _, _, _, _, _, _, rfl, _⟩ := h; rfl) | (obtain ⟨_, _, _, _, _, _, _, _, _, _, _, _, _, _, rfl, _⟩ := h; rfl)
  case run =>
    obtain ⟨a, ns, k, rfl, hS, hn, hk, hk2, q⟩ := h
    refine ⟨_, (pss_cons (ps_set (i := 2) sc__law_tank.nd rfl (Or.inl rfl) (pe_op op_add pe_int (pe_op op_mul pe_int (pv 1))))
      (pss_cons (ps_for PassesOwn.never rfl (pi_list (pe_slice sl_list (pv 0) po_none (po_some pe_int))) (pg_name (i := 3) sc__law_tank.nd rfl (Or.inl rfl)) (pss_one (ps_set (i := 2) sc__law_tank.nd rfl (Or.inl rfl) (pe_op op_mod (pe_callTy call_int1 (by rfl) B.int (by decide +kernel) (pa_cons (pe_op op_add (pe_op op_mul (pv 2) pe_int) (pe_op op_mod (pe_callTy call_int1 (by rfl) B.int (by decide +kernel) (pa_cons (pv 3) pa_nil)) pe_int)) pa_nil)) pe_int))))
      (pss_cons (ps_set (i := 4) sc__law_tank.nd rfl (Or.inl rfl) (pe_ifExp (pt_cmpR op_lt (pv 1) (pe_callB call_len_seq (by rfl) B.len (by decide +kernel) (pa_cons (pv 0) pa_nil)) (nomark _)) (pe_callTy call_int1 (by rfl) B.int (by decide +kernel) (pa_cons (pe_ix ix_seq (pv 0) (pv 1) (fun _ _ => rfl)) pa_nil)) (pe_op op_add (pe_op op_mul pe_int (pv 1)) pe_int)))
      (pss_one (ps_ret (pe_lst (pa_cons (pe_ifExp (PW.pt (pw_or (pt_cmpR op_lt (pv 4) pe_int (nomark _)) (pw_or1 (pt_cmpR op_ge (pv 4) (pe_op op_pow pe_int pe_int) (nomark _))))) (pe_callB call_abs (by rfl) B.abs (by decide +kernel) (pa_cons (pv 4) pa_nil)) pe_int) (pa_cons (pe_op op_mod (pe_callTy call_int1 (by rfl) B.int (by decide +kernel) (pa_cons (pe_op op_add (pv 2) (pe_op op_mod (pv 4) pe_int)) pa_nil)) pe_int) (pa_cons pe_int pa_nil))))))))), ?_⟩
    refine ⟨_, rfl, _, _, rfl, rfl, .inl ⟨by decide, by decide⟩, _, _, rfl, rfl, ?_⟩
    -- for entry in script[:11]
    refine ⟨_, rfl, _, rfl, a, _, rfl, hS, fun l nl => ?_⟩
    have eC : ∃ ms : List Int, cutV (ns.map V.int) none (some 11) = ms.map V.int := ⟨(ns.drop (HT.sIx (ns.map V.int).length 0 none)).take (HT.sIx (ns.map V.int).length (ns.map V.int).length (some 11) - HT.sIx (ns.map V.int).length 0 none), by
      unfold cutV
      rw [List.map_take, List.map_drop]⟩
    obtain ⟨ms, eC⟩ := eC
    rw [eC]
    have s1 : Same H (upd H l (.lst (ms.map V.int))) := same_new nl
    refine ⟨l, rfl, ⟨_, .inl (.inl upd_same)⟩, for_list (K := K) (a := l) (xs := ms.map V.int) (fun i σ H2 => ∃ (m : Int) (e3 : Option V), σ = [some (.ref a), some (.int k), some (.int m), e3, none] ∧ H2 = upd H l (.lst (ms.map V.int)))
      ⟨_, none, rfl, rfl⟩ (fun i σ H2 _ ⟨_, _, _, e⟩ => by rw [e]; exact .inl (.inl upd_same)) ?_ ?_⟩
    · rintro i y σ H2 hi ⟨m, e3, rfl, rfl⟩
      obtain ⟨z, _, rfl⟩ := some_map hi
      refine ⟨_, rfl, _, _, rfl, rfl, .inr ⟨by decide, by decide⟩, _, rfl, .inl ⟨_, rfl, _, _, rfl, rfl, (by show (0 : Int) < 1610612741; decide), _, _, rfl, rfl, .inl ⟨_, rfl, _, _, rfl, rfl, (by show (0 : Int) < 1610612741; decide), ?_⟩⟩⟩
      exact ⟨_, _, rfl, rfl⟩
    · rintro σ H2 ⟨m, e3, rfl, rfl⟩
      have hS1 : SqL K (upd H l (.lst (ms.map V.int))) a (ns.map V.int) := s1.seq hS
      dsimp only [tSeq, tAsg]
      refine via (t := tIf _ _ _) (fun v H' => H' = upd H l (.lst (ms.map V.int)) ∧ ∃ own : Int, v = .int own) (fun Q' k' => ?_) ?_
      · refine ⟨_, rfl, _, rfl, a, _, rfl, .inl hS1, _, _, rfl, rfl, _, rfl, ?_⟩
        refine ite2 (fun e => ?_) (fun e => ?_)
        · have e' : k < ((ns.map V.int).length : Int) := of_decide_eq_true e
          rw [List.length_map] at e'
          have hk3 : k.toNat < ns.length := by omega
          refine ⟨_, rfl, _, rfl, rd_raw (w := V.int ns[k.toNat]) hS1 hk (map_some (List.getElem?_eq_getElem hk3)) ?_⟩
          exact .inl ⟨_, rfl, k' _ _ ⟨rfl, _, rfl⟩⟩
        · exact ⟨_, rfl, _, _, rfl, rfl, .inl ⟨by decide, by decide⟩, _, _, rfl, rfl, k' _ _ ⟨rfl, _, rfl⟩⟩
      rintro v H3 ⟨rfl, own, rfl⟩
      -- the list of three
      dsimp only [gName, tRet, tLst, tCons, tNil]
      refine via (t := tIf _ _ _) (fun v H' => H' = upd H l (.lst (ms.map V.int)) ∧ ∃ x : Int, v = .int x ∧ 0 ≤ x) (fun Q' k' => ?_) ?_
      · refine ⟨_, rfl, _, _, rfl, rfl, _, rfl, ite2 (fun e => ?_) (fun e => ?_)⟩
        · refine iteT ?_
          refine ⟨_, rfl, own, rfl, k' _ _ ⟨rfl, _, rfl, ?_⟩⟩
          have e' : own < 0 := of_decide_eq_true e
          rw [if_pos e']
          omega
        · have e0 : ¬ own < 0 := fun z => e (decide_eq_true z)
          refine ⟨_, rfl, _, _, rfl, rfl, (by refine ⟨by decide, by decide, by decide⟩), _, _, rfl, rfl, _, rfl, ite2 (fun e2 => ?_) (fun e2 => ?_)⟩
          · refine ⟨_, rfl, own, rfl, k' _ _ ⟨rfl, _, rfl, ?_⟩⟩
            rw [if_neg e0]
            omega
          · exact k' _ _ ⟨rfl, _, rfl, Int.le_refl 0⟩
      rintro v H3 ⟨rfl, x, rfl, hx⟩
      refine ⟨_, rfl, _, rfl, _, _, rfl, rfl, (by show (0 : Int) < 1610612741; decide), _, _, rfl, rfl, .inl ⟨_, rfl, _, _, rfl, rfl, (by show (0 : Int) < 1610612741; decide), (by show 3 ≤ sizeLine; decide), fun p np => ?_⟩⟩
      refine q p _ (s1.trans (same_new np)) (s1.free np) ⟨x, _, 0, upd_same, hx, ?_, ?_, Int.le_refl 0⟩
      · exact Int.emod_nonneg _ (by decide)
      · exact Int.emod_lt_of_pos _ (by decide)
/-- _law_tap(tank, many) -/
def sp__law_tap (K : PySem.W.Frag) (c : Addr) : Sp := fun vs H Q _ => ∃ (a : Addr) (m : Int), vs = [.ref a, .int m] ∧ TankAt H a ∧ 0 < m ∧ m < 1073741824 ∧
  ∀ r H', 0 ≤ r → r < m → (∀ A, a ∈ A → Go A H H') → TankAt H' a → Q (.int r) H'
theorem cal__law_tap (B : Bl mg) (DD : OwnDef K mg "_law_tap" s__law_tap)   : Cal P w K mg base 1 "_law_tap" (sp__law_tap K c) [] := by
  obtain ⟨f, fd, F, hm⟩ := DD.ex
  refine ⟨f, fd, ["_law_tank_here", "_law_many"], [], F.ok sc__law_tap (fun vs H Q E h => ?len) (fun cdv A outer s H vs Q E hr h => ?run), hm, F.kp, F.binds (fun _ _ _ _ _ _ us hl => match us, hl with | [_, _], _ => rfl), .nil⟩
  case len => first | (obtain ⟨_, rfl, _⟩ := h; rfl) | (obtain ⟨_, _, rfl, _⟩ := h; rfl) | (obtain ⟨_, _, _, rfl, _⟩ := h; rfl) | (obtain ⟨_, _, _, _, rfl, _⟩ := h; rfl) | (obtain ⟨_, _, _, _, _, rfl, _⟩ := h; rfl) | (obtain ⟨_, _, _, _, _, _, rfl, _⟩ := h; rfl) | (obtain ⟨_, _, _, _, _, _, _, rfl, _⟩ := h; rfl) | (obtain ⟨_, _, _, _, _, _, _, _, rfl, _⟩ := h; rfl) | (obtain ⟨_, _, _, _, _, _, _, _, _, rfl, _⟩ := h; rfl) | (obtain ⟨_, _, _, _, _, _, _, _, _, _, rfl, _⟩ := h; rfl) | (obtain ⟨_, _, _, _, _, _, _, _, _, _, _, rfl, _⟩ := h; rfl) | (obtain ⟨_, _, _, _, _, _, _, _, _, _, _, _, rfl, _⟩ := h; rfl) | (obtain ⟨_, _, _, _, _, _, _, _, _, _, _, _, _, rfl, _⟩ := h; rfl) | (obtain ⟨_, _, _, _, _, _, _, _, _, _, _, _, _, _, rfl, _⟩ := h; rfl)
  case run =>
    obtain ⟨a, m, rfl, tk, hm0, hm1, q⟩ := h
    refine ⟨_, (pss_cons (ps_if (pt_cmpR op_gt (pe_ix ix_seq (pv 0) pe_int (fun _ _ => rfl)) pe_int (nomark _)) (pss_cons (ps_asg (pe_callB call_divmod (by rfl) B.divmod (by decide +kernel) (pa_cons (pe_callTy call_int1 (by rfl) B.int (by decide +kernel) (pa_cons (pe_ix ix_seq (pv 0) pe_int (fun _ _ => rfl)) pa_nil)) (pa_cons (pv 1) pa_nil))) (pg_tup (by rfl) (pgs_cons (pg_sub (pv 0) pe_int set_list) (pgs_cons (pg_name (i := 2) sc__law_tap.nd rfl (Or.inl rfl)) pgs_nil))))
      (pss_one (ps_ret (pv 2)))) pss_nil)
      (pss_cons (ps_asg (pe_op op_add (pe_ix ix_seq (pv 0) pe_int (fun _ _ => rfl)) pe_int) (pg_sub (pv 0) pe_int set_list))
      (pss_cons (ps_asg (pe_op op_mod (pe_callTy call_int1 (by rfl) B.int (by decide +kernel) (pa_cons (pe_op op_add (pe_op op_add (pe_op op_mul (pe_ix ix_seq (pv 0) pe_int (fun _ _ => rfl)) pe_int) (pe_op op_mul (pe_op op_fdiv (pe_ix ix_seq (pv 0) pe_int (fun _ _ => rfl)) pe_int) pe_int)) (pe_op op_mul pe_int (pe_ix ix_seq (pv 0) pe_int (fun _ _ => rfl)))) pa_nil)) pe_int) (pg_sub (pv 0) pe_int set_list))
      (pss_one (ps_ret (pe_op op_mod (pe_callTy call_int1 (by rfl) B.int (by decide +kernel) (pa_cons (pe_op op_fdiv (pe_ix ix_seq (pv 0) pe_int (fun _ _ => rfl)) pe_int) pa_nil)) (pv 1))))))), ?_⟩
    obtain ⟨x, y, z, e, hx, hy, hy2, hz⟩ := tk.ex
    have hA : SqL K H a [.int x, .int y, .int z] := .inl (.inl e)
    refine ⟨_, rfl, rd_raw (w := V.int x) hA (Int.le_refl 0) rfl ?_⟩
    refine ⟨_, _, rfl, rfl, _, rfl, ite2 (fun c1 => ?_) (fun c1 => ?_)⟩
    · -- the script's own int
      refine ⟨_, rfl, rd_raw (w := V.int x) hA (Int.le_refl 0) rfl ?_⟩
      refine .inl ⟨_, rfl, _, rfl, _, _, rfl, ⟨hm0, hm1⟩, fun p np => ?_⟩
      have npa : a ≠ p := ne_of_none e np
      have e1 : (upd H p (.tup [.int (x / m), .int (x % m)])) a = some (.lst [.int x, .int y, .int z]) := by rw [upd_ne npa]; exact e
      refine ⟨p, [.int (x / m), .int (x % m)], rfl, .inl (.inl upd_same), rfl, .int (x / m), [.int (x % m)], rfl, ?_⟩
      refine ⟨_, rfl, a, _, _, 0, rfl, rfl, e1, rfl, ?_⟩
      refine ⟨.int (x % m), [], rfl, rfl, _, rfl, ?_⟩
      refine q _ _ (Int.emod_nonneg _ (by omega)) (Int.emod_lt_of_pos _ hm0) (fun A hA => (Go.new np).trans (Go.chg hA)) ⟨x / m, y, z, upd_same, ?_, hy, hy2, hz⟩
      exact Int.ediv_nonneg hx (by omega)
    · refine ⟨_, rfl, rd_raw (w := V.int z) hA (by decide) rfl ?_⟩
      refine ⟨_, _, rfl, rfl, _, rfl, a, _, _, 2, rfl, rfl, e, rfl, ?_⟩
      have hB : SqL K (upd H a (.lst [.int x, .int y, .int (z + 1)])) a [.int x, .int y, .int (z + 1)] := .inl (.inl upd_same)
      refine ⟨_, rfl, rd_raw (w := V.int y) hB (by decide) rfl ?_⟩
      refine ⟨_, _, rfl, rfl, .inr ⟨by decide, by decide⟩, _, rfl, rd_raw (w := V.int y) hB (by decide) rfl ?_⟩
      refine ⟨_, _, rfl, rfl, ⟨by decide, by decide⟩, _, _, rfl, rfl, .inr ⟨by decide, by decide⟩, _, _, rfl, rfl, _, rfl, rd_raw (w := V.int (z + 1)) hB (by decide) rfl ?_⟩
      refine ⟨_, _, rfl, rfl, .inl ⟨by decide, by decide⟩, _, _, rfl, rfl, .inl ⟨_, rfl, _, _, rfl, rfl, (by show (0 : Int) < 1610612741; decide), ?_⟩⟩
      refine ⟨_, rfl, a, _, _, 1, rfl, rfl, upd_same, rfl, ?_⟩
      have hC : ∀ y', SqL K (upd (upd H a (.lst [.int x, .int y, .int (z + 1)])) a (.lst [.int x, .int y', .int (z + 1)])) a [.int x, .int y', .int (z + 1)] := fun _ => .inl (.inl upd_same)
      refine ⟨_, rfl, rd_raw (w := _) (hC _) (by decide) rfl ?_⟩
      refine ⟨_, _, rfl, rfl, ⟨by decide, by decide⟩, .inl ⟨_, rfl, _, rfl, _, _, rfl, rfl, hm0, ?_⟩⟩
      refine q _ _ (Int.emod_nonneg _ (by omega)) (Int.emod_lt_of_pos _ hm0) (fun A hA => (Go.chg hA).trans (Go.chg hA)) ⟨x, _, z + 1, upd_same, hx, ?_, ?_, by omega⟩
      · exact Int.emod_nonneg _ (by decide)
      · exact Int.emod_lt_of_pos _ (by decide)
/-- _law_any(tank, things): one of the things -/
def sp__law_any (K : PySem.W.Frag) (c : Addr) : Sp := fun vs H Q _ => ∃ (a l : Addr) (xs : List V), vs = [.ref a, .ref l] ∧ TankAt H a ∧ SqL K H l xs ∧ l ≠ a ∧ 0 < xs.length ∧ xs.length < 1000 ∧
  ∀ v H', v ∈ xs → (∀ A, a ∈ A → Go A H H') → TankAt H' a → Q v H'
theorem cal__law_any (B : Bl mg) (DD : OwnDef K mg "_law_any" s__law_any) (C__law_tap : Cal P w K mg base 1 "_law_tap" (sp__law_tap K c) [])  : Cal P w K mg base 2 "_law_any" (sp__law_any K c) [] := by
  obtain ⟨f, fd, F, hm⟩ := DD.ex
  refine ⟨f, fd, ["_law_tank_here", "_law_things"], [], F.ok sc__law_any (fun vs H Q E h => ?len) (fun cdv A outer s H vs Q E hr h => ?run), hm, F.kp, F.binds (fun _ _ _ _ _ _ us hl => match us, hl with | [_, _], _ => rfl), .nil⟩
  case len => first | (obtain ⟨_, rfl, _⟩ := h; rfl) | (obtain ⟨_, _, rfl, _⟩ := h; rfl) | (obtain ⟨_, _, _, rfl, _⟩ := h; rfl) | (obtain ⟨_, _, _, _, rfl, _⟩ := h; rfl) | (obtain ⟨_, _, _, _, _, rfl, _⟩ := h; rfl) | (obtain ⟨_, _, _, _, _, _, rfl, _⟩ := h; rfl) | (obtain ⟨_, _, _, _, _, _, _, rfl, _⟩ := h; rfl) | (obtain ⟨_, _, _, _, _, _, _, _, rfl, _⟩ := h; rfl) | (obtain ⟨_, _, _, _, _, _, _, _, _, rfl, _⟩ := h; rfl) | (obtain ⟨_, _, _, _, _, _, _, _, _, _, rfl, _⟩ := h; rfl) | (obtain ⟨_, _, _, _, _, _, _, _, _, _, _, rfl, _⟩ := h; rfl) | (obtain ⟨_, _, _, _, _, _, _, _, _, _, _, _, rfl, _⟩ := h; rfl) | (obtain ⟨_, _, _, _, _, _, _, _, _, _, _, _, _, rfl, _⟩ := h; rfl) | (obtain ⟨_, _, _, _, _, _, _, _, _, _, _, _, _, _, rfl, _⟩ := h; rfl)
  case run =>
    obtain ⟨a, l, xs, rfl, tk, hS, nla, h0, h1, q⟩ := h
    refine ⟨_, (pss_one (ps_ret (pe_ix ix_seq (pv 1) (pe_c C__law_tap hr (by decide) (by rfl) (pa_cons (pv 0) (pa_cons (pe_callB call_len_seq (by rfl) B.len (by decide +kernel) (pa_cons (pv 1) pa_nil)) pa_nil))) (fun _ _ => rfl)))), ?_⟩
    refine ⟨_, rfl, _, rfl, _, rfl, l, xs, rfl, .inl hS, a, _, rfl, tk, by omega, by omega, fun r H' hr0 hr1 go tk' => ?_⟩
    have hi : r.toNat < xs.length := by omega
    have hS' : SqL K H' l xs := by
      have g := go [a] (by simp)
      rcases hS with (z | ⟨o, z⟩) | z
      · exact .inl (.inl (g.keep _ _ (by simpa using nla) z))
      · exact .inl (.inr ⟨o, g.keep _ _ (by simpa using nla) z⟩)
      · exact .inr z
    exact rd_raw hS' hr0 (List.getElem?_eq_getElem hi) (q _ _ (List.getElem_mem hi) go tk')
end

end LW

set_option Elab.async false
set_option linter.all false
set_option maxRecDepth 100000
set_option maxHeartbeats 4000100
set_option exponentiation.threshold 9000
namespace LW
open PySem PySem.Spec PyProof.Rows L2 StX
local macro_rules | `(tactic| walk_at "len") => `(tactic| skip)
/-! ### data that holds empty dicts, with addresses left out -/
section
variable {K : PySem.W.Frag} {A : List Addr} {H H' : Hp} {v : V} {d : PyData} {vs : List V} {ds : List PyData} {a p : Addr}
def IsO (K : PySem.W.Frag) (A : List Addr) (H : Hp) (v : V) (d : PyData) : Prop := DO K (hv A H) v d
def IssO (K : PySem.W.Frag) (A : List Addr) (H : Hp) (vs : List V) (ds : List PyData) : Prop := DOs K (hv A H) vs ds
/-- all but what stands at A and tables is kept -/
def ExA (A : List Addr) (H H' : Hp) : Prop := ∀ b o, b ∉ A → H b = some o → (∀ ps, o ≠ .tbl ps) → H' b = some o
theorem ExA.refl : ExA A H H := fun _ _ _ e _ => e
theorem ExA.trans {H2 : Hp} (a : ExA A H H') (b : ExA A H' H2) : ExA A H H2 := fun c o n e t => b c o n (a c o n e t) t
theorem ExA.of (g : Go A H H') : ExA A H H' := fun b o n e _ => g.keep b o n e
theorem ExA.ext (e : LamX.ExtN H H') : ExA A H H' := fun b o _ h t => e b o h t
theorem ExA.same (e : Same H H') : ExA A H H' := fun b o _ h _ => e b o h
theorem DO.keep (e : ∀ b o, H b = some o → (∀ ps, o ≠ .tbl ps) → H' b = some o) (h : DO K H v d) : DO K H' v d := by
  induction h with
  | non => exact .non
  | bl b => exact .bl b
  | int i => exact .int i
  | str x => exact .str x
  | lst h ne len all ih =>
    refine .lst ?_ ne len ih
    rcases h with (h | ⟨o,
          h⟩) | h
    · exact .inl (.inl (e _ _ h (fun ps z => by cases z)))
    · exact .inl (.inr ⟨o, e _ _ h (fun ps z => by cases z)⟩)
    · exact .inr h
  | tup h ne len all ih =>
    refine .tup ?_ ne len ih
    rcases h with (h | ⟨o,
          h⟩) | h
    · exact .inl (.inl (e _ _ h (fun ps z => by cases z)))
    · exact .inl (.inr ⟨o, e _ _ h (fun ps z => by cases z)⟩)
    · exact .inr h
  | dct h ne => exact .dct (e _ _ h (fun ps z => by cases z)) ne
theorem ExA.hv (e : ExA A H H') : ∀ b o, LW.hv A H b = some o → (∀ ps, o ≠ .tbl ps) → LW.hv A H' b = some o := fun b o h t => by
  by_cases hb : b ∈ A
  · rw [hv_in hb] at h; cases h
  · rw [hv_out hb] at h ⊢; exact e b o hb h t
theorem IsO.ex (e : ExA A H H') (h : IsO K A H v d) : IsO K A H' v d := DO.keep e.hv h
theorem IssO.ex (e : ExA A H H') (h : IssO K A H vs ds) : IssO K A H' vs ds := ⟨h.len, fun i v d h1 h2 => DO.keep e.hv (h.all i v d h1 h2)⟩
theorem IsO.same (s : Same H H') (h : IsO K A H v d) : IsO K A H' v d := h.ex (.same s)
theorem IssO.same (s : Same H H') (h : IssO K A H vs ds) : IssO K A H' vs ds := h.ex (.same s)
theorem IsO.mono (g : Go A H H') (h : IsO K A H v d) : IsO K A H' v d := h.ex (.of g)
theorem IsO.is (h : IsO K A H v d) : Is K A H v d := DO.dat h
theorem IssO.iss (h : IssO K A H vs ds) : Iss K A H vs ds := ⟨h.len, fun i v d h1 h2 => (h.all i v d h1 h2).dat⟩
theorem IsO.full (h : IsO K A H v d) : DO K H v d := DO.same hv_le h
theorem IssO.full (h : IssO K A H vs ds) : DOs K H vs ds := DOs.same hv_le h
/-- more hidden that is new -/
theorem IsO.more (n : H a = none) (h : IsO K A H v d) : IsO K (a :: A) H v d := DO.same (fun b o e => by
  have hb : b ∉ A := fun z => by rw [hv_in z] at e; cases e
  rw [hv_out hb] at e
  have b1 : b ≠ a := ne_of_none e n
  rw [hv_out (by simp [b1, hb])]
  exact e) h
theorem IssO.nil : IssO K A H [] [] := DOs.nil
theorem IssO.cons (h : IsO K A H v d) (r : IssO K A H vs ds) : IssO K A H (v :: vs) (d :: ds) := DOs.cons h r
theorem IssO.one (h : IsO K A H v d) : IssO K A H [v] [d] := DOs.cons h DOs.nil
theorem isO_int {i : Int} : IsO K A H (.int i) (.int i) := DO.int i
theorem isO_bl {b : Bool} : IsO K A H (.bl b) (.bool b) := DO.bl b
theorem isO_str {x : Str} : IsO K A H (.str x) (.str x) := DO.str x
theorem isO_non : IsO K A H .non .none := DO.non
theorem new_tupO (hd : Hd A H) (n : H p = none) (ne : p ≠ sysModules) (h : IssO K A H vs ds) : IsO K A (upd H p (.tup vs)) (.ref p) (.tuple ds) ∧ Same H (upd H p (.tup vs)) ∧ Hd A (upd H p (.tup vs)) := by
  have s : Same H (upd H p (.tup vs)) := same_new n
  have h2 := h.same s
  refine ⟨DO.tup (.inl (.inl ?_)) ne h2.len h2.all, s, hd_new hd n⟩
  rw [hv_out (hd.out n), upd_same]
theorem new_lstO (hd : Hd A H) (n : H p = none) (ne : p ≠ sysModules) (h : IssO K A H vs ds) : IsO K A (upd H p (.lst vs)) (.ref p) (.list ds) ∧ Same H (upd H p (.lst vs)) ∧ Hd A (upd H p (.lst vs)) := by
  have s : Same H (upd H p (.lst vs)) := same_new n
  have h2 := h.same s
  refine ⟨DO.lst (.inl (.inl ?_)) ne h2.len h2.all, s, hd_new hd n⟩
  rw [hv_out (hd.out n), upd_same]
theorem new_dctO (hd : Hd A H) (n : H p = none) (ne : p ≠ sysModules) : IsO K A (upd H p (.dK [])) (.ref p) (.dict []) ∧ Same H (upd H p (.dK [])) ∧ Hd A (upd H p (.dK [])) := by
  refine ⟨DO.dct ?_ ne, same_new n, hd_new hd n⟩
  rw [hv_out (hd.out n), upd_same]
/-- tables stay tables where all but lists is kept -/
theorem tabs_keep {T : List (Addr × Str)} {H H' : Hp} (t : LamX.Tabs T H) (e : ∀ b o, H b = some o → (∀ xs, o ≠ .lst xs) → H' b = some o) : LamX.Tabs T H' := by
  intro p hp
  obtain ⟨ps, h1, h2, h3⟩ := t p hp
  refine ⟨ps, e _ _ h1 (fun xs z => by cases z), h2, fun pos cv hc => ?_⟩
  obtain ⟨c, e1, e2⟩ :=
        h3 pos cv hc
  exact ⟨c, e1, e _ _ e2 (fun xs z => by unfold LamX.CodeO at z; cases z)⟩
theorem tabs_keepD {T : List (Addr × Str)} {H : Hp} {D : Addr} {xs ys : List V} (t : LamX.Tabs T H) (e : H D = some (.lst xs)) : LamX.Tabs T (upd H D (.lst ys)) :=
  tabs_keep t fun b o eb n => by
    rw [upd_ne (fun z => by rw [z, e] at eb; exact n _ (Option.some.inj eb).symm)]
    exact eb
/-- .. where all but the law's tank is kept -/
theorem tabs_tank {T : List (Addr × Str)} (t : LamX.Tabs T H) (tk : TankAt H a) (g : Go [a] H H') : LamX.Tabs T H' := tabs_keep t fun b ob e n => g.keep b ob (fun z => by
  rw [List.mem_singleton] at z
  obtain ⟨x, y, w, e2, _⟩ := tk.ex
  rw [z, e2] at e
  exact n _ (Option.some.inj e).symm) e
end
/-! ### the values of the law -/
def encB : PyData → Bool
  | .tuple [.int _, .int b] => decide (b.natAbs < 2 ^ 100)
  | _ => true
theorem enc_of {d : PyData} (h : encB d = true) : ∀ a b, d = encQ (a, b) → b.natAbs < 2 ^ 8000 := fun a b e => by
  subst e
  exact Nat.lt_trans (of_decide_eq_true (show decide (b.natAbs < 2 ^ 100) = true from h)) (by decide +kernel)
def isDct : PyData → Bool
  | .dict [] => true
  | _ => false
theorem isDct_eq {d : PyData} (h : isDct d = true) : d = .dict [] := by
  match d, h with
  | .dict [], _ => rfl
def sizeB (d : PyData) : Bool := encB d && (!isNumD d || (decide ((lowD d).1.natAbs < 2 ^ 100) && decide ((lowD d).2.natAbs < 2 ^ 100)))
def badB (d : PyData) : Bool := !isNumD d && sizeB d && d.showable && decide (d.depth ≤ 3) && decide (d.shown.length ≤ 100) && ((d.canLay0 && PyData.eqv d d) || isDct d)
structure BadD (d : PyData) : Prop where
  num : isNumD d = false
  sz : sizeB d = true
  sh : d.showable = true
  dep : d.depth ≤ 3
  len : d.shown.length ≤ 100
  lay : (d.canLay0 = true ∧ PyData.eqv d d = true) ∨ d = .dict []
theorem badD_of {d : PyData} (h : badB d = true) : BadD d := by
  unfold badB at h
  simp only [Bool.and_eq_true, Bool.or_eq_true, Bool.not_eq_true', decide_eq_true_eq] at h
  obtain ⟨⟨⟨⟨⟨h1, h2⟩, h3⟩, h4⟩, h5⟩, h6⟩ := h
  exact ⟨h1, h2, h3, h4, h5, h6.imp id isDct_eq⟩
def bads : List PyData := [.none, .bool true, .bool false, .str "1", .tuple [], .list [.int 1], .tuple [.int 1], .tuple [.int 1, .int 2, .int 3], .tuple [.int 1, .int 0], .tuple [.int 1, .int (-1)], .tuple [.bool true, .int 1], .tuple [.int 1, .bool true], .dict []]
theorem bads_ok : ∀ d ∈ bads, badB d = true := by decide +kernel
def intish : PyData → Bool
  | .int _ => true
  | .tuple _ => true
  | _ => false
def lowB (d : PyData) : Bool := !isOffD d && encB d && d.showable && decide (d.depth ≤ 3) && d.canLay0 && PyData.eqv d d && intish d
def lows : List PyData := [.int (-1), .tuple [.int (-1), .int (10 ^ 9)], .int 2, .tuple [.int (10 ^ 9 + 1), .int (10 ^ 9)], .tuple [.int 3, .int 2]]
theorem lows_ok : ∀ d ∈ lows, lowB d = true := by decide +kernel
structure LowD (d : PyData) : Prop where
  off : isOffD d = false
  enc : encB d = true
  dep : d.depth ≤ 3
  lay : d.canLay0 = true
  eqv : PyData.eqv d d = true
  ish : intish d = true
theorem lowD_of {d : PyData} (h : lowB d = true) : LowD d := by
  unfold lowB at h
  simp only [Bool.and_eq_true, Bool.not_eq_true', decide_eq_true_eq] at h
  obtain ⟨⟨⟨⟨⟨⟨h1, h2⟩, h3⟩, h4⟩,
        h5⟩, h6⟩, h7⟩ := h
  exact ⟨h1, h2, h4, h5, h6, h7⟩
theorem BadD.off {d : PyData} (h : BadD d) : isOffD d = false := by
  unfold isOffD
  rw [h.num]
  rfl
theorem encB_of_size {d : PyData} (h : sizeB d = true) : encB d = true := by
  unfold sizeB at h
  rw [Bool.and_eq_true] at h
  exact h.1
/-- never a next mark -/
structure OddD (d : PyData) : Prop where
  sz : sizeB d = true
  next : ∀ ms : List (Int × Int), (∀ m ∈ ms, 0 ≤ m.1 ∧ 0 < m.2) → nextD d ms = false
theorem BadD.odd {d : PyData} (h : BadD d) : OddD d := ⟨h.sz, fun ms _ => by unfold nextD; rw [h.num]; rfl⟩
theorem odd_neg {d : PyData} (sz : sizeB d = true) (n : (lowD d).1 < 0) (p : 0 < (lowD d).2) : OddD d := ⟨sz, fun ms hm => by
  unfold nextD
  cases e : ms.getLast? with
  | none =>
    show (isNumD d && decide (0 ≤ (lowD d).1)) = false
    rw [decide_eq_false (by omega),
          Bool.and_false]
  | some m =>
    show (isNumD d && decide (ltQ m (lowD d))) = false
    have hm := hm m (List.mem_of_getLast? e)
    have : ¬ ltQ m (lowD d) := fun z => by
      have z : m.1 * (lowD d).2 < (lowD d).1 * m.2 := z
      have z1 : 0 ≤ m.1 * (lowD d).2 := Int.mul_nonneg hm.1 (by omega)
      have z2 : (lowD d).1 * m.2 < 0 := Int.mul_neg_of_neg_of_pos n hm.2
      omega
    rw [decide_eq_false this, Bool.and_false]⟩
theorem odd_1 : OddD (.int (-1)) := odd_neg (by decide +kernel) (by decide +kernel) (by decide +kernel)
theorem odd_2 : OddD (.tuple [.int (-1), .int 3]) := odd_neg (by decide +kernel) (by decide +kernel) (by decide +kernel)
theorem hsz_of {o : Int × Int} {ds : List PyData} (h : o.1.natAbs < 2 ^ 100 ∧ o.2.natAbs < 2 ^ 100) (hs : ∀ d ∈ ds, sizeB d = true) : HSz o ds := by
  have b : (2 : Nat) ^ 100 < 2 ^ 200 := by decide +kernel
  refine ⟨⟨Nat.lt_trans h.1 b, Nat.lt_trans h.2 b⟩, fun d hd => ⟨enc_of (encB_of_size (hs d hd)), fun nu => ?_⟩⟩
  have z := hs d hd
  unfold sizeB at z
  rw [nu] at z
  simp only [Bool.and_eq_true, Bool.or_eq_true, Bool.not_true, Bool.false_eq_true, false_or, decide_eq_true_eq] at z
  exact ⟨Nat.lt_trans z.2.1 b, Nat.lt_trans z.2.2 b⟩
def okB (ds : List PyData) : Bool := (List.range ds.length).all fun j => nextD (ds.getD j .none) ((ds.take j).map lowD)
theorem next_of {ds : List PyData} (h : okB ds = true) : ∀ j, NextOk ds j := fun j d hd => by
  have hj : j < ds.length := (List.getElem?_eq_some_iff.mp hd).1
  have z := List.all_eq_true.mp h j (List.mem_range.mpr hj)
  rw [List.getD_eq_getElem?_getD, hd] at z
  exact z
def lastB (o : Int × Int) (ds : List PyData) : Bool := match (ds.map lowD).getLast? with
  | some m => decide (ltQ m (plainQ o ds.length))
  | none => true
theorem last_of {o : Int × Int} {ds : List PyData} (h : lastB o ds = true) : LastOk o ds := fun m hm => by
  unfold lastB at h
  rw [hm] at h
  exact of_decide_eq_true h
theorem last_not {o : Int × Int} {ds : List PyData} (h : lastB o ds = false) : ¬ LastOk o ds := fun z => by
  unfold lastB at h
  cases e : (ds.map lowD).getLast? with
  | none => rw [e]
        at h; cases h
  | some m =>
    rw [e] at h
    exact of_decide_eq_false h (z m e)

/-! ### Rule(..) beneath the law's catching def -/
section
variable {P : Program} {w : World} {K : PySem.W.Frag} {mg : Str → Option Value} {base : Heap} {c CO CH : Addr} {A : List Addr} {H : Hp} {v : V} {rest : List V} {d : PyData} {ds : List PyData} {Q Qg : VK}
theorem hv_two {A : List Addr} {H : Hp} {x dx : Addr} {o o' : HO} (nx : H x = none) (ndx : H dx = none) : Same (hv A H) (hv (x :: A) (upd (upd H dx o) x o')) := fun b y e => by
  have hb : b ∉ A := fun z => by rw [hv_in z] at e; cases e
  rw [hv_out hb] at e
  have b1 : b ≠ x := ne_of_none e nx
  have b2 : b ≠ dx := ne_of_none e ndx
  rw [hv_out (by simp [b1, hb]), upd_ne b1, upd_ne b2]
  exact e
theorem new_facts {x dx : Addr} (nx : H x = Option.none) (ndx : H dx = Option.none) (ne : dx ≠ x) (hA : Hd A H) (hv : IsO K A H v d) (hr : IssO K A H rest ds) :
    (upd (upd H dx (.own x)) x (.ins c dx [])) x = some (.ins c dx []) ∧ x ∉ A ∧ Hd A (upd (upd H dx (.own x)) x (.ins c dx [])) ∧ Is K (x :: A) (upd (upd H dx (.own x)) x (.ins c dx [])) v d ∧ Iss K (x :: A) (upd (upd H dx (.own x)) x (.ins c dx [])) rest ds ∧
    ∀ H', (∀ b o, b ≠ x → (upd (upd H dx (.own x)) x (.ins c dx [])) b = some o → H' b = some o) → Same H H' := by
  have s1 : Same H (upd H dx (.own x)) := same_new ndx
  have nx1 : (upd H dx (HO.own x)) x = none := by rw [upd_ne (fun z => ne z.symm)]; exact nx
  refine ⟨upd_same, hA.out nx, hd_new (hd_new hA ndx) nx1, D.same (hv_two nx ndx) hv.is, DAll.same (hv_two nx ndx) hr.iss, fun H' keep b o e => ?_⟩
  have n1 : b ≠ x := ne_of_none e nx
  exact keep b o n1 (by rw [upd_ne n1]; exact s1 b o e)
theorem rd_offX (hA : Hd A H) (hv : IsO K A H v d) (hr : IssO K A H rest ds) (no : isOffD d = false) (en : encB d = true) (rl : rest.length ≤ 1000)
    (k : ∀ l H', Same H H' → H l = none → l ≠ sysModules → H' l = some (.lst [.str "InvalidOffset", v, .bl true]) → Q (.ref l) H') {x dx : Addr} (nx : H x = Option.none) (ndx : H dx = Option.none) (ne : dx ≠ x) :
    sp_Rule_newX K c CO CH (V.ref x :: v :: rest) (upd (upd H dx (.own x)) x (.ins c dx [])) (fun v H2 => v = .non ∧ Qg (.ref x) H2) (Egot2 CH CO Q) := by
  obtain ⟨e0, xA, hA2, hv2, hr2, kp⟩ := new_facts (c := c) nx ndx ne hA hv hr
  refine ⟨x, dx, v, rest, A, d, ds, rfl, e0, xA, hA2, hv2, hr2, rl, enc_of en, fun z => absurd (no.symm.trans z) (by decide), fun z => absurd (no.symm.trans z) (by decide), fun _ dd H' keep nd => .inr ⟨dd, v, rfl, rfl, upd_same, fun l nl nes => ?_⟩, fun z => absurd (no.symm.trans z) (by decide)⟩
  have s := kp H' keep
  have s2 : Same H (upd H' dd (.xd [("value", v)])) := s.trans (same_new nd)
  exact k l _ (s2.trans (same_new nl)) (s2.free nl) nes upd_same
theorem rd_headX {i : Option Nat} (hA : Hd A H) (hv : IsO K A H v d) (hr : IssO K A H rest ds) (off : isOffD d = true) (en : encB d = true) (rl : rest.length ≤ 1000) (sz : HSz (lowD d) ds) (he : HeadErr (lowD d) ds i)
    (k : ∀ l H', Same H H' → H l = none → l ≠ sysModules → H' l = some (.lst [.str "InvalidHead", VofN i, .bl true]) → Q (.ref l) H') {x dx : Addr} (nx : H x = Option.none) (ndx : H dx = Option.none) (ne : dx ≠ x) :
    sp_Rule_newX K c CO CH (V.ref x :: v :: rest) (upd (upd H dx (.own x)) x (.ins c dx [])) (fun v H2 => v = .non ∧ Qg (.ref x) H2) (Egot2 CH CO Q) := by
  obtain ⟨e0, xA, hA2, hv2, hr2, kp⟩ := new_facts (c := c) nx ndx ne hA hv hr
  have no : ∀ (n8 : ds.length ≤ 8) (oks : ∀ j, NextOk ds j) (lo : LastOk (lowD d) ds), False := fun n8 oks lo => by
    cases i with
    | none =>
      have z : 8 < ds.length := he
      omega
    | some i =>
      obtain ⟨_, z | z⟩ := he
      · obtain ⟨⟨d', e, n⟩, _⟩ := z
        have := oks i d' e
        rw [n] at this
        cases this
      · exact z.2.1 lo
  have det : ∀ j, HeadErr (lowD d) ds j → j = i := fun j hj => by
    cases i with
    | none =>
      have z : 8 < ds.length := he
      cases j with
      | none => rfl
      | some j =>
        have := hj.1
        omega
    | some i =>
      cases j with
      | none =>
        have z : 8 < ds.length := hj
        have := he.1
        omega
      | some j =>
        obtain ⟨_, hi⟩ := he
        obtain ⟨_, hj⟩ := hj
        rcases hi with ⟨⟨d1, e1, n1⟩, o1⟩ | ⟨o1, n1, l1⟩
        · rcases hj with ⟨⟨d2, e2, n2⟩, o2⟩ | ⟨o2, n2, l2⟩
          · rcases Nat.lt_trichotomy i j with q | q | q
            · have := o2 i q d1 e1
              rw [n1] at this
              cases this
            · rw [q]
            · have := o1 j q d2 e2
              rw [n2] at this
              cases this
          · have := o2 i d1 e1
            rw [n1] at this
            cases this
        · rcases hj with ⟨⟨d2, e2, n2⟩, o2⟩ | ⟨o2, n2, l2⟩
          · have := o1 j d2 e2
            rw [n2] at this
            cases this
          · congr 1
            omega
  refine ⟨x, dx, v, rest, A, d, ds, rfl, e0, xA, hA2, hv2, hr2, rl, enc_of en, fun _ => sz, fun _ n8 oks lo => (no n8 oks lo).elim, fun z => absurd (off.symm.trans z) (by decide), fun _ j hj dd H' keep nd => .inl ⟨dd, VofN i, rfl, rfl, by rw [det j hj]; exact upd_same, fun l nl nes => ?_⟩⟩
  have s := kp H' keep
  have s2 : Same H (upd H' dd (.xd [("index", VofN j)])) := s.trans (same_new nd)
  exact k l _ (s2.trans (same_new nl)) (s2.free nl) nes upd_same
theorem rd_goodX {E : XK} {R : Hp → Prop} (hA : Hd A H) (hv : IsO K A H v d) (hr : IssO K A H rest ds) (off : isOffD d = true) (en : encB d = true) (rl : rest.length ≤ 1000) (n8 : ds.length ≤ 8) (sz : HSz (lowD d) ds) (oks : ∀ j, NextOk ds j) (lo : LastOk (lowD d) ds)
    {x dx : Addr} (nx : H x = Option.none) (ndx : H dx = Option.none) (ne : dx ≠ x) (k : ∀ H', Same H H' → RuleAt K c A H' x (lowD d) (ds.map lowD) → R H') :
    sp_Rule_newX K c CO CH (V.ref x :: v :: rest) (upd (upd H dx (.own x)) x (.ins c dx [])) (fun v H2 => v = .non ∧ R H2) E := by
  obtain ⟨e0, xA, hA2, hv2, hr2, kp⟩ := new_facts (c := c) nx ndx ne hA hv hr
  refine ⟨x, dx, v, rest, A, d, ds, rfl, e0, xA, hA2, hv2, hr2, rl, enc_of en, fun _ => sz, fun _ _ _ _ H' keep RA => ⟨rfl, k H' (kp H' keep) RA⟩, fun z => absurd (off.symm.trans z) (by decide), fun _ j hj => ?_⟩
  cases j with
  | none =>
    have z : 8 < ds.length := hj
    omega
  | some i =>
    obtain ⟨_, z | z⟩ := hj
    · obtain ⟨⟨d', e, n⟩, _⟩ := z
      have := oks i d' e
      rw [n] at this
      cases this
    · exact absurd lo z.2.1
end
/-! ### the law's list of answers -/
structure St02 (K : PySem.W.Frag) (T : List (Addr × Str)) (a LA : Addr) (H0 H : Hp) (xs : List V) (ds : List PyData) (bv : V) (bd : PyData) (ov : V) (od : PyData) : Prop where
  la : H LA = some (.lst xs)
  lne : LA ≠ a
  lns : LA ≠ sysModules
  ans : IssO K [LA, a] H xs ds
  bad : IsO K [LA, a] H bv bd
  odd : IsO K [LA, a] H ov od
  hd : Hd [LA, a] H
  ext : ExA [a] H0 H
  fresh : ∀ o, H0 LA = some o → ∃ ps, o = .tbl ps
  tabs : LamX.Tabs T H
section
variable {K : PySem.W.Frag} {T : List (Addr × Str)} {a LA : Addr} {H0 H H' : Hp} {xs : List V} {ds : List PyData} {bv ov : V} {bd od : PyData}
theorem hd_ext {A : List Addr} (h : Hd A H) (e : LamX.ExtN H H') (ht : ∀ b ∈ A, ∀ ps, H b ≠ some (.tbl ps)) : Hd A H' := fun b hb z => by
  cases q : H b with
  | none => exact h b hb q
  | some o =>
    have := e b o q (fun ps w => ht b hb ps (by rw [q, w]))
    rw [this] at z
    cases z
theorem St02.lam (s : St02 K T a LA H0 H xs ds bv bd ov od) (ta : ∀ ps, H a ≠ some (.tbl ps)) (e : LamX.ExtN H H') (t : LamX.Tabs T H') : St02 K T a LA H0 H' xs ds bv bd ov od :=
  ⟨e _ _ s.la (fun ps z => by cases z), s.lne, s.lns, s.ans.ex (.ext e), s.bad.ex (.ext e), s.odd.ex (.ext e), hd_ext s.hd e (fun b hb ps z => by
    rcases List.mem_cons.mp hb with w | w
    · rw [w, s.la] at z; cases z
    · rw [List.mem_singleton] at w
      rw [w] at z
      exact ta ps z), s.ext.trans (.ext e), s.fresh, t⟩
theorem St02.same (s : St02 K T a LA H0 H xs ds bv bd ov od) (e : Same H H') : St02 K T a LA H0 H' xs ds bv bd ov od :=
  ⟨e _ _ s.la, s.lne, s.lns, s.ans.same e, s.bad.same e, s.odd.same e, (Go.of e).held s.hd, s.ext.trans (.same e), s.fresh, s.tabs.ext e⟩
theorem St02.app (s : St02 K T a LA H0 H xs ds bv bd ov od) {y : V} {d : PyData} (h : IsO K [LA, a] H y d) : St02 K T a LA H0 (upd H LA (.lst (xs ++ [y]))) (xs ++ [y]) (ds ++ [d]) bv bd ov od := by
  have g : Go [LA, a] H (upd H LA (.lst (xs ++ [y]))) := Go.chg (by simp)
  refine ⟨upd_same, s.lne, s.lns, DOs.snoc (s.ans.ex (.of g)) (h.mono g), s.bad.mono g, s.odd.mono g, g.held s.hd, fun b o hb e t => ?_, s.fresh, tabs_keepD s.tabs s.la⟩
  have n : b ≠ LA := fun z => by
    rw [z] at e
    obtain ⟨ps, q⟩ := s.fresh o e
    exact t ps q
  rw [upd_ne n]
  exact s.ext b o hb e t
/-- an answer that is an error's row -/
theorem St02.row (s : St02 K T a LA H0 H xs ds bv bd ov od) {l : Addr} (e : Same H H') (nl : H l = none) (ne : l ≠ sysModules) {vs : List V} {es : List PyData} (el : H' l = some (.lst vs)) (h : IssO K [LA, a] H' vs es) : IsO K [LA, a] H' (.ref l) (.list es) :=
  DO.lst (.inl (.inl (by rw [hv_out (s.hd.out nl)]; exact el))) ne h.len h.all
end

/-! ### a display, one address at a time -/
section
variable {K : PySem.W.Frag} {A : List Addr} {H : Hp} {p : Addr} {v : V} {xs vs : List V} {ds es : List PyData} {d : PyData}
theorem iss_tup (hd : Hd A H) (n : H p = none) (ne : p ≠ sysModules) (all : IssO K A H xs ds) (h : IssO K A H vs es) : IssO K A (upd H p (.tup vs)) (xs ++ [.ref p]) (ds ++ [.tuple es]) ∧ Same H (upd H p (.tup vs)) ∧ Hd A (upd H p (.tup vs)) := by
  obtain ⟨i, s, g⟩ := new_tupO hd n ne h
  exact ⟨DOs.snoc (all.same s) i, s, g⟩
theorem iss_lst (hd : Hd A H) (n : H p = none) (ne : p ≠ sysModules) (all : IssO K A H xs ds) (h : IssO K A H vs es) : IssO K A (upd H p (.lst vs)) (xs ++ [.ref p]) (ds ++ [.list es]) ∧ Same H (upd H p (.lst vs)) ∧ Hd A (upd H p (.lst vs)) := by
  obtain ⟨i, s, g⟩ := new_lstO hd n ne h
  exact ⟨DOs.snoc (all.same s) i, s, g⟩
theorem iss_dct (hd : Hd A H) (n : H p = none) (ne : p ≠ sysModules) (all : IssO K A H xs ds) : IssO K A (upd H p (.dK [])) (xs ++ [.ref p]) (ds ++ [.dict []]) ∧ Same H (upd H p (.dK [])) ∧ Hd A (upd H p (.dK [])) := by
  obtain ⟨i, s, g⟩ := new_dctO (K := K) hd n ne
  exact ⟨DOs.snoc (all.same s) i, s, g⟩
theorem iss_int (i : Int) (all : IssO K A H xs ds) : IssO K A H (xs ++ [.int i]) (ds ++ [.int i]) := DOs.snoc all (DO.int i)
theorem iss_bl (b : Bool) (all : IssO K A H xs ds) : IssO K A H (xs ++ [.bl b]) (ds ++ [.bool b]) := DOs.snoc all (DO.bl b)
theorem iss_str (b : Str) (all : IssO K A H xs ds) : IssO K A H (xs ++ [.str b]) (ds ++ [.str b]) := DOs.snoc all (DO.str b)
theorem iss_non (all : IssO K A H xs ds) : IssO K A H (xs ++ [.non]) (ds ++ [.none]) := DOs.snoc all DO.non
theorem isso_ints (is : List Int) : IssO K A H (is.map V.int) (is.map PyData.int) := by
  refine ⟨by simp, fun i v d h1 h2 => ?_⟩
  rw [List.getElem?_map] at h1 h2
  cases e : is[i]? with
  | none => rw [e] at h1; cases h1
  | some x =>
    rw [e] at h1 h2
    cases h1
    cases h2
    exact DO.int x
theorem IssO.mem (h : IssO K A H xs ds) (hv : v ∈ xs) : ∃ d ∈ ds, IsO K A H v d := by
  obtain ⟨i, hi, e⟩ := List.mem_iff_getElem.mp hv
  have hj : i < ds.length := by rw [← h.len]; exact hi
  exact ⟨ds[i], List.getElem_mem hj, h.all i v _ (by rw [List.getElem?_eq_getElem hi, e]) (List.getElem?_eq_getElem hj)⟩
end
/-- what `x not in [y, z]` asks of the two drawn values -/
theorem in_facts {X : Cx} {H : Hp} {bv lv : V} {bd ld : PyData} (hu : X.A.units + 65 < cLine) (hb : DO X.K H bv bd) (hl : DO X.K H lv ld) (bD : BadD bd) (lD : LowD ld) :
    EqT X H bv ∧ EqT X H lv ∧ EqS X H bv lv ∧ EqS X H lv bv := by
  have tl : EqT X H lv := eqT_data hu hl lD.lay lD.dep lD.eqv
  rcases bD.lay with ⟨c, e⟩ | e
  · exact ⟨eqT_data hu hb c bD.dep e, tl, eqS_data hu hb hl c lD.lay bD.dep, eqS_data hu hl hb lD.lay c lD.dep⟩
  · subst e
    cases hb with
    | dct h ne =>
      have hx : (∃ i, lv = .int i) ∨ ∃ b xs, lv = .ref b ∧ SqT X.K H b xs := by
        have z := lD.ish
        cases hl with
        | int i => exact .inl ⟨i, rfl⟩
        | tup h ne len all => exact .inr ⟨_, _, rfl, h⟩
        | non => cases z
        | bl b => cases z
        | str x => cases z
        | lst h ne len all => cases z
        | dct h ne => cases z
      exact ⟨eqT_ref, tl, (eqS_dict hu h hx).1, (eqS_dict hu h hx).2⟩
theorem EqT.self {X : Cx} {H : Hp} {v : V} (h : EqT X H v) : EqS X H v v := fun pins σ s I u w ru rw => ⟨true, h pins σ s I u w ru rw⟩

/-! ### why each of the heads is refused -/
section
variable {bd od : PyData}
theorem next_neg (oD : OddD od) {ds : List PyData} {j : Nat} (e : ds[j]? = some od) (h : ((ds.take j).map lowD).all (fun m => decide (0 ≤ m.1) && decide (0 < m.2)) = true) : ∃ d, ds[j]? = some d ∧ nextD d ((ds.take j).map lowD) = false :=
  ⟨od, e, oD.next _ fun m hm => by
    have z := List.all_eq_true.mp h m hm
    rw [Bool.and_eq_true] at z
    exact ⟨of_decide_eq_true z.1, of_decide_eq_true z.2⟩⟩
def okJ (ds : List PyData) (j : Nat) : Bool := match ds[j]? with
  | some d => nextD d ((ds.take j).map lowD)
  | none => true
theorem next_ok {ds : List PyData} {j : Nat} (h : okJ ds j = true) : NextOk ds j := fun d hd => by
  unfold okJ at h
  rw [hd] at h
  exact h
theorem he2 (oD : OddD od) : HeadErr (lowD (.int 1)) [od, od] (some 0) :=
  ⟨by show 2 ≤ 8; decide, .inl ⟨next_neg oD rfl rfl, fun j hj => absurd hj (by omega)⟩⟩
theorem he3 (oD : OddD od) : HeadErr (lowD (.tuple [.int 1, .int 2])) [.int 0, od, bd] (some 1) :=
  ⟨by show 3 ≤ 8; decide, .inl ⟨next_neg oD rfl (by show ([lowD (.int 0)].all fun m => decide (0 ≤ m.1) && decide (0 < m.2)) = true; decide +kernel), fun j hj => by
    obtain rfl : j = 0 := by omega
    exact next_ok (by show nextD (.int 0) [] = true; decide +kernel)⟩⟩
theorem he4 : HeadErr (lowD (.tuple [.int 1, .int 2])) [.tuple [.int 1, .int 4], .tuple [.int 2, .int 8], bd] (some 1) :=
  ⟨by show 3 ≤ 8; decide, .inl ⟨⟨_, rfl, by show nextD (.tuple [.int 2, .int 8]) [lowD (.tuple [.int 1, .int 4])] = false; decide +kernel⟩, fun j hj => by
    obtain rfl : j = 0 := by omega
    exact next_ok (by show nextD (.tuple [.int 1, .int 4]) [] = true; decide +kernel)⟩⟩
theorem he5 : HeadErr (lowD (.int 0)) [.tuple [.int 1, .int 2], .tuple [.int 1, .int 3], .int 5] (some 1) :=
  ⟨by show 3 ≤ 8; decide, .inl ⟨⟨_, rfl, by decide +kernel⟩, fun j hj => by
    obtain rfl : j = 0 := by omega
    exact next_ok (by decide +kernel)⟩⟩
theorem he6 {x : PyData} : HeadErr (lowD x) [.int 0, .int 1, .int 2, .int 3, .int 4, .int 5, .int 6, .int 7, od] none := by
  show 8 < 9
  decide
theorem he8 : HeadErr (lowD (.tuple [.int 1, .int 3])) [.int 1, .tuple [.int 7, .int 3]] (some 1) :=
  ⟨by decide, .inr ⟨next_of (by decide +kernel), last_not (by decide +kernel), rfl⟩⟩
theorem he9 : HeadErr (lowD (.tuple [.int 1, .int 3])) [.tuple [.int 4, .int 3]] (some 0) :=
  ⟨by decide, .inr ⟨next_of (by decide +kernel), last_not (by decide +kernel), rfl⟩⟩
theorem sz_nil : ∀ d ∈ ([] : List PyData), sizeB d = true := fun d h => by cases h
theorem szc {d : PyData} {ds : List PyData} (h : sizeB d = true) (t : ∀ x ∈ ds, sizeB x = true) : ∀ x ∈ d :: ds, sizeB x = true := fun x hx => by
  rcases List.mem_cons.mp hx with z | z
  · rw [z]; exact h
  · exact t x z
end
section
variable {K : PySem.W.Frag} {T : List (Addr × Str)} {a LA : Addr} {H0 H H6 : Hp} {xs : List V} {ds : List PyData} {bv ov : V} {bd od : PyData}
theorem St02.put (S : St02 K T a LA H0 H xs ds bv bd ov od) {l : Addr} {vs : List V} {es : List PyData} (s6 : Same H H6) (nl : H l = none) (zl : l ≠ sysModules) (el : H6 l = some (.lst vs)) (h : IssO K [LA, a] H6 vs es) :
    St02 K T a LA H0 (upd H6 LA (.lst (xs ++ [.ref l]))) (xs ++ [.ref l]) (ds ++ [.list es]) bv bd ov od := (S.same s6).app (S.row s6 nl zl el h)
theorem tank_upd {x : HO} (t : TankAt H a) (ne : LA ≠ a) : TankAt (upd H LA x) a := by
  obtain ⟨x, y, w, e1, e2⟩ := t.ex
  exact ⟨x, y, w, by rw [upd_ne ne.symm]; exact e1, e2⟩
theorem St02.put2 (S : St02 K T a LA H0 H xs ds bv bd ov od) (tk : TankAt H a) {l : Addr} {vs : List V} {es : List PyData} (s6 : Same H H6) (nl : H l = none) (zl : l ≠ sysModules) (el : H6 l = some (.lst vs)) (h : IssO K [LA, a] H6 vs es) :
    St02 K T a LA H0 (upd H6 LA (.lst (xs ++ [.ref l]))) (xs ++ [.ref l]) (ds ++ [.list es]) bv bd ov od ∧ TankAt (upd H6 LA (.lst (xs ++ [.ref l]))) a := ⟨S.put s6 nl zl el h, tank_upd (tk.keep s6) S.lne⟩
end

/-! ### the due answers as data -/
section
variable {bd : PyData}
def rowsD (bd : PyData) : List PyData := [.list [.str "InvalidOffset", bd, .bool true], .list [.str "InvalidHead", .int 0, .bool true], .list [.str "InvalidHead", .int 1, .bool true], .list [.str "InvalidHead", .int 1, .bool true],
  .list [.str "InvalidHead", .int 1, .bool true], .list [.str "InvalidHead", .none, .bool true], .list [.str "InvalidOffset", bd, .bool true], .list [.str "InvalidHead", .int 1, .bool true], .list [.str "InvalidHead", .int 0, .bool true]]
theorem piled_le {n : Nat} : ∀ {ds : List PyData}, (∀ d ∈ ds, d.shown.length ≤ n) → piled (PyData.shownAll ds) ≤ ds.length * (n + 2)
  | [], _ => by simp [PyData.shownAll, piled]
  | d :: ds, h => by
    have h1 := h d List.mem_cons_self
    have h2 := piled_le (ds := ds) fun x hx => h x (List.mem_cons_of_mem _ hx)
    simp only [PyData.shownAll, piled, List.map_cons, List.sum_cons, List.length_cons] at h2 ⊢
    rw [Nat.add_mul]
    omega
theorem listText_cons (t : Str) (r : List Str) : (listText (t :: r)).length = piled (t :: r) := by
  have h := textFrom_length_pos r 1 (("[" : Str) ++ (if (0 : Nat) > 0 then ", "
        else "" : String) ++ t) (Nat.succ_pos 0)
  have e : ((("[" : Str) ++ (if (0 : Nat) > 0 then ", " else "" : String)
        ++ t)).length = 1 + t.length := by
    rw [strLen_append,
          strLen_append]; rfl
  have hX : (listText (t :: r)).length = (textFrom 0 "["
        (t :: r)).length + 1 := by
    show (textFrom 0 "[" (t :: r) ++
          "]").length = _
    rw [strLen_append]; rfl
  have hY : (textFrom 0 "[" (t :: r)).length = (textFrom 1 (("[" : Str) ++ (if (0 : Nat) > 0 then
        ", " else "" : String) ++ t) r).length := rfl
  rw [hX, hY, h, e,
        piled_cons]; omega
theorem list_len {n : Nat} {ds : List PyData} (ne : ds ≠ []) (h : ∀ d ∈ ds, d.shown.length ≤ n) : (PyData.shown (.list ds)).length ≤ ds.length * (n + 2) := by
  have e : PyData.shown (.list ds) = listText (PyData.shownAll ds) := by simp only [PyData.shown]
  cases ds with
  | nil => exact absurd rfl ne
  | cons d r =>
    have z := piled_le h
    have e2 : PyData.shownAll (d :: r) = d.shown :: PyData.shownAll r := by simp only [PyData.shownAll]
    rw [e]
    rw [e2] at z ⊢
    rw [listText_cons]
    exact z
theorem row_len (bD : BadD bd) : ∀ d ∈ rowsD bd, d.shown.length ≤ 306 := by
  have b := bD.len
  have k1 : (PyData.shown (.str "InvalidOffset")).length ≤ 100 := by decide +kernel
  have k2 : (PyData.shown (.str "InvalidHead")).length ≤ 100 := by decide +kernel
  have k3 : (PyData.shown (.bool true)).length ≤ 100 := by decide +kernel
  have k4 : (PyData.shown (.int 0)).length ≤ 100 := by decide +kernel
  have k5 : (PyData.shown (.int 1)).length ≤ 100 := by decide +kernel
  have k6 : (PyData.shown .none).length ≤ 100 := by decide +kernel
  have row : ∀ {x y z : PyData}, x.shown.length ≤ 100 → y.shown.length ≤ 100 → z.shown.length ≤ 100 → (PyData.shown (.list [x, y, z])).length ≤ 306 := fun {x y z} hx hy hz =>
    list_len (n := 100) (by simp) (by
      intro d hd
      simp only [List.mem_cons, List.not_mem_nil, or_false] at hd
      rcases hd with w | w | w <;> rw [w] <;> assumption)
  intro d hd
  unfold rowsD at hd
  simp only [List.mem_cons, List.not_mem_nil, or_false] at hd
  rcases hd with w | w | w | w | w | w | w | w | w <;> rw [w] <;> apply row <;> assumption
theorem due_ok (bD : BadD bd) : (PyData.list (rowsD bd)).showable = true ∧ (PyData.list (rowsD bd)).depth ≤ 60 ∧ (PyData.list (rowsD bd)).shown.length ≤ sizeLine := by
  refine ⟨?_, ?_, ?_⟩
  · unfold rowsD
    simp only [PyData.showable, PyData.showableAll, bD.sh, Bool.and_true, Bool.true_and]
    decide +kernel
  · have := bD.dep
    unfold rowsD
    simp only [PyData.depth,
          PyData.depthAll]
    omega
  · refine Nat.le_trans (list_len (n := 306) (by unfold rowsD; simp) (row_len bD)) ?_
    rw [sizeLine_eq]
    show 9 * 308 ≤ 16777216
    decide
end

/-! ### the three rules that are made -/
def okwB (q : Int × Int) : Bool := decide (0 ≤ q.1) && decide (0 < q.2) && decide (q.1 < 10 ^ 50) && decide (q.2 < 10 ^ 50)
theorem okw_of {q : Int × Int} (h : okwB q = true) : OkW q := by
  unfold okwB at h
  simp only [Bool.and_eq_true,
        decide_eq_true_eq] at h
  exact ⟨h.1.1.1, h.1.1.2, h.1.2, h.2⟩
def incB : List (Int × Int) → Bool
  | p :: q :: r => decide (p.1 * q.2 < q.1 * p.2) && incB (q :: r)
  | _ => true
theorem inc_of : ∀ {hd : List (Int × Int)}, incB hd = true → ∀ (i : Nat) (p q : Int × Int), hd[i]? = some p → hd[i + 1]? = some q → ltQ p q
  | [], _, i, p, q, h, _ => by simp at h
  | [x], _, i, p, q, _, h => by simp at h
  | x :: y :: r, hb, i, p, q, h1, h2 => by
    unfold incB at hb
    rw [Bool.and_eq_true, decide_eq_true_eq] at hb
    cases i with
    | zero =>
      cases h1
      cases h2
      exact hb.1
    | succ i => exact inc_of hb.2 i p q h1 h2
def vrB (o : Int × Int) (hd : List (Int × Int)) : Bool := okwB o && decide (lowQ o.1 o.2 = o) && decide (o.1 ≤ o.2) && decide (hd.length ≤ 8) && hd.all (fun q => okwB q && decide (lowQ q.1 q.2 = q)) && incB hd &&
  (match hd.getLast? with | some m => decide (m.1 * (plainQ o hd.length).2 < (plainQ o hd.length).1 * m.2) | none => true)
theorem vr_of {o : Int × Int} {hd : List (Int × Int)} (h : vrB o hd = true) : VR o hd := by
  unfold vrB at h
  simp only [Bool.and_eq_true,
        decide_eq_true_eq] at h
  obtain ⟨⟨⟨⟨⟨⟨h1, h2⟩, h3⟩, h4⟩,
        h5⟩, h6⟩, h7⟩ := h
  refine ⟨okw_of h1, h2, h3, h4, fun q hq => ?_, inc_of h6, fun m hm => ?_⟩
  · have z := List.all_eq_true.mp h5 q hq
    rw [Bool.and_eq_true, decide_eq_true_eq] at z
    exact ⟨okw_of z.1, z.2⟩
  · rw [hm] at h7
    exact of_decide_eq_true h7
def gB (d : PyData) (ds : List PyData) : Bool := isOffD d && encB d && decide (ds.length ≤ 8) && (decide ((lowD d).1.natAbs < 2 ^ 100) && decide ((lowD d).2.natAbs < 2 ^ 100)) && ds.all sizeB && okB ds && lastB (lowD d) ds && vrB (lowD d) (ds.map lowD)
section
variable {P : Program} {w : World} {K : PySem.W.Frag} {mg : Str → Option Value} {base : Heap} {c CO CH : Addr} {H : Hp} {v : V} {rest : List V} {d : PyData} {ds : List PyData} {Qs : VK} {E : XK}
theorem rd_str (g : gB d ds = true) (hv : IsO K [] H v d) (hr : IssO K [] H rest ds) (rl : rest.length ≤ 1000) (k : ∀ H', Same H H' → Qs (.str (SX.S (ruleL (lowD d) (ds.map lowD)))) H') {x dx : Addr} (nx : H x = Option.none) (ndx : H dx = Option.none) (ne : dx ≠ x) :
    sp_Rule_newX K c CO CH (V.ref x :: v :: rest) (upd (upd H dx (.own x)) x (.ins c dx [])) (fun v H2 => v = .non ∧ rStrO c (sp_Rule_str K c) [.ref x] H2 Qs) E := by
  unfold gB at g
  simp only [Bool.and_eq_true, decide_eq_true_eq] at g
  obtain ⟨⟨⟨⟨⟨⟨⟨g1, g2⟩, g3⟩, g4⟩, g5⟩, g6⟩, g7⟩, g8⟩ := g
  refine rd_goodX (R := fun H2 => rStrO c (sp_Rule_str K c) [.ref x] H2 Qs) (A := []) (fun b hb => by cases hb) hv hr g1 g2 rl g3 (hsz_of g4 (List.all_eq_true.mp g5)) (next_of g6) (last_of g7) nx ndx ne fun H' s R => ?_
  obtain ⟨dx, v0, v1, v2, v3, e, h0, h1, h2, h3⟩ := R.ex
  exact ⟨x, dx, _, rfl, e, x, [], lowD d, ds.map lowD, rfl, R, vr_of g8, fun H2 s2 => ⟨_, rfl, k H2 (s.trans s2)⟩⟩
end
/-- the law's list of rules' texts -/
structure Sg (T : List (Addr × Str)) (A : List Addr) (LG : Addr) (H0 H : Hp) (xs : List V) (ts : List Str) : Prop where
  la : H LG = some (.lst xs)
  len : xs.length = ts.length
  rows : ∀ (i : Nat) (v : V) (t : Str), xs[i]? = some v → ts[i]? = some t → ∃ l, v = .ref l ∧ l ≠ LG ∧ H l = some (.lst [.str "given", .str t])
  ext : ExA A H0 H
  fresh : ∀ o, H0 LG = some o → ∃ ps, o = .tbl ps
  tabs : LamX.Tabs T H
section
variable {T : List (Addr × Str)} {A : List Addr} {LG : Addr} {H0 H H' : Hp} {xs : List V} {ts : List Str}
theorem Sg.lam (s : Sg T A LG H0 H xs ts) (e : LamX.ExtN H H') (t : LamX.Tabs T H') : Sg T A LG H0 H' xs ts :=
  ⟨e _ _ s.la (fun ps z => by cases z), s.len, fun i v t h1 h2 => by
    obtain ⟨l, a, b, c⟩ := s.rows i v t h1 h2
    exact ⟨l, a, b, e _ _ c (fun ps z => by cases z)⟩, s.ext.trans (.ext e), s.fresh, t⟩
theorem Sg.same (s : Sg T A LG H0 H xs ts) (e : Same H H') : Sg T A LG H0 H' xs ts :=
  ⟨e _ _ s.la, s.len, fun i v t h1 h2 => by
    obtain ⟨l, a, b, c⟩ := s.rows i v t h1 h2
    exact ⟨l, a, b, e _ _ c⟩, s.ext.trans (.same e), s.fresh, s.tabs.ext e⟩
theorem Sg.put (s : Sg T A LG H0 H xs ts) {l : Addr} {t : Str} (nl : H l = none) : Sg T A LG H0 (upd (upd H l (.lst [.str "given", .str t])) LG (.lst (xs ++ [.ref l]))) (xs ++ [.ref l]) (ts ++ [t]) := by
  have s2 := s.same (same_new (o := .lst [.str "given", .str t]) nl)
  have lg : l ≠ LG := (ne_of_none s.la nl).symm
  refine ⟨upd_same, by simp [s.len], fun i v t h1 h2 => ?_, fun b o hb e nt => ?_, s.fresh, tabs_keepD s2.tabs s2.la⟩
  · rcases Nat.lt_or_ge i xs.length with y | y
    · rw [List.getElem?_append_left y] at h1
      rw [List.getElem?_append_left (by rw [← s.len]; exact y)] at h2
      obtain ⟨l, a, b, c⟩ := s2.rows i v t h1 h2
      exact ⟨l, a, b, by rw [upd_ne b]; exact c⟩
    · rw [List.getElem?_append_right y] at h1
      rw [List.getElem?_append_right (by rw [← s.len]; exact y)] at h2
      rw [s.len] at h1
      cases hj : i - ts.length with
      | zero =>
        rw [hj] at h1 h2
        cases h1
        cases h2
        exact ⟨l, rfl, lg, by rw [upd_ne lg, upd_same]⟩
      | succ j => rw [hj] at h1; simp at h1
  · have n : b ≠ LG := fun z => by
      rw [z] at e
      obtain ⟨ps, q⟩ := s.fresh o e
      exact nt ps q
    rw [upd_ne n]
    exact s2.ext b o hb e nt
theorem Sg.first {l : Addr} {t : Str} (nl : H l = none) (n : (upd H l (.lst [.str "given", .str t])) LG = none) (e : ExA A H0 H) (f : ∀ o, H0 LG = some o → ∃ ps, o = .tbl ps) (tb : LamX.Tabs T H) :
    Sg T A LG H0 (upd (upd H l (.lst [.str "given", .str t])) LG (.lst [.ref l])) [.ref l] [t] := by
  have s1 : Same H (upd H l (.lst [.str "given", .str t])) := same_new nl
  have lg : l ≠ LG := ne_of_none upd_same n
  refine ⟨upd_same, rfl, fun i v t h1 h2 => ?_, (e.trans (.same s1)).trans (.same (same_new n)), f, (tb.ext s1).ext (same_new n)⟩
  cases i with
  | zero =>
    cases h1
    cases h2
    exact ⟨l, rfl, lg, by rw [upd_ne lg, upd_same]⟩
  | succ j => simp at h1
def givenD (ts : List Str) : PyData := .list (ts.map fun t => .list [.str "given", .str t])
theorem dpAll_rows {K : PySem.W.Frag} : ∀ {xs : List V} {ts : List Str}, xs.length = ts.length → (∀ (i : Nat) (v : V) (t : Str), xs[i]? = some v → ts[i]? = some t → ∃ l, v = .ref l ∧ H l = some (.lst [.str "given", .str t])) → DpAll K H xs (ts.map fun t => .list [.str "given", .str t])
  | [], [], _, _ => .nil
  | [], _ :: _, h, _ =>
        by simp at h
  | _ :: _, [], h, _ =>
        by simp at h
  | v :: xs, t :: ts, h, all => by
    obtain ⟨l, rfl, e⟩ := all 0 v t rfl rfl
    exact .cons (.lst (.inl (.inl e)) (.cons (.str _) (.cons (.str _) .nil))) (dpAll_rows (by simpa using h) fun i v t h1 h2 => all (i + 1) v t h1 h2)
theorem Sg.dp {K : PySem.W.Frag} (s : Sg T A LG H0 H xs ts) : Dp K H (.ref LG) (givenD ts) := .lst (.inl (.inl s.la)) (dpAll_rows s.len fun i v t h1 h2 => by
  obtain ⟨l, a, b, c⟩ := s.rows i v t h1 h2
  exact ⟨l, a, c⟩)
end

end LW

set_option Elab.async false
set_option linter.all false
set_option maxRecDepth 100000
set_option maxHeartbeats 4000100
set_option exponentiation.threshold 9000
namespace LW
open PySem PySem.Spec PyProof.Rows L2 StX
abbrev s__law_right : Stmt := topS 36
theorem sc__law_right : FnScope ["_law_tank_here", "_law_bad", "_law_low", "_law_answers", "_law_odd", "_law_due", "_law_good_ones"] ["_law_tank_here"] (defScope s__law_right) := ⟨rfl, rfl, rfl, by decide +kernel, rfl, by decide +kernel, by decide +kernel⟩
local macro_rules | `(tactic| walk_at "len") => `(tactic| skip)
/-- a def and its code object -/
structure FunAt (K : PySem.W.Frag) (x qual : Str) (st : Stmt) (f : Addr) (fd : FuncData) (cdv : Value) : Prop where
  ex : ∃ (oc : Value) (od : Option Addr) (kV doc pm : Value) (an : Option Addr) (ct : Value) (osl : Array (Option Value)),
    fd = PySem.W.fnOf x qual (defArgs st) (defBody st) (defScope st) .none kV doc pm an cdv ct ∧ K.lookup f = some
          ⟨oc, od, .func fd, osl⟩ ∧ PySem.W.codeIn K cdv qual = true
  kp : PySem.W.keepIn K
        (.ref f) = true
theorem FunAt.fn {K : PySem.W.Frag} {x qual : Str} {st : Stmt} {f : Addr} {fd : FuncData} {cdv : Value} (F : FunAt K x qual st f fd cdv) : Fun K x qual st f fd := by
  obtain ⟨oc, od, kV, doc, pm, an, ct, osl, e, lk, hc⟩ := F.ex
  exact ⟨⟨oc, od, kV, doc, pm, an, cdv, ct, osl, e, lk, hc⟩, F.kp⟩
theorem FunAt.okG {P : Program} {w : World} {K : PySem.W.Frag} {mg : Str → Option Value} {base : Heap} {x qual : Str} {st : Stmt} {f : Addr} {fd : FuncData} {cdv : Value} {N ps : List Str} {k : Nat} {sp : Sp} (F : FunAt K x qual st f fd cdv) (S : FnScope N ps (defScope st)) (lens : ∀ vs H Q E, sp vs H Q E → vs.length = ps.length)
    (inner : ∀ (A : Around) (outer : List Env) (s : Shared) (H : Hp) (vs : List V) (Q : VK) (E : XK), Room k (A.deeper (envOfC qual (defScope st) s.heap.objs.size f cdv)) → A.guards = some [] → sp vs H Q E →
      ∃ t, PSs (cxOf CX0 P w K mg base N qual (defScope st) f cdv A outer s H E).nox (defBody st) t ∧ t { nx := fun _ H' => Q .non H', rt := Q } (start N vs) H) : FnG P w K mg base CX0 (k + 1) f fd ps sp := by
  obtain ⟨oc, od, kV, doc, pm, an, ct, osl, rfl, lk, hcode⟩ := F.ex
  refine fnG_of lk hcode S lens ?_
  intro A outer s H vs Q E room quiet want
  obtain ⟨t, der, rd⟩ := inner A outer s H vs Q E room quiet want
  exact ⟨t, der.nox, rd⟩

/-! ### the law's thirteen answers -/
section
variable {P : Program} {w : World} {K : PySem.W.Frag} {mg : Str → Option Value} {base : Heap} {c : Addr}
def lamT (Pt : Addr) : List (Addr × Str) := [(Pt, "_law_right.<locals>.<lambda>")]
def sp__law_rightT (K : PySem.W.Frag) (Pt : Addr) : Sp := fun vs H Q _ => ∃ (a : Addr), vs = [.ref a] ∧ TankAt H a ∧ LamX.Tabs (lamT Pt) H ∧
  ∀ H', (∀ b o, b ≠ a → H b = some o → (∀ ps, o ≠ .tbl ps) → H' b = some o) → LamX.Tabs (lamT Pt) H' → Q (.bl true) H'
theorem calG__law_right {cc Pt CH CO CI f : Addr} {fd : FuncData} (B : Bl mg) (Tp : Tx K mg c) (F : FunAt K "_law_right" "_law_right" s__law_right f fd (.ref cc)) (hm : mg "_law_right" = some (.ref f)) (TB : LamX.TabB base mg cc Pt) (GT : GotT2 K mg CH CO CI)
    (MRule : MakX P w K mg base 7 "Rule" c (sp_Rule_newX K c CO CH)) (OS : OwnStr P w K mg base (2 + 1) c (sp_Rule_str K c)) (C__law_any : Cal P w K mg base 2 "_law_any" (sp__law_any K c) []) :
    CalG P w K mg base 13 "_law_right" (sp__law_rightT K Pt) [] := by
  refine ⟨f, fd, ["_law_tank_here"], [], F.okG sc__law_right (fun vs H Q E h => ?len) (fun A outer s H vs Q E hr quiet0 h => ?run), hm, F.kp, F.fn.binds (fun _ _ _ _ _ _ us hl => match us, hl with | [_], _ => rfl), .nil⟩
  case len =>
    obtain ⟨_, rfl, _⟩ := h
    rfl
  case run =>
    obtain ⟨a, rfl, tk, tabs, k⟩ := h
    have quiet : (A.deeper (envOfC "_law_right" (defScope s__law_right) s.heap.objs.size f (.ref cc))).guards = some [] := quiet0
    have hu64 : (A.deeper (envOfC "_law_right" (defScope s__law_right) s.heap.objs.size f (.ref cc))).units + 64 < cLine := by have := hr.un; omega
    have hu65 : (A.deeper (envOfC "_law_right" (defScope s__law_right) s.heap.objs.size f (.ref cc))).units + 65 < cLine := by have := hr.un; omega
    refine ⟨_, (pss_cons (ps_set (i := 1) sc__law_right.nd rfl (Or.inr rfl) (pe_c C__law_any hr (by decide) (by rfl) (pa_cons (pv 0) (pa_cons (pe_lstS (pa_cons pe_non (pa_cons pe_bl (pa_cons pe_bl (pa_cons pe_str (pa_cons (pe_tupS pa_nil) (pa_cons (pe_lstS (pa_cons pe_int pa_nil)) (pa_cons (pe_tupS (pa_cons pe_int pa_nil)) (pa_cons (pe_tupS (pa_cons pe_int (pa_cons pe_int (pa_cons pe_int pa_nil)))) (pa_cons (pe_tupS (pa_cons pe_int (pa_cons pe_int pa_nil))) (pa_cons (pe_tupS (pa_cons pe_int (pa_cons (pe_un un_neg pe_int) pa_nil))) (pa_cons (pe_tupS (pa_cons pe_bl (pa_cons pe_int pa_nil))) (pa_cons (pe_tupS (pa_cons pe_int (pa_cons pe_bl pa_nil))) (pa_cons pe_dnewS pa_nil)))))))))))))) pa_nil))))
      (pss_cons (ps_set (i := 2) sc__law_right.nd rfl (Or.inr rfl) (pe_c C__law_any hr (by decide) (by rfl) (pa_cons (pv 0) (pa_cons (pe_lstS (pa_cons (pe_un un_neg pe_int) (pa_cons (pe_tupS (pa_cons (pe_un un_neg pe_int) (pa_cons (pe_op op_pow pe_int pe_int) pa_nil))) (pa_cons pe_int (pa_cons (pe_tupS (pa_cons (pe_op op_add (pe_op op_pow pe_int pe_int) pe_int) (pa_cons (pe_op op_pow pe_int pe_int) pa_nil))) (pa_cons (pe_tupS (pa_cons pe_int (pa_cons pe_int pa_nil))) pa_nil)))))) pa_nil))))
      (pss_cons (ps_set (i := 3) sc__law_right.nd rfl (Or.inl rfl) (pe_lstS (pa_cons (pe_got2 B GT (by rfl) TB rfl (List.mem_singleton.mpr rfl) (fun p hp _ => by rw [List.mem_singleton.mp hp]) hr (LamX.lamS_by (show LamX.lamSB (defScope s__law_right) _ = true from by decide +kernel)) rfl (fun _ _ _ _ _ => rfl) (fun A outer s H E f c' hr2 => (pe_mkX MRule hr2 (by decide) (by rfl) (passes_call (takes_of rfl rfl rfl rfl) (fun _ _ _ _ z => z)) (pa_cons (pe_c C__law_any hr2 (by decide) (by rfl) (pa_cons (pv 0) (pa_cons (pe_lstS (pa_cons (pv 1) (pa_cons (pv 2) pa_nil))) pa_nil))) pa_nil)))) pa_nil)))
      (pss_cons (ps_if (PW.pt (pw_or (pt_cmpR op_ne (pe_ix ix_seq (pe_ix ix_seq (pv 3) pe_int (fun _ _ => rfl)) pe_int (fun _ _ => rfl)) pe_str (nomark _)) (pw_or (pt_cmpR op_notBl (pe_ix ix_seq (pe_ix ix_seq (pv 3) pe_int (fun _ _ => rfl)) pe_int (fun _ _ => rfl)) pe_bl (nomark _)) (pw_or1 (pt_cmpR op_notInX (pe_ix ix_seq (pe_ix ix_seq (pv 3) pe_int (fun _ _ => rfl)) pe_int (fun _ _ => rfl)) (pe_lstS (pa_cons (pv 1) (pa_cons (pv 2) pa_nil))) (by rfl)))))) (pss_one (ps_ret pe_bl)) pss_nil)
      (pss_cons (ps_set (i := 4) sc__law_right.nd rfl (Or.inr rfl) (pe_c C__law_any hr (by decide) (by rfl) (pa_cons (pv 0) (pa_cons (pe_lstS (pa_cons (pv 1) (pa_cons (pe_un un_neg pe_int) (pa_cons (pe_tupS (pa_cons (pe_un un_neg pe_int) (pa_cons pe_int pa_nil))) pa_nil)))) pa_nil))))
      (pss_cons (ps_set (i := 3) sc__law_right.nd rfl (Or.inl rfl) (pe_lstS (pa_cons (pe_got2 B GT (by rfl) TB rfl (List.mem_singleton.mpr rfl) (fun p hp _ => by rw [List.mem_singleton.mp hp]) hr (LamX.lamS_by (show LamX.lamSB (defScope s__law_right) _ = true from by decide +kernel)) rfl (fun _ _ _ _ _ => rfl) (fun A outer s H E f c' hr2 => (pe_mkX MRule hr2 (by decide) (by rfl) (passes_call (takes_of rfl rfl rfl rfl) (fun _ _ _ _ z => z)) (pa_cons (pv 1) (pa_cons (pv 4) (pa_cons pe_int pa_nil)))))) pa_nil)))
      (pss_cons (ps_expr (pe_bm PySem.F.plainAttrs_list PySem.F.slot_list_append PySem.F.type_list_append mt_append (pv 3) (pa_cons (pe_got2 B GT (by rfl) TB rfl (List.mem_singleton.mpr rfl) (fun p hp _ => by rw [List.mem_singleton.mp hp]) hr (LamX.lamS_by (show LamX.lamSB (defScope s__law_right) _ = true from by decide +kernel)) rfl (fun _ _ _ _ _ => rfl) (fun A outer s H E f c' hr2 => (pe_mkX MRule hr2 (by decide) (by rfl) (passes_call (takes_of rfl rfl rfl rfl) (fun _ _ _ _ z => z)) (pa_cons pe_int (pa_cons (pv 4) (pa_cons (pv 4) pa_nil)))))) pa_nil)))
      (pss_cons (ps_expr (pe_bm PySem.F.plainAttrs_list PySem.F.slot_list_append PySem.F.type_list_append mt_append (pv 3) (pa_cons (pe_got2 B GT (by rfl) TB rfl (List.mem_singleton.mpr rfl) (fun p hp _ => by rw [List.mem_singleton.mp hp]) hr (LamX.lamS_by (show LamX.lamSB (defScope s__law_right) _ = true from by decide +kernel)) rfl (fun _ _ _ _ _ => rfl) (fun A outer s H E f c' hr2 => (pe_mkX MRule hr2 (by decide) (by rfl) (passes_call (takes_of rfl rfl rfl rfl) (fun _ _ _ _ z => z)) (pa_cons (pe_tupS (pa_cons pe_int (pa_cons pe_int pa_nil))) (pa_cons pe_int (pa_cons (pv 4) (pa_cons (pv 1) pa_nil))))))) pa_nil)))
      (pss_cons (ps_expr (pe_bm PySem.F.plainAttrs_list PySem.F.slot_list_append PySem.F.type_list_append mt_append (pv 3) (pa_cons (pe_got2 B GT (by rfl) TB rfl (List.mem_singleton.mpr rfl) (fun p hp _ => by rw [List.mem_singleton.mp hp]) hr (LamX.lamS_by (show LamX.lamSB (defScope s__law_right) _ = true from by decide +kernel)) rfl (fun _ _ _ _ _ => rfl) (fun A outer s H E f c' hr2 => (pe_mkX MRule hr2 (by decide) (by rfl) (passes_call (takes_of rfl rfl rfl rfl) (fun _ _ _ _ z => z)) (pa_cons (pe_tupS (pa_cons pe_int (pa_cons pe_int pa_nil))) (pa_cons (pe_tupS (pa_cons pe_int (pa_cons pe_int pa_nil))) (pa_cons (pe_tupS (pa_cons pe_int (pa_cons pe_int pa_nil))) (pa_cons (pv 1) pa_nil))))))) pa_nil)))
      (pss_cons (ps_expr (pe_bm PySem.F.plainAttrs_list PySem.F.slot_list_append PySem.F.type_list_append mt_append (pv 3) (pa_cons (pe_got2 B GT (by rfl) TB rfl (List.mem_singleton.mpr rfl) (fun p hp _ => by rw [List.mem_singleton.mp hp]) hr (LamX.lamS_by (show LamX.lamSB (defScope s__law_right) _ = true from by decide +kernel)) rfl (fun _ _ _ _ _ => rfl) (fun A outer s H E f c' hr2 => (pe_mkX MRule hr2 (by decide) (by rfl) (passes_call (takes_of rfl rfl rfl rfl) (fun _ _ _ _ z => z)) (pa_cons pe_int (pa_cons (pe_tupS (pa_cons pe_int (pa_cons pe_int pa_nil))) (pa_cons (pe_tupS (pa_cons pe_int (pa_cons pe_int pa_nil))) (pa_cons pe_int pa_nil))))))) pa_nil)))
      (pss_cons (ps_expr (pe_bm PySem.F.plainAttrs_list PySem.F.slot_list_append PySem.F.type_list_append mt_append (pv 3) (pa_cons (pe_got2 B GT (by rfl) TB rfl (List.mem_singleton.mpr rfl) (fun p hp _ => by rw [List.mem_singleton.mp hp]) hr (LamX.lamS_by (show LamX.lamSB (defScope s__law_right) _ = true from by decide +kernel)) rfl (fun _ _ _ _ _ => rfl) (fun A outer s H E f c' hr2 => (pe_mkX MRule hr2 (by decide) (by rfl) (passes_call (takes_of rfl rfl rfl rfl) (fun _ _ _ _ z => z)) (pa_cons pe_int (pa_cons pe_int (pa_cons pe_int (pa_cons pe_int (pa_cons pe_int (pa_cons pe_int (pa_cons pe_int (pa_cons pe_int (pa_cons pe_int (pa_cons (pv 4) pa_nil))))))))))))) pa_nil)))
      (pss_cons (ps_expr (pe_bm PySem.F.plainAttrs_list PySem.F.slot_list_append PySem.F.type_list_append mt_append (pv 3) (pa_cons (pe_got2 B GT (by rfl) TB rfl (List.mem_singleton.mpr rfl) (fun p hp _ => by rw [List.mem_singleton.mp hp]) hr (LamX.lamS_by (show LamX.lamSB (defScope s__law_right) _ = true from by decide +kernel)) rfl (fun _ _ _ _ _ => rfl) (fun A outer s H E f c' hr2 => (pe_mkX MRule hr2 (by decide) (by rfl) (passes_call (takes_of rfl rfl rfl rfl) (fun _ _ _ _ z => z)) (pa_cons (pv 1) (pa_cons pe_int (pa_cons pe_int (pa_cons pe_int (pa_cons pe_int (pa_cons pe_int (pa_cons pe_int (pa_cons pe_int (pa_cons pe_int (pa_cons (pv 4) pa_nil))))))))))))) pa_nil)))
      (pss_cons (ps_expr (pe_bm PySem.F.plainAttrs_list PySem.F.slot_list_append PySem.F.type_list_append mt_append (pv 3) (pa_cons (pe_got2 B GT (by rfl) TB rfl (List.mem_singleton.mpr rfl) (fun p hp _ => by rw [List.mem_singleton.mp hp]) hr (LamX.lamS_by (show LamX.lamSB (defScope s__law_right) _ = true from by decide +kernel)) rfl (fun _ _ _ _ _ => rfl) (fun A outer s H E f c' hr2 => (pe_mkX MRule hr2 (by decide) (by rfl) (passes_call (takes_of rfl rfl rfl rfl) (fun _ _ _ _ z => z)) (pa_cons (pe_tupS (pa_cons pe_int (pa_cons pe_int pa_nil))) (pa_cons pe_int (pa_cons (pe_tupS (pa_cons pe_int (pa_cons pe_int pa_nil))) pa_nil)))))) pa_nil)))
      (pss_cons (ps_expr (pe_bm PySem.F.plainAttrs_list PySem.F.slot_list_append PySem.F.type_list_append mt_append (pv 3) (pa_cons (pe_got2 B GT (by rfl) TB rfl (List.mem_singleton.mpr rfl) (fun p hp _ => by rw [List.mem_singleton.mp hp]) hr (LamX.lamS_by (show LamX.lamSB (defScope s__law_right) _ = true from by decide +kernel)) rfl (fun _ _ _ _ _ => rfl) (fun A outer s H E f c' hr2 => (pe_mkX MRule hr2 (by decide) (by rfl) (passes_call (takes_of rfl rfl rfl rfl) (fun _ _ _ _ z => z)) (pa_cons (pe_tupS (pa_cons pe_int (pa_cons pe_int pa_nil))) (pa_cons (pe_tupS (pa_cons pe_int (pa_cons pe_int pa_nil))) pa_nil))))) pa_nil)))
      (pss_cons (ps_set (i := 5) sc__law_right.nd rfl (Or.inl rfl) (pe_lstS (pa_cons (pe_lstS (pa_cons pe_str (pa_cons (pv 1) (pa_cons pe_bl pa_nil)))) (pa_cons (pe_lstS (pa_cons pe_str (pa_cons pe_int (pa_cons pe_bl pa_nil)))) (pa_cons (pe_lstS (pa_cons pe_str (pa_cons pe_int (pa_cons pe_bl pa_nil)))) (pa_cons (pe_lstS (pa_cons pe_str (pa_cons pe_int (pa_cons pe_bl pa_nil)))) pa_nil))))))
      (pss_cons (ps_set (i := 5) sc__law_right.nd rfl (Or.inl rfl) (pe_op op_catS (pv 5) (pe_lstS (pa_cons (pe_lstS (pa_cons pe_str (pa_cons pe_int (pa_cons pe_bl pa_nil)))) (pa_cons (pe_lstS (pa_cons pe_str (pa_cons pe_non (pa_cons pe_bl pa_nil)))) (pa_cons (pe_lstS (pa_cons pe_str (pa_cons (pv 1) (pa_cons pe_bl pa_nil)))) pa_nil))))))
      (pss_cons (ps_set (i := 5) sc__law_right.nd rfl (Or.inl rfl) (pe_op op_catS (pv 5) (pe_lstS (pa_cons (pe_lstS (pa_cons pe_str (pa_cons pe_int (pa_cons pe_bl pa_nil)))) (pa_cons (pe_lstS (pa_cons pe_str (pa_cons pe_int (pa_cons pe_bl pa_nil)))) pa_nil)))))
      (pss_cons (ps_if (pt_cmpR op_ne (pe_callB (call_reprA quiet hr) (by rfl) B.repr (by decide +kernel) (pa_cons (pv 3) pa_nil)) (pe_callB (call_reprA quiet hr) (by rfl) B.repr (by decide +kernel) (pa_cons (pv 5) pa_nil)) (nomark _)) (pss_one (ps_ret pe_bl)) pss_nil)
      (pss_cons (ps_set (i := 6) sc__law_right.nd rfl (Or.inl rfl) (pe_lstS (pa_cons (pe_got2 B GT (by rfl) TB rfl (List.mem_singleton.mpr rfl) (fun p hp _ => by rw [List.mem_singleton.mp hp]) hr (LamX.lamS_by (show LamX.lamSB (defScope s__law_right) _ = true from by decide +kernel)) rfl (fun _ _ _ _ _ => rfl) (fun A outer s H E f c' hr2 => (pe_callTy (call_strO OS hr2 (by decide)) (by rfl) B.str (by decide +kernel) (pa_cons (pe_mkX MRule hr2 (by decide) (by rfl) (passes_call (takes_of rfl rfl rfl rfl) (fun _ _ _ _ z => z)) (pa_cons pe_int (pa_cons pe_int (pa_cons pe_int (pa_cons pe_int (pa_cons pe_int (pa_cons pe_int (pa_cons pe_int (pa_cons pe_int (pa_cons (pe_tupS (pa_cons (pe_op op_mul pe_int (pe_op op_pow pe_int pe_int)) (pa_cons (pe_op op_pow pe_int pe_int) pa_nil))) pa_nil)))))))))) pa_nil)))) pa_nil)))
      (pss_cons (ps_expr (pe_bm PySem.F.plainAttrs_list PySem.F.slot_list_append PySem.F.type_list_append mt_append (pv 6) (pa_cons (pe_got2 B GT (by rfl) TB rfl (List.mem_singleton.mpr rfl) (fun p hp _ => by rw [List.mem_singleton.mp hp]) hr (LamX.lamS_by (show LamX.lamSB (defScope s__law_right) _ = true from by decide +kernel)) rfl (fun _ _ _ _ _ => rfl) (fun A outer s H E f c' hr2 => (pe_callTy (call_strO OS hr2 (by decide)) (by rfl) B.str (by decide +kernel) (pa_cons (pe_mkX MRule hr2 (by decide) (by rfl) (passes_call (takes_of rfl rfl rfl rfl) (fun _ _ _ _ z => z)) (pa_cons pe_int (pa_cons pe_int (pa_cons (pe_tupS (pa_cons pe_int (pa_cons pe_int pa_nil))) pa_nil)))) pa_nil)))) pa_nil)))
      (pss_cons (ps_expr (pe_bm PySem.F.plainAttrs_list PySem.F.slot_list_append PySem.F.type_list_append mt_append (pv 6) (pa_cons (pe_got2 B GT (by rfl) TB rfl (List.mem_singleton.mpr rfl) (fun p hp _ => by rw [List.mem_singleton.mp hp]) hr (LamX.lamS_by (show LamX.lamSB (defScope s__law_right) _ = true from by decide +kernel)) rfl (fun _ _ _ _ _ => rfl) (fun A outer s H E f c' hr2 => (pe_callTy (call_strO OS hr2 (by decide)) (by rfl) B.str (by decide +kernel) (pa_cons (pe_mkX MRule hr2 (by decide) (by rfl) (passes_call (takes_of rfl rfl rfl rfl) (fun _ _ _ _ z => z)) (pa_cons (pe_tupS (pa_cons pe_int (pa_cons pe_int pa_nil))) (pa_cons (pe_tupS (pa_cons pe_int (pa_cons pe_int pa_nil))) pa_nil))) pa_nil)))) pa_nil)))
      (pss_one (ps_ret (pe_cmpR (op_eqD hu64) (pv 6) (pe_lstS (pa_cons (pe_lstS (pa_cons pe_str (pa_cons pe_str pa_nil))) (pa_cons (pe_lstS (pa_cons pe_str (pa_cons pe_str pa_nil))) (pa_cons (pe_lstS (pa_cons pe_str (pa_cons pe_str pa_nil))) pa_nil)))) (nomark _))))))))))))))))))))))))), ?_⟩
    have hA : Hd [a] H := fun b hb => by
      rw [List.mem_singleton] at hb
      rw [hb]
      exact tk.ne
    have mA : a ∈ [a] := List.mem_singleton.mpr rfl
    have cp : ∀ j : Nat, j ≤ 1000 → CPow 10 (j : Int) := fun j hj => ⟨by omega, by omega, by decide⟩
    -- what is no number
    refine via (t := tCall _ _ _ _) (fun v H' => ∃ bd, bd ∈ bads ∧ IsO K [a] H' v bd ∧ Go [a] H H' ∧ TankAt H' a) (fun Q' k' => ?_) ?_
    · have i0 : IssO K [a] H [V.non, V.bl true, V.bl false, V.str "1"] [.none, .bool true, .bool false, .str "1"] := iss_str _ (iss_bl _ (iss_bl _ (IssO.one isO_non)))
      refine ⟨_, rfl, by show 0 ≤ sizeLine; decide, fun p1 n1 z1 => ?_⟩
      obtain ⟨i1, s1, h1⟩ := iss_tup (vs := []) (es := []) hA n1 z1 i0 (by repeat (first | exact IssO.nil | refine IssO.cons isO_int ?_ | refine IssO.cons isO_bl ?_ | refine IssO.cons isO_str ?_ | refine IssO.cons isO_non ?_))
      generalize upd H p1 (.tup []) = K1 at i1 s1 h1 ⊢
      refine ⟨by show 1 ≤ sizeLine; decide, fun p2 n2 z2 => ?_⟩
      obtain ⟨i2, s2, h2⟩ := iss_lst (vs := [V.int 1]) (es := [.int 1]) h1 n2 z2 i1 (by repeat (first | exact IssO.nil | refine IssO.cons isO_int ?_ | refine IssO.cons isO_bl ?_ | refine IssO.cons isO_str ?_ | refine IssO.cons isO_non ?_))
      generalize upd K1 p2 (.lst [V.int 1]) = K2 at i2 s2 h2 ⊢
      refine ⟨by show 1 ≤ sizeLine; decide, fun p3 n3 z3 => ?_⟩
      obtain ⟨i3, s3, h3⟩ := iss_tup (vs := [V.int 1]) (es := [.int 1]) h2 n3 z3 i2 (by repeat (first | exact IssO.nil | refine IssO.cons isO_int ?_ | refine IssO.cons isO_bl ?_ | refine IssO.cons isO_str ?_ | refine IssO.cons isO_non ?_))
      generalize upd K2 p3 (.tup [V.int 1]) = K3 at i3 s3 h3 ⊢
      refine ⟨by show 3 ≤ sizeLine; decide, fun p4 n4 z4 => ?_⟩
      obtain ⟨i4, s4, h4⟩ := iss_tup (vs := [V.int 1, V.int 2, V.int 3]) (es := [.int 1, .int 2, .int 3]) h3 n4 z4 i3 (by repeat (first | exact IssO.nil | refine IssO.cons isO_int ?_ | refine IssO.cons isO_bl ?_ | refine IssO.cons isO_str ?_ | refine IssO.cons isO_non ?_))
      generalize upd K3 p4 (.tup [V.int 1, V.int 2, V.int 3]) = K4 at i4 s4 h4 ⊢
      refine ⟨by show 2 ≤ sizeLine; decide, fun p5 n5 z5 => ?_⟩
      obtain ⟨i5, s5, h5⟩ := iss_tup (vs := [V.int 1, V.int 0]) (es := [.int 1, .int 0]) h4 n5 z5 i4 (by repeat (first | exact IssO.nil | refine IssO.cons isO_int ?_ | refine IssO.cons isO_bl ?_ | refine IssO.cons isO_str ?_ | refine IssO.cons isO_non ?_))
      generalize upd K4 p5 (.tup [V.int 1, V.int 0]) = K5 at i5 s5 h5 ⊢
      refine ⟨_, rfl, by show 2 ≤ sizeLine; decide, fun p6 n6 z6 => ?_⟩
      obtain ⟨i6, s6, h6⟩ := iss_tup (vs := [V.int 1, V.int (-1)]) (es := [.int 1, .int (-1)]) h5 n6 z6 i5 (by repeat (first | exact IssO.nil | refine IssO.cons isO_int ?_ | refine IssO.cons isO_bl ?_ | refine IssO.cons isO_str ?_ | refine IssO.cons isO_non ?_))
      generalize upd K5 p6 (.tup [V.int 1, V.int (-1)]) = K6 at i6 s6 h6 ⊢
      refine ⟨by show 2 ≤ sizeLine; decide, fun p7 n7 z7 => ?_⟩
      obtain ⟨i7, s7, h7⟩ := iss_tup (vs := [V.bl true, V.int 1]) (es := [.bool true, .int 1]) h6 n7 z7 i6 (by repeat (first | exact IssO.nil | refine IssO.cons isO_int ?_ | refine IssO.cons isO_bl ?_ | refine IssO.cons isO_str ?_ | refine IssO.cons isO_non ?_))
      generalize upd K6 p7 (.tup [V.bl true, V.int 1]) = K7 at i7 s7 h7 ⊢
      refine ⟨by show 2 ≤ sizeLine; decide, fun p8 n8 z8 => ?_⟩
      obtain ⟨i8, s8, h8⟩ := iss_tup (vs := [V.int 1, V.bl true]) (es := [.int 1, .bool true]) h7 n8 z8 i7 (by repeat (first | exact IssO.nil | refine IssO.cons isO_int ?_ | refine IssO.cons isO_bl ?_ | refine IssO.cons isO_str ?_ | refine IssO.cons isO_non ?_))
      generalize upd K7 p8 (.tup [V.int 1, V.bl true]) = K8 at i8 s8 h8 ⊢
      refine fun p9 n9 z9 => ?_
      obtain ⟨i9, s9, h9⟩ := iss_dct h8 n9 z9 i8
      generalize upd K8 p9 (.dK []) = K9 at i9 s9 h9 ⊢
      have sA : Same H K9 := s1.trans (s2.trans (s3.trans (s4.trans (s5.trans (s6.trans (s7.trans (s8.trans s9)))))))
      refine ⟨by show 13 ≤ sizeLine; decide, fun l nl zl => ?_⟩
      have la : l ≠ a := fun z => (tk.keep sA).ne (by rw [← z]; exact nl)
      refine ⟨a, l, _, rfl, (tk.keep sA).keep (same_new nl), .inl (.inl upd_same), la, by show 0 < 13; decide, by show 13 < 1000; decide, fun v H6 hv go6 tk6 => k' _ _ ?_⟩
      obtain ⟨bd, hb, ib⟩ := IssO.mem i9 hv
      have g6 : Go [a] _ H6 := (Go.new nl).trans (go6 _ mA)
      exact ⟨bd, hb, ib.mono g6, (Go.of sA).trans g6, tk6⟩
    rintro bv H1 ⟨bd, hbd, ib1, g1, tk1⟩
    have hA1 := g1.held hA
    try dsimp only [gName, tSeq, tAsg]
    -- numbers that are no offset
    refine via (t := tCall _ _ _ _) (fun v H' => ∃ ld, ld ∈ lows ∧ IsO K [a] H' v ld ∧ Go [a] H1 H' ∧ TankAt H' a) (fun Q' k' => ?_) ?_
    · have i0 : IssO K [a] H1 [V.int (-1)] [.int (-1)] := by repeat (first | exact IssO.nil | refine IssO.cons isO_int ?_ | refine IssO.cons isO_bl ?_ | refine IssO.cons isO_str ?_ | refine IssO.cons isO_non ?_)
      refine ⟨_, rfl, _, rfl, _, rfl, _, _, rfl, rfl, cp 9 (by decide), by show 2 ≤ sizeLine; decide, fun p1 n1 z1 => ?_⟩
      obtain ⟨i1, s1, h1⟩ := iss_tup (vs := [V.int (-1), V.int (10 ^ Int.toNat 9)]) (es := [.int (-1), .int (10 ^ Int.toNat 9)]) hA1 n1 z1 i0 (by repeat (first | exact IssO.nil | refine IssO.cons isO_int ?_ | refine IssO.cons isO_bl ?_ | refine IssO.cons isO_str ?_ | refine IssO.cons isO_non ?_))
      generalize upd H1 p1 (.tup [V.int (-1), V.int (10 ^ Int.toNat 9)]) = K1 at i1 s1 h1 ⊢
      have i1' := iss_int 2 i1
      refine ⟨_, _, rfl, rfl, cp 9 (by decide), _, _, rfl, rfl, _, _, rfl, rfl, cp 9 (by decide), by show 2 ≤ sizeLine; decide, fun p2 n2 z2 => ?_⟩
      obtain ⟨i2, s2, h2⟩ := iss_tup (vs := [V.int (10 ^ Int.toNat 9 + 1), V.int (10 ^ Int.toNat 9)]) (es := [.int (10 ^ Int.toNat 9 + 1), .int (10 ^ Int.toNat 9)]) h1 n2 z2 i1' (by repeat (first | exact IssO.nil | refine IssO.cons isO_int ?_ | refine IssO.cons isO_bl ?_ | refine IssO.cons isO_str ?_ | refine IssO.cons isO_non ?_))
      generalize upd K1 p2 (.tup [V.int (10 ^ Int.toNat 9 + 1), V.int (10 ^ Int.toNat 9)]) = K2 at i2 s2 h2 ⊢
      refine ⟨by show 2 ≤ sizeLine; decide, fun p3 n3 z3 => ?_⟩
      obtain ⟨i3, s3, h3⟩ := iss_tup (vs := [V.int 3, V.int 2]) (es := [.int 3, .int 2]) h2 n3 z3 i2 (by repeat (first | exact IssO.nil | refine IssO.cons isO_int ?_ | refine IssO.cons isO_bl ?_ | refine IssO.cons isO_str ?_ | refine IssO.cons isO_non ?_))
      generalize upd K2 p3 (.tup [V.int 3, V.int 2]) = K3 at i3 s3 h3 ⊢
      have sA : Same H1 K3 := s1.trans (s2.trans s3)
      refine ⟨by show 5 ≤ sizeLine; decide, fun l nl zl => ?_⟩
      have la : l ≠ a := fun z => (tk1.keep sA).ne (by rw [← z]; exact nl)
      refine ⟨a, l, _, rfl, (tk1.keep sA).keep (same_new nl), .inl (.inl upd_same), la, by show 0 < 5; decide, by show 5 < 1000; decide, fun v H6 hv go6 tk6 => k' _ _ ?_⟩
      obtain ⟨bd, hb, ib⟩ := IssO.mem i3 hv
      have g6 : Go [a] _ H6 := (Go.new nl).trans (go6 _ mA)
      exact ⟨bd, hb, ib.mono g6, (Go.of sA).trans g6, tk6⟩
    rintro lv H2 ⟨ld, hld, il2, g2, tk2⟩
    have hA2 := g2.held hA1
    have ib2 := ib1.mono g2
    try dsimp only [gName, tSeq, tAsg]
    -- one of them is no offset
    have T2 : LamX.Tabs (lamT Pt) H2 := tabs_tank tabs tk (g1.trans g2)
    have bD : BadD bd := badD_of (bads_ok bd hbd)
    have lD : LowD ld := lowD_of (lows_ok ld hld)
    have ntk : ∀ {H : Hp}, TankAt H a → ∀ ps, H a ≠ some (.tbl ps) := fun t ps z => by
      obtain ⟨x, y, w, e, _⟩ := t.ex
      rw [e] at z
      cases z
    have tkE : ∀ {H H' : Hp}, TankAt H a → LamX.ExtN H H' → TankAt H' a := fun t e => by
      obtain ⟨x, y, w, e1, e2⟩ := t.ex
      exact ⟨x, y, w, e _ _ e1 (fun ps z => by cases z), e2⟩
    have hdT : ∀ {H : Hp}, TankAt H a → Hd [a] H := fun t b hb => by
      rw [List.mem_singleton] at hb
      rw [hb]
      exact t.ne
    refine via (t := tLstS _) (fun v H' => ∃ LA l dv dd, v = .ref LA ∧ (dv = bv ∧ dd = bd ∨ dv = lv ∧ dd = ld) ∧ H' LA = some (.lst [.ref l]) ∧ H' l = some (.lst [.str "InvalidOffset", dv, .bl true]) ∧ IsO K [a] H' bv bd ∧ IsO K [a] H' lv ld ∧ ExA [a] H2 H' ∧ TankAt H' a ∧ LamX.Tabs (lamT Pt) H') (fun Q' k' => ?_) ?_
    · refine ⟨T2, fun HA eN TA => fun Qg kg => ?_⟩
      have tkA := tkE tk2 eN
      refine ⟨_, rfl, _, rfl, _, rfl, by show 2 ≤ sizeLine; decide, fun p np zp => ?_⟩
      have pa : p ≠ a := fun z => tkA.ne (by rw [← z]; exact np)
      refine ⟨a, p, _, rfl, tkA.keep (same_new np), .inl (.inl upd_same), pa, by show 0 < 2; decide, by show 2 < 1000; decide, fun v H4 hv go4 tk4 => ?_⟩
      have g4 : Go [a] HA H4 := (Go.new np).trans (go4 _ mA)
      have e4 : ExA [a] H2 H4 := (ExA.ext eN).trans (.of g4)
      have ib4 := ib2.ex e4
      have il4 := il2.ex e4
      obtain ⟨dd, hdd, idd, no, en⟩ : ∃ dd, (v = bv ∧ dd = bd ∨ v = lv ∧ dd = ld) ∧ IsO K [a] H4 v dd ∧ isOffD dd = false ∧ encB dd = true := by
        simp only [List.mem_cons, List.not_mem_nil, or_false] at hv
        rcases hv with z | z
        · exact ⟨bd, .inl ⟨z, rfl⟩, z ▸ ib4, bD.off, encB_of_size bD.sz⟩
        · exact ⟨ld, .inr ⟨z, rfl⟩, z ▸ il4, lD.off, lD.enc⟩
      refine fun x dx nx ndx ne => rd_offX (A := [a]) (hdT tk4) idd .nil no en (by decide) (fun l H5 s5 nl zl el => ?_) nx ndx ne
      refine ⟨by show 1 ≤ sizeLine; decide, fun LA nLA zLA => k' _ _ ?_⟩
      have s6 : Same H4 (upd H5 LA (.lst [.ref l])) := s5.trans (same_new nLA)
      refine ⟨LA, l, v, dd, rfl, hdd, upd_same, same_new nLA _ _ el, ib4.same s6, il4.same s6, e4.trans (.same s6), tk4.keep s6, tabs_tank TA tkA (g4.trans (Go.of s6))⟩
    rintro v3 H3 ⟨LA0, l0, dv, dd, rfl, hdv, eLA0, el0, ib3, il3, x3, tk3, T3⟩
    -- .. as it says
    refine ⟨_, rfl, rd_raw (.inl (.inl eLA0)) (by decide) rfl (rd_raw (.inl (.inl el0)) (by decide) rfl ⟨rfl, _, rfl, ite2 (fun e => ?_) (fun _ => ?_)⟩)⟩
    · simp at e
    refine ⟨_, rfl, rd_raw (.inl (.inl eLA0)) (by decide) rfl (rd_raw (.inl (.inl el0)) (by decide) rfl ⟨_, _, rfl, rfl, _, rfl, ite2 (fun e => ?_) (fun _ => ?_)⟩)⟩
    · simp at e
    refine ⟨_, rfl, rd_raw (.inl (.inl eLA0)) (by decide) rfl (rd_raw (.inl (.inl el0)) (by decide) rfl ?_)⟩
    refine ⟨_, rfl, _, rfl, by show 2 ≤ sizeLine; decide, fun p np zp => ?_⟩
    have sp : Same H3 (upd H3 p (.lst [bv, lv])) := same_new np
    have ib4 := ib3.same sp
    have il4 := il3.same sp
    have tk4 := tk3.keep sp
    have T4 := T3.ext sp
    have x4 : ExA [a] H2 (upd H3 p (.lst [bv, lv])) := x3.trans (.same sp)
    have ep : (upd H3 p (.lst [bv, lv])) p = some (.lst [bv, lv]) := upd_same
    generalize upd H3 p (.lst [bv, lv]) = H4 at ib4 il4 tk4 T4 x4 ep ⊢
    refine ⟨p, _, rfl, ep, ?_, ?_, ?_, ⟨_, rfl, ?_⟩⟩
    · rcases hdv with z | z
      · rw [z.1]; simp
      · rw [z.1]; simp
    · obtain ⟨e1, e2, e3, e4⟩ := in_facts (X := (cxOf CX0 P w K mg base ["_law_tank_here", "_law_bad", "_law_low", "_law_answers", "_law_odd", "_law_due", "_law_good_ones"] "_law_right" (defScope s__law_right) f (.ref cc) A outer s H E).nox) hu65 ib4.full il4.full bD lD
      intro v hv
      simp only [List.mem_cons, List.not_mem_nil, or_false] at hv
      rcases hv with z | z <;> rcases hdv with y | y <;> rw [z, y.1]
      · exact e1.self
      · exact e3
      · exact e4
      · exact e2.self
    · obtain ⟨e1, e2, e3, e4⟩ := in_facts (X := (cxOf CX0 P w K mg base ["_law_tank_here", "_law_bad", "_law_low", "_law_answers", "_law_odd", "_law_due", "_law_good_ones"] "_law_right" (defScope s__law_right) f (.ref cc) A outer s H E).nox) hu65 ib4.full il4.full bD lD
      rcases hdv with y | y <;> rw [y.1]
      · exact e1
      · exact e2
    refine ite2 (fun e => by simp at e) (fun _ => ?_)
    try dsimp only [gName, tSeq, tAsg, tNext]
    -- what is no next mark
    refine via (t := tCall _ _ _ _) (fun v H' => ∃ od, OddD od ∧ (od = bd ∨ badB od = true ∨ od = .int (-1) ∨ od = .tuple [.int (-1), .int 3]) ∧ IsO K [a] H' v od ∧ Go [a] H4 H' ∧ TankAt H' a) (fun Q' k' => ?_) ?_
    · have hA4 := hdT tk4
      have i0 : IssO K [a] H4 [bv, V.int (-1)] [bd, .int (-1)] := IssO.cons ib4 (IssO.one isO_int)
      refine ⟨_, rfl, _, rfl, _, rfl, _, rfl, by show 2 ≤ sizeLine; decide, fun p1 n1 z1 => ?_⟩
      obtain ⟨i1, s1, h1⟩ := iss_tup (vs := [V.int (-1), V.int 3]) (es := [.int (-1), .int 3]) hA4 n1 z1 i0 (by repeat (first | exact IssO.nil | refine IssO.cons isO_int ?_ | refine IssO.cons isO_bl ?_ | refine IssO.cons isO_str ?_ | refine IssO.cons isO_non ?_))
      generalize upd H4 p1 (.tup [V.int (-1), V.int 3]) = K1 at i1 s1 h1 ⊢
      refine ⟨by show 3 ≤ sizeLine; decide, fun l nl zl => ?_⟩
      have la : l ≠ a := fun z => (tk4.keep s1).ne (by rw [← z]; exact nl)
      refine ⟨a, l, _, rfl, (tk4.keep s1).keep (same_new nl), .inl (.inl upd_same), la, by show 0 < 3; decide, by show 3 < 1000; decide, fun v H6 hv go6 tk6 => k' _ _ ?_⟩
      obtain ⟨od, ho, io⟩ := IssO.mem i1 hv
      have g6 : Go [a] _ H6 := (Go.new nl).trans (go6 _ mA)
      refine ⟨od, ?_, ?_, io.mono g6, (Go.of s1).trans g6, tk6⟩
      · simp only [List.mem_cons, List.not_mem_nil, or_false, List.cons_append, List.nil_append] at ho
        rcases ho with z | z | z
        · exact z ▸ bD.odd
        · exact z ▸ odd_1
        · exact z ▸ odd_2
      · simp only [List.mem_cons, List.not_mem_nil, or_false, List.cons_append, List.nil_append] at ho
        rcases ho with z | z | z
        · exact .inl z
        · exact .inr (.inr (.inl z))
        · exact .inr (.inr (.inr z))
    rintro ov H5 ⟨od, oD, hod, io5, g5, tk5⟩
    have ib5 := ib4.mono g5
    have T5 : LamX.Tabs (lamT Pt) H5 := tabs_tank T4 tk4 g5
    have x5 : ExA [a] H H5 := ((ExA.of g1).trans (.of g2)).trans (x4.trans (.of g5))
    clear ib1 ib2 ib3 ib4 il2 il3 il4 T2 T3 T4 x3 x4 el0 eLA0 ep hdv tk1 tk2 tk3 tk4 hA1 hA2 g1 g2 g5 np zp sp
    try dsimp only [gName, tSeq, tAsg, tNext]
    refine via (t := tLstS _) (fun v H' => ∃ LA l, v = .ref LA ∧ St02 K (lamT Pt) a LA H5 H' [.ref l] [.list [.str "InvalidOffset", bd, .bool true]] bv bd ov od ∧ TankAt H' a) (fun Q' k' => ?_) ?_
    · refine ⟨T5, fun HA eN TA => fun Qg kg => ?_⟩
      have tkA := tkE tk5 eN
      have xA : ExA [a] H5 HA := .ext eN
      have ibA := ib5.ex xA
      have ioA := io5.ex xA
      refine ⟨_, rfl, _, rfl, ?_⟩
      refine fun x dx nx ndx ne => rd_offX (A := [a]) (hdT tkA) ibA (IssO.cons ioA (IssO.one isO_int)) bD.off (encB_of_size bD.sz) (by show 2 ≤ 1000; decide) (fun l H6 s6 nl zl el => ?_) nx ndx ne
      refine ⟨by show 1 ≤ sizeLine; decide, fun LA nLA zLA => k' _ _ ⟨LA, l, rfl, ?_, (tkA.keep s6).keep (same_new nLA)⟩⟩
      have hd6 : Hd [a] H6 := hdT (tkA.keep s6)
      have la : LA ≠ a := fun z => (tkA.keep s6).ne (by rw [← z]; exact nLA)
      have la' : l ∉ [a] := (hdT tkA).out nl
      have ib6 := ibA.same s6
      have io6 := ioA.same s6
      have il6 : IsO K [a] H6 (.ref l) (.list [.str "InvalidOffset", bd, .bool true]) := by
        have z : IssO K [a] H6 [.str "InvalidOffset", bv, .bl true] [.str "InvalidOffset", bd, .bool true] := IssO.cons isO_str (IssO.cons ib6 (IssO.one isO_bl))
        exact DO.lst (.inl (.inl (by rw [hv_out la']; exact el))) zl z.len z.all
      have sN : Same H6 (upd H6 LA (.lst [.ref l])) := same_new nLA
      have g7 : Go [LA, a] H6 (upd H6 LA (.lst [.ref l])) := .of sN
      refine ⟨upd_same, la, zLA, IssO.one ((il6.more nLA).mono g7), (ib6.more nLA).mono g7, (io6.more nLA).mono g7, fun b hb => ?_, xA.trans ((ExA.same s6).trans (.same sN)), fun o e => ?_, (TA.ext s6).ext sN⟩
      · rcases List.mem_cons.mp hb with w | w
        · rw [w, upd_same]; simp
        · rw [List.mem_singleton] at w
          rw [w]
          exact ((tkA.keep s6).keep sN).ne
      · apply Classical.byContradiction
        intro z
        have e2 := s6 _ _ (eN _ _ e (fun ps w => z ⟨ps, w⟩))
        rw [nLA] at e2
        cases e2
    rintro v6 H6 ⟨LA, l1, rfl, S, tkS⟩
    clear ib5 io5 T5 tk5
    try dsimp only [gName, tSeq, tAsg, tNext, tDrop]
    -- answer 2
    refine ⟨_, rfl, .inl ⟨rfl, _, .inl (.inl S.la)⟩, S.tabs, fun HA eN TA => fun Qg kg => ?_⟩
    replace S := S.lam (ntk tkS) eN TA
    replace tkS := tkE tkS eN
    refine ⟨_, rfl, _, rfl, ?_⟩
    have hr : IssO K [LA, a] _ [ov, ov] [od, od] := IssO.cons S.odd (IssO.one S.odd)
    refine fun x dx nx ndx ne => rd_headX (A := [LA, a]) (d := (.int 1)) (i := some 0) S.hd isO_int hr (by decide +kernel) (by decide +kernel) (by show 2 ≤ 1000; decide) (hsz_of (by decide +kernel) (by repeat (first | exact sz_nil | refine szc oD.sz ?_ | refine szc bD.sz ?_ | refine szc (by decide +kernel) ?_))) (he2 oD) (fun l H6 s6 nl zl el => ?_) nx ndx ne
    refine ⟨LA, _, _, rfl, rfl, (S.same s6).la, by show 1 < sizeLine; decide, ?_⟩
    obtain ⟨S2, tkS2⟩ := S.put2 (es := [.str "InvalidHead", .int 0, .bool true]) tkS s6 nl zl el (by repeat (first | exact IssO.nil | refine IssO.cons isO_int ?_ | refine IssO.cons isO_bl ?_ | refine IssO.cons isO_str ?_ | refine IssO.cons isO_non ?_))
    clear S tkS
    generalize upd H6 LA (.lst _) = H7 at S2 tkS2 ⊢
    have S := S2; have tkS := tkS2; clear S2 tkS2 -- S2 => S, tkS2 => tkS
    clear eN TA kg s6 nl zl el nx ndx ne hr
    try dsimp only [gName, tSeq, tAsg, tNext, tDrop]
    -- answer 3
    refine ⟨_, rfl, .inl ⟨rfl, _, .inl (.inl S.la)⟩, S.tabs, fun HA eN TA => fun Qg kg => ?_⟩
    replace S := S.lam (ntk tkS) eN TA
    replace tkS := tkE tkS eN
    refine ⟨by show 2 ≤ sizeLine; decide, fun p1 n1 z1 => ?_⟩
    obtain ⟨j1, s1, _⟩ := new_tupO (K := K) (vs := [V.int 1, V.int 2]) (ds := [.int 1, .int 2]) S.hd n1 z1 (by repeat (first | exact IssO.nil | refine IssO.cons isO_int ?_ | refine IssO.cons isO_bl ?_ | refine IssO.cons isO_str ?_ | refine IssO.cons isO_non ?_))
    replace S := S.same s1
    replace tkS := tkS.keep s1
    refine ⟨_, rfl, _, rfl, ?_⟩
    have hr : IssO K [LA, a] _ [V.int 0, ov, bv] [.int 0, od, bd] := IssO.cons isO_int (IssO.cons S.odd (IssO.one S.bad))
    refine fun x dx nx ndx ne => rd_headX (A := [LA, a]) (d := (.tuple [.int 1, .int 2])) (i := some 1) S.hd j1 hr (by decide +kernel) (by decide +kernel) (by show 3 ≤ 1000; decide) (hsz_of (by decide +kernel) (by repeat (first | exact sz_nil | refine szc oD.sz ?_ | refine szc bD.sz ?_ | refine szc (by decide +kernel) ?_))) (he3 oD) (fun l H6 s6 nl zl el => ?_) nx ndx ne
    refine ⟨LA, _, _, rfl, rfl, (S.same s6).la, by show 2 < sizeLine; decide, ?_⟩
    obtain ⟨S2, tkS2⟩ := S.put2 (es := [.str "InvalidHead", .int 1, .bool true]) tkS s6 nl zl el (by repeat (first | exact IssO.nil | refine IssO.cons isO_int ?_ | refine IssO.cons isO_bl ?_ | refine IssO.cons isO_str ?_ | refine IssO.cons isO_non ?_))
    clear S tkS
    generalize upd H6 LA (.lst _) = H8 at S2 tkS2 ⊢
    have S := S2; have tkS := tkS2; clear S2 tkS2 -- S2 => S, tkS2 => tkS
    clear eN TA kg s6 nl zl el nx ndx ne hr j1 s1 n1 z1
    try dsimp only [gName, tSeq, tAsg, tNext, tDrop]
    -- answer 4
    refine ⟨_, rfl, .inl ⟨rfl, _, .inl (.inl S.la)⟩, S.tabs, fun HA eN TA => fun Qg kg => ?_⟩
    replace S := S.lam (ntk tkS) eN TA
    replace tkS := tkE tkS eN
    refine ⟨by show 2 ≤ sizeLine; decide, fun p1 n1 z1 => ?_⟩
    obtain ⟨j1, s1, _⟩ := new_tupO (K := K) (vs := [V.int 1, V.int 2]) (ds := [.int 1, .int 2]) S.hd n1 z1 (by repeat (first | exact IssO.nil | refine IssO.cons isO_int ?_ | refine IssO.cons isO_bl ?_ | refine IssO.cons isO_str ?_ | refine IssO.cons isO_non ?_))
    replace S := S.same s1
    replace tkS := tkS.keep s1
    refine ⟨by show 2 ≤ sizeLine; decide, fun p2 n2 z2 => ?_⟩
    obtain ⟨j2, s2, _⟩ := new_tupO (K := K) (vs := [V.int 1, V.int 4]) (ds := [.int 1, .int 4]) S.hd n2 z2 (by repeat (first | exact IssO.nil | refine IssO.cons isO_int ?_ | refine IssO.cons isO_bl ?_ | refine IssO.cons isO_str ?_ | refine IssO.cons isO_non ?_))
    replace S := S.same s2
    replace tkS := tkS.keep s2
    replace j1 := j1.same s2
    refine ⟨by show 2 ≤ sizeLine; decide, fun p3 n3 z3 => ?_⟩
    obtain ⟨j3, s3, _⟩ := new_tupO (K := K) (vs := [V.int 2, V.int 8]) (ds := [.int 2, .int 8]) S.hd n3 z3 (by repeat (first | exact IssO.nil | refine IssO.cons isO_int ?_ | refine IssO.cons isO_bl ?_ | refine IssO.cons isO_str ?_ | refine IssO.cons isO_non ?_))
    replace S := S.same s3
    replace tkS := tkS.keep s3
    replace j1 := j1.same s3
    replace j2 := j2.same s3
    refine ⟨_, rfl, ?_⟩
    have hr : IssO K [LA, a] _ [V.ref p2, V.ref p3, bv] [.tuple [.int 1, .int 4], .tuple [.int 2, .int 8], bd] := IssO.cons j2 (IssO.cons j3 (IssO.one S.bad))
    refine fun x dx nx ndx ne => rd_headX (A := [LA, a]) (d := (.tuple [.int 1, .int 2])) (i := some 1) S.hd j1 hr (by decide +kernel) (by decide +kernel) (by show 3 ≤ 1000; decide) (hsz_of (by decide +kernel) (by repeat (first | exact sz_nil | refine szc oD.sz ?_ | refine szc bD.sz ?_ | refine szc (by decide +kernel) ?_))) he4 (fun l H6 s6 nl zl el => ?_) nx ndx ne
    refine ⟨LA, _, _, rfl, rfl, (S.same s6).la, by show 3 < sizeLine; decide, ?_⟩
    obtain ⟨S2, tkS2⟩ := S.put2 (es := [.str "InvalidHead", .int 1, .bool true]) tkS s6 nl zl el (by repeat (first | exact IssO.nil | refine IssO.cons isO_int ?_ | refine IssO.cons isO_bl ?_ | refine IssO.cons isO_str ?_ | refine IssO.cons isO_non ?_))
    clear S tkS
    generalize upd H6 LA (.lst _) = H9 at S2 tkS2 ⊢
    have S := S2; have tkS := tkS2; clear S2 tkS2 -- S2 => S, tkS2 => tkS
    clear eN TA kg s6 nl zl el nx ndx ne hr j1 s1 n1 z1 j2 s2 n2 z2 j3 s3 n3 z3
    try dsimp only [gName, tSeq, tAsg, tNext, tDrop]
    -- answer 5
    refine ⟨_, rfl, .inl ⟨rfl, _, .inl (.inl S.la)⟩, S.tabs, fun HA eN TA => fun Qg kg => ?_⟩
    replace S := S.lam (ntk tkS) eN TA
    replace tkS := tkE tkS eN
    refine ⟨by show 2 ≤ sizeLine; decide, fun p1 n1 z1 => ?_⟩
    obtain ⟨j1, s1, _⟩ := new_tupO (K := K) (vs := [V.int 1, V.int 2]) (ds := [.int 1, .int 2]) S.hd n1 z1 (by repeat (first | exact IssO.nil | refine IssO.cons isO_int ?_ | refine IssO.cons isO_bl ?_ | refine IssO.cons isO_str ?_ | refine IssO.cons isO_non ?_))
    replace S := S.same s1
    replace tkS := tkS.keep s1
    refine ⟨by show 2 ≤ sizeLine; decide, fun p2 n2 z2 => ?_⟩
    obtain ⟨j2, s2, _⟩ := new_tupO (K := K) (vs := [V.int 1, V.int 3]) (ds := [.int 1, .int 3]) S.hd n2 z2 (by repeat (first | exact IssO.nil | refine IssO.cons isO_int ?_ | refine IssO.cons isO_bl ?_ | refine IssO.cons isO_str ?_ | refine IssO.cons isO_non ?_))
    replace S := S.same s2
    replace tkS := tkS.keep s2
    replace j1 := j1.same s2
    have hr : IssO K [LA, a] _ [V.ref p1, V.ref p2, V.int 5] [.tuple [.int 1, .int 2], .tuple [.int 1, .int 3], .int 5] := IssO.cons j1 (IssO.cons j2 (IssO.one isO_int))
    refine fun x dx nx ndx ne => rd_headX (A := [LA, a]) (d := (.int 0)) (i := some 1) S.hd isO_int hr (by decide +kernel) (by decide +kernel) (by show 3 ≤ 1000; decide) (hsz_of (by decide +kernel) (by repeat (first | exact sz_nil | refine szc oD.sz ?_ | refine szc bD.sz ?_ | refine szc (by decide +kernel) ?_))) he5 (fun l H6 s6 nl zl el => ?_) nx ndx ne
    refine ⟨LA, _, _, rfl, rfl, (S.same s6).la, by show 4 < sizeLine; decide, ?_⟩
    obtain ⟨S2, tkS2⟩ := S.put2 (es := [.str "InvalidHead", .int 1, .bool true]) tkS s6 nl zl el (by repeat (first | exact IssO.nil | refine IssO.cons isO_int ?_ | refine IssO.cons isO_bl ?_ | refine IssO.cons isO_str ?_ | refine IssO.cons isO_non ?_))
    clear S tkS
    generalize upd H6 LA (.lst _) = H10 at S2 tkS2 ⊢
    have S := S2; have tkS := tkS2; clear S2 tkS2 -- S2 => S, tkS2 => tkS
    clear eN TA kg s6 nl zl el nx ndx ne hr j1 s1 n1 z1 j2 s2 n2 z2
    try dsimp only [gName, tSeq, tAsg, tNext, tDrop]
    -- answer 6
    refine ⟨_, rfl, .inl ⟨rfl, _, .inl (.inl S.la)⟩, S.tabs, fun HA eN TA => fun Qg kg => ?_⟩
    replace S := S.lam (ntk tkS) eN TA
    replace tkS := tkE tkS eN
    refine ⟨_, rfl, ?_⟩
    have hr : IssO K [LA, a] _ [V.int 0, V.int 1, V.int 2, V.int 3, V.int 4, V.int 5, V.int 6, V.int 7, ov] [.int 0, .int 1, .int 2, .int 3, .int 4, .int 5, .int 6, .int 7, od] := IssO.cons isO_int (IssO.cons isO_int (IssO.cons isO_int (IssO.cons isO_int (IssO.cons isO_int (IssO.cons isO_int (IssO.cons isO_int (IssO.cons isO_int (IssO.one S.odd))))))))
    refine fun x dx nx ndx ne => rd_headX (A := [LA, a]) (d := (.int 1)) (i := none) S.hd isO_int hr (by decide +kernel) (by decide +kernel) (by show 9 ≤ 1000; decide) (hsz_of (by decide +kernel) (by repeat (first | exact sz_nil | refine szc oD.sz ?_ | refine szc bD.sz ?_ | refine szc (by decide +kernel) ?_))) he6 (fun l H6 s6 nl zl el => ?_) nx ndx ne
    refine ⟨LA, _, _, rfl, rfl, (S.same s6).la, by show 5 < sizeLine; decide, ?_⟩
    obtain ⟨S2, tkS2⟩ := S.put2 (es := [.str "InvalidHead", .none, .bool true]) tkS s6 nl zl el (IssO.cons isO_str (IssO.cons isO_non (IssO.one isO_bl)))
    clear S tkS
    generalize upd H6 LA (.lst _) = H11 at S2 tkS2 ⊢
    have S := S2; have tkS := tkS2; clear S2 tkS2 -- S2 => S, tkS2 => tkS
    clear eN TA kg s6 nl zl el nx ndx ne hr
    try dsimp only [gName, tSeq, tAsg, tNext, tDrop]
    -- answer 7
    refine ⟨_, rfl, .inl ⟨rfl, _, .inl (.inl S.la)⟩, S.tabs, fun HA eN TA => fun Qg kg => ?_⟩
    replace S := S.lam (ntk tkS) eN TA
    replace tkS := tkE tkS eN
    refine ⟨_, rfl, _, rfl, ?_⟩
    have hr : IssO K [LA, a] _ [V.int 0, V.int 1, V.int 2, V.int 3, V.int 4, V.int 5, V.int 6, V.int 7, ov] [.int 0, .int 1, .int 2, .int 3, .int 4, .int 5, .int 6, .int 7, od] := IssO.cons isO_int (IssO.cons isO_int (IssO.cons isO_int (IssO.cons isO_int (IssO.cons isO_int (IssO.cons isO_int (IssO.cons isO_int (IssO.cons isO_int (IssO.one S.odd))))))))
    refine fun x dx nx ndx ne => rd_offX (A := [LA, a]) S.hd S.bad hr bD.off (encB_of_size bD.sz) (by show 9 ≤ 1000; decide) (fun l H6 s6 nl zl el => ?_) nx ndx ne
    refine ⟨LA, _, _, rfl, rfl, (S.same s6).la, by show 6 < sizeLine; decide, ?_⟩
    obtain ⟨S2, tkS2⟩ := S.put2 (es := [.str "InvalidOffset", bd, .bool true]) tkS s6 nl zl el (IssO.cons isO_str (IssO.cons (S.bad.same s6) (IssO.one isO_bl)))
    clear S tkS
    generalize upd H6 LA (.lst _) = H12 at S2 tkS2 ⊢
    have S := S2; have tkS := tkS2; clear S2 tkS2 -- S2 => S, tkS2 => tkS
    clear eN TA kg s6 nl zl el nx ndx ne hr
    try dsimp only [gName, tSeq, tAsg, tNext, tDrop]
    -- answer 8
    refine ⟨_, rfl, .inl ⟨rfl, _, .inl (.inl S.la)⟩, S.tabs, fun HA eN TA => fun Qg kg => ?_⟩
    replace S := S.lam (ntk tkS) eN TA
    replace tkS := tkE tkS eN
    refine ⟨by show 2 ≤ sizeLine; decide, fun p1 n1 z1 => ?_⟩
    obtain ⟨j1, s1, _⟩ := new_tupO (K := K) (vs := [V.int 1, V.int 3]) (ds := [.int 1, .int 3]) S.hd n1 z1 (by repeat (first | exact IssO.nil | refine IssO.cons isO_int ?_ | refine IssO.cons isO_bl ?_ | refine IssO.cons isO_str ?_ | refine IssO.cons isO_non ?_))
    replace S := S.same s1
    replace tkS := tkS.keep s1
    refine ⟨by show 2 ≤ sizeLine; decide, fun p2 n2 z2 => ?_⟩
    obtain ⟨j2, s2, _⟩ := new_tupO (K := K) (vs := [V.int 7, V.int 3]) (ds := [.int 7, .int 3]) S.hd n2 z2 (by repeat (first | exact IssO.nil | refine IssO.cons isO_int ?_ | refine IssO.cons isO_bl ?_ | refine IssO.cons isO_str ?_ | refine IssO.cons isO_non ?_))
    replace S := S.same s2
    replace tkS := tkS.keep s2
    replace j1 := j1.same s2
    have hr : IssO K [LA, a] _ [V.int 1, V.ref p2] [.int 1, .tuple [.int 7, .int 3]] := IssO.cons isO_int (IssO.one j2)
    refine fun x dx nx ndx ne => rd_headX (A := [LA, a]) (d := (.tuple [.int 1, .int 3])) (i := some 1) S.hd j1 hr (by decide +kernel) (by decide +kernel) (by show 2 ≤ 1000; decide) (hsz_of (by decide +kernel) (by repeat (first | exact sz_nil | refine szc oD.sz ?_ | refine szc bD.sz ?_ | refine szc (by decide +kernel) ?_))) he8 (fun l H6 s6 nl zl el => ?_) nx ndx ne
    refine ⟨LA, _, _, rfl, rfl, (S.same s6).la, by show 7 < sizeLine; decide, ?_⟩
    obtain ⟨S2, tkS2⟩ := S.put2 (es := [.str "InvalidHead", .int 1, .bool true]) tkS s6 nl zl el (by repeat (first | exact IssO.nil | refine IssO.cons isO_int ?_ | refine IssO.cons isO_bl ?_ | refine IssO.cons isO_str ?_ | refine IssO.cons isO_non ?_))
    clear S tkS
    generalize upd H6 LA (.lst _) = H13 at S2 tkS2 ⊢
    have S := S2; have tkS := tkS2; clear S2 tkS2 -- S2 => S, tkS2 => tkS
    clear eN TA kg s6 nl zl el nx ndx ne hr j1 s1 n1 z1 j2 s2 n2 z2
    try dsimp only [gName, tSeq, tAsg, tNext, tDrop]
    -- answer 9
    refine ⟨_, rfl, .inl ⟨rfl, _, .inl (.inl S.la)⟩, S.tabs, fun HA eN TA => fun Qg kg => ?_⟩
    replace S := S.lam (ntk tkS) eN TA
    replace tkS := tkE tkS eN
    refine ⟨by show 2 ≤ sizeLine; decide, fun p1 n1 z1 => ?_⟩
    obtain ⟨j1, s1, _⟩ := new_tupO (K := K) (vs := [V.int 1, V.int 3]) (ds := [.int 1, .int 3]) S.hd n1 z1 (by repeat (first | exact IssO.nil | refine IssO.cons isO_int ?_ | refine IssO.cons isO_bl ?_ | refine IssO.cons isO_str ?_ | refine IssO.cons isO_non ?_))
    replace S := S.same s1
    replace tkS := tkS.keep s1
    refine ⟨by show 2 ≤ sizeLine; decide, fun p2 n2 z2 => ?_⟩
    obtain ⟨j2, s2, _⟩ := new_tupO (K := K) (vs := [V.int 4, V.int 3]) (ds := [.int 4, .int 3]) S.hd n2 z2 (by repeat (first | exact IssO.nil | refine IssO.cons isO_int ?_ | refine IssO.cons isO_bl ?_ | refine IssO.cons isO_str ?_ | refine IssO.cons isO_non ?_))
    replace S := S.same s2
    replace tkS := tkS.keep s2
    replace j1 := j1.same s2
    have hr : IssO K [LA, a] _ [V.ref p2] [.tuple [.int 4, .int 3]] := IssO.one j2
    refine fun x dx nx ndx ne => rd_headX (A := [LA, a]) (d := (.tuple [.int 1, .int 3])) (i := some 0) S.hd j1 hr (by decide +kernel) (by decide +kernel) (by show 1 ≤ 1000; decide) (hsz_of (by decide +kernel) (by repeat (first | exact sz_nil | refine szc oD.sz ?_ | refine szc bD.sz ?_ | refine szc (by decide +kernel) ?_))) he9 (fun l H6 s6 nl zl el => ?_) nx ndx ne
    refine ⟨LA, _, _, rfl, rfl, (S.same s6).la, by show 8 < sizeLine; decide, ?_⟩
    obtain ⟨S2, tkS2⟩ := S.put2 (es := [.str "InvalidHead", .int 0, .bool true]) tkS s6 nl zl el (by repeat (first | exact IssO.nil | refine IssO.cons isO_int ?_ | refine IssO.cons isO_bl ?_ | refine IssO.cons isO_str ?_ | refine IssO.cons isO_non ?_))
    clear S tkS
    generalize upd H6 LA (.lst _) = H14 at S2 tkS2 ⊢
    have S := S2; have tkS := tkS2; clear S2 tkS2 -- S2 => S, tkS2 => tkS
    clear eN TA kg s6 nl zl el nx ndx ne hr j1 s1 n1 z1 j2 s2 n2 z2
    try dsimp only [gName, tSeq, tAsg, tNext, tDrop]
    -- the due answers
    refine ⟨_, rfl, by show 3 ≤ sizeLine; decide, fun q1 nq1 zq1 => ?_⟩
    obtain ⟨i1, s1, _⟩ := iss_lst (vs := [V.str "InvalidOffset", bv, V.bl true]) (es := [.str "InvalidOffset", bd, .bool true]) S.hd nq1 zq1 (IssO.nil (K := K) (A := [LA, a]) (H := H14)) (IssO.cons isO_str (IssO.cons S.bad (IssO.one isO_bl)))
    replace S := S.same s1; replace tkS := tkS.keep s1
    generalize upd H14 q1 (.lst [V.str "InvalidOffset", bv, V.bl true]) = G1 at i1 S tkS  ⊢
    clear s1 nq1 zq1
    refine ⟨by show 3 ≤ sizeLine; decide, fun q2 nq2 zq2 => ?_⟩
    obtain ⟨i2, s2, _⟩ := iss_lst (vs := [V.str "InvalidHead", V.int 0, V.bl true]) (es := [.str "InvalidHead", .int 0, .bool true]) S.hd nq2 zq2 i1 (by repeat (first | exact IssO.nil | refine IssO.cons isO_int ?_ | refine IssO.cons isO_bl ?_ | refine IssO.cons isO_str ?_ | refine IssO.cons isO_non ?_))
    replace S := S.same s2; replace tkS := tkS.keep s2
    generalize upd G1 q2 (.lst [V.str "InvalidHead", V.int 0, V.bl true]) = G2 at i2 S tkS  ⊢
    clear s2 nq2 zq2
    refine ⟨by show 3 ≤ sizeLine; decide, fun q3 nq3 zq3 => ?_⟩
    obtain ⟨i3, s3, _⟩ := iss_lst (vs := [V.str "InvalidHead", V.int 1, V.bl true]) (es := [.str "InvalidHead", .int 1, .bool true]) S.hd nq3 zq3 i2 (by repeat (first | exact IssO.nil | refine IssO.cons isO_int ?_ | refine IssO.cons isO_bl ?_ | refine IssO.cons isO_str ?_ | refine IssO.cons isO_non ?_))
    replace S := S.same s3; replace tkS := tkS.keep s3
    generalize upd G2 q3 (.lst [V.str "InvalidHead", V.int 1, V.bl true]) = G3 at i3 S tkS  ⊢
    clear s3 nq3 zq3
    refine ⟨by show 3 ≤ sizeLine; decide, fun q4 nq4 zq4 => ?_⟩
    obtain ⟨i4, s4, _⟩ := iss_lst (vs := [V.str "InvalidHead", V.int 1, V.bl true]) (es := [.str "InvalidHead", .int 1, .bool true]) S.hd nq4 zq4 i3 (by repeat (first | exact IssO.nil | refine IssO.cons isO_int ?_ | refine IssO.cons isO_bl ?_ | refine IssO.cons isO_str ?_ | refine IssO.cons isO_non ?_))
    replace S := S.same s4; replace tkS := tkS.keep s4
    generalize upd G3 q4 (.lst [V.str "InvalidHead", V.int 1, V.bl true]) = G4 at i4 S tkS  ⊢
    clear s4 nq4 zq4
    refine ⟨by show 4 ≤ sizeLine; decide, fun d1 nd1 zd1 => ?_⟩
    have sd1 : Same G4 (upd G4 d1 (.lst [V.ref q1, V.ref q2, V.ref q3, V.ref q4])) := same_new nd1
    have ed1 : (upd G4 d1 (.lst [V.ref q1, V.ref q2, V.ref q3, V.ref q4])) d1 = some (.lst [V.ref q1, V.ref q2, V.ref q3, V.ref q4]) := upd_same
    replace S := S.same sd1; replace tkS := tkS.keep sd1; replace i4 := i4.same sd1
    have pd1 : True := trivial
    generalize upd G4 d1 (.lst [V.ref q1, V.ref q2, V.ref q3, V.ref q4]) = Gd1 at i4 S tkS ed1  ⊢
    clear sd1 pd1
    try dsimp only [gName, tSeq, tAsg, tNext, tDrop]
    refine ⟨_, rfl, by show 3 ≤ sizeLine; decide, fun q5 nq5 zq5 => ?_⟩
    obtain ⟨i5, s5, _⟩ := iss_lst (vs := [V.str "InvalidHead", V.int 1, V.bl true]) (es := [.str "InvalidHead", .int 1, .bool true]) S.hd nq5 zq5 i4 (by repeat (first | exact IssO.nil | refine IssO.cons isO_int ?_ | refine IssO.cons isO_bl ?_ | refine IssO.cons isO_str ?_ | refine IssO.cons isO_non ?_))
    replace S := S.same s5; replace tkS := tkS.keep s5
    replace ed1 := s5 _ _ ed1
    generalize upd Gd1 q5 (.lst [V.str "InvalidHead", V.int 1, V.bl true]) = G5 at i5 S tkS ed1 ⊢
    clear s5 nq5 zq5
    refine ⟨by show 3 ≤ sizeLine; decide, fun q6 nq6 zq6 => ?_⟩
    obtain ⟨i6, s6, _⟩ := iss_lst (vs := [V.str "InvalidHead", V.non, V.bl true]) (es := [.str "InvalidHead", .none, .bool true]) S.hd nq6 zq6 i5 (IssO.cons isO_str (IssO.cons isO_non (IssO.one isO_bl)))
    replace S := S.same s6; replace tkS := tkS.keep s6
    replace ed1 := s6 _ _ ed1
    generalize upd G5 q6 (.lst [V.str "InvalidHead", V.non, V.bl true]) = G6 at i6 S tkS ed1 ⊢
    clear s6 nq6 zq6
    refine ⟨_, rfl, by show 3 ≤ sizeLine; decide, fun q7 nq7 zq7 => ?_⟩
    obtain ⟨i7, s7, _⟩ := iss_lst (vs := [V.str "InvalidOffset", bv, V.bl true]) (es := [.str "InvalidOffset", bd, .bool true]) S.hd nq7 zq7 i6 (IssO.cons isO_str (IssO.cons S.bad (IssO.one isO_bl)))
    replace S := S.same s7; replace tkS := tkS.keep s7
    replace ed1 := s7 _ _ ed1
    generalize upd G6 q7 (.lst [V.str "InvalidOffset", bv, V.bl true]) = G7 at i7 S tkS ed1 ⊢
    clear s7 nq7 zq7
    refine ⟨by show 3 ≤ sizeLine; decide, fun d2 nd2 zd2 => ?_⟩
    have sd2 : Same G7 (upd G7 d2 (.lst [V.ref q5, V.ref q6, V.ref q7])) := same_new nd2
    have ed2 : (upd G7 d2 (.lst [V.ref q5, V.ref q6, V.ref q7])) d2 = some (.lst [V.ref q5, V.ref q6, V.ref q7]) := upd_same
    replace S := S.same sd2; replace tkS := tkS.keep sd2; replace i7 := i7.same sd2
    replace ed1 := sd2 _ _ ed1
    have pd2 : True := trivial
    generalize upd G7 d2 (.lst [V.ref q5, V.ref q6, V.ref q7]) = Gd2 at i7 S tkS ed2 ed1 ⊢
    clear sd2 pd2
    refine ⟨_, _, _, _, rfl, rfl, ed1, ed2, by show 7 ≤ sizeLine; decide, fun d3 nd3 zd3 => ?_⟩
    have sd3 : Same Gd2 (upd Gd2 d3 (.lst ([V.ref q1, V.ref q2, V.ref q3, V.ref q4] ++ [V.ref q5, V.ref q6, V.ref q7]))) := same_new nd3
    have ed3 : (upd Gd2 d3 (.lst ([V.ref q1, V.ref q2, V.ref q3, V.ref q4] ++ [V.ref q5, V.ref q6, V.ref q7]))) d3 = some (.lst ([V.ref q1, V.ref q2, V.ref q3, V.ref q4] ++ [V.ref q5, V.ref q6, V.ref q7])) := upd_same
    have hd3 : d3 ∉ [LA, a] := S.hd.out nd3
    replace S := S.same sd3; replace tkS := tkS.keep sd3; replace i7 := i7.same sd3
    skip
    generalize upd Gd2 d3 (.lst ([V.ref q1, V.ref q2, V.ref q3, V.ref q4] ++ [V.ref q5, V.ref q6, V.ref q7])) = Gd3 at i7 S tkS ed3 ⊢
    clear sd3 ed1 ed2
    try dsimp only [gName, tSeq, tAsg, tNext, tDrop]
    refine ⟨_, rfl, by show 3 ≤ sizeLine; decide, fun q8 nq8 zq8 => ?_⟩
    obtain ⟨i8, s8, _⟩ := iss_lst (vs := [V.str "InvalidHead", V.int 1, V.bl true]) (es := [.str "InvalidHead", .int 1, .bool true]) S.hd nq8 zq8 i7 (by repeat (first | exact IssO.nil | refine IssO.cons isO_int ?_ | refine IssO.cons isO_bl ?_ | refine IssO.cons isO_str ?_ | refine IssO.cons isO_non ?_))
    replace S := S.same s8; replace tkS := tkS.keep s8
    replace ed3 := s8 _ _ ed3
    generalize upd Gd3 q8 (.lst [V.str "InvalidHead", V.int 1, V.bl true]) = G8 at i8 S tkS ed3 ⊢
    clear s8 nq8 zq8
    refine ⟨by show 3 ≤ sizeLine; decide, fun q9 nq9 zq9 => ?_⟩
    obtain ⟨i9, s9, _⟩ := iss_lst (vs := [V.str "InvalidHead", V.int 0, V.bl true]) (es := [.str "InvalidHead", .int 0, .bool true]) S.hd nq9 zq9 i8 (by repeat (first | exact IssO.nil | refine IssO.cons isO_int ?_ | refine IssO.cons isO_bl ?_ | refine IssO.cons isO_str ?_ | refine IssO.cons isO_non ?_))
    replace S := S.same s9; replace tkS := tkS.keep s9
    replace ed3 := s9 _ _ ed3
    generalize upd G8 q9 (.lst [V.str "InvalidHead", V.int 0, V.bl true]) = G9 at i9 S tkS ed3 ⊢
    clear s9 nq9 zq9
    refine ⟨by show 2 ≤ sizeLine; decide, fun d4 nd4 zd4 => ?_⟩
    have sd4 : Same G9 (upd G9 d4 (.lst [V.ref q8, V.ref q9])) := same_new nd4
    have ed4 : (upd G9 d4 (.lst [V.ref q8, V.ref q9])) d4 = some (.lst [V.ref q8, V.ref q9]) := upd_same
    replace S := S.same sd4; replace tkS := tkS.keep sd4; replace i9 := i9.same sd4
    replace ed3 := sd4 _ _ ed3
    have pd4 : True := trivial
    generalize upd G9 d4 (.lst [V.ref q8, V.ref q9]) = Gd4 at i9 S tkS ed4 ed3 ⊢
    clear sd4 pd4
    refine ⟨_, _, _, _, rfl, rfl, ed3, ed4, by show 9 ≤ sizeLine; decide, fun d5 nd5 zd5 => ?_⟩
    have sd5 : Same Gd4 (upd Gd4 d5 (.lst (([V.ref q1, V.ref q2, V.ref q3, V.ref q4] ++ [V.ref q5, V.ref q6, V.ref q7]) ++ [V.ref q8, V.ref q9]))) := same_new nd5
    have ed5 : (upd Gd4 d5 (.lst (([V.ref q1, V.ref q2, V.ref q3, V.ref q4] ++ [V.ref q5, V.ref q6, V.ref q7]) ++ [V.ref q8, V.ref q9]))) d5 = some (.lst (([V.ref q1, V.ref q2, V.ref q3, V.ref q4] ++ [V.ref q5, V.ref q6, V.ref q7]) ++ [V.ref q8, V.ref q9])) := upd_same
    have hd5 : d5 ∉ [LA, a] := S.hd.out nd5
    replace S := S.same sd5; replace tkS := tkS.keep sd5; replace i9 := i9.same sd5
    skip
    generalize upd Gd4 d5 (.lst (([V.ref q1, V.ref q2, V.ref q3, V.ref q4] ++ [V.ref q5, V.ref q6, V.ref q7]) ++ [V.ref q8, V.ref q9])) = Gd5 at i9 S tkS ed5 ⊢
    clear sd5 ed3 ed4
    try dsimp only [gName, tSeq, tAsg, tNext, tDrop]
    -- both shown
    obtain ⟨ok1, ok2, ok3⟩ := due_ok bD
    have dA : DO K Gd5 (.ref LA) (.list (rowsD bd)) := DO.list (.inl (.inl S.la)) S.lns S.ans.full
    have dD : DO K Gd5 (.ref d5) (.list (rowsD bd)) := DO.list (.inl (.inl ed5)) zd5 i9.full
    refine ⟨_, rfl, LA, _, rfl, .inl dA, ok1, ok2, ok3, ?_⟩
    refine ⟨_, rfl, d5, _, rfl, .inl dD, ok1, ok2, ok3, rfl, _, rfl, ite2 (fun e => ?_) (fun _ => ?_)⟩
    · simp at e
    clear dA dD i9 ed5 hd5 zd5 nd5
    try dsimp only [gName, tSeq, tAsg, tNext, tDrop]
    -- the three rules that are made
    have X0 : ExA [a] H Gd5 := x5.trans S.ext
    refine ⟨S.tabs, fun HA eN TA => fun Qg kg => ?_⟩
    refine ⟨_, _, rfl, rfl, cp 9 (by decide), _, _, rfl, rfl, .inl ⟨by decide, by decide⟩, _, _, rfl, rfl, cp 9 (by decide), by show 2 ≤ sizeLine; decide, fun p1 n1 z1 => ?_⟩
    obtain ⟨j1, s1, _⟩ := new_tupO (K := K) (A := []) (vs := [V.int (8 * 10 ^ Int.toNat 9), V.int (10 ^ Int.toNat 9)]) (ds := [.int (8 * 10 ^ Int.toNat 9), .int (10 ^ Int.toNat 9)]) (fun b hb => by cases hb) n1 z1 (by repeat (first | exact IssO.nil | refine IssO.cons isO_int ?_ | refine IssO.cons isO_bl ?_ | refine IssO.cons isO_str ?_ | refine IssO.cons isO_non ?_))
    have hr : IssO K [] _ [V.int 0, V.int 1, V.int 2, V.int 3, V.int 4, V.int 5, V.int 6, V.ref p1] [.int 0, .int 1, .int 2, .int 3, .int 4, .int 5, .int 6, .tuple [.int (8 * 10 ^ Int.toNat 9), .int (10 ^ Int.toNat 9)]] := IssO.cons isO_int (IssO.cons isO_int (IssO.cons isO_int (IssO.cons isO_int (IssO.cons isO_int (IssO.cons isO_int (IssO.cons isO_int (IssO.one j1)))))))
    refine fun x dx nx ndx ne => rd_str (d := .int 1) (by decide +kernel) isO_int hr (by show 8 ≤ 1000; decide) (fun H6 s6 => kg _ _ fun l nl => ?_) nx ndx ne
    refine ⟨by show 1 ≤ sizeLine; decide, fun LG nLG zLG => ?_⟩
    have eT : SX.S (ruleL (lowD (.int 1)) (List.map lowD [.int 0, .int 1, .int 2, .int 3, .int 4, .int 5, .int 6, .tuple [.int (8 * 10 ^ Int.toNat 9), .int (10 ^ Int.toNat 9)]])) = ("0 1 2 3 4 5 6 8 | 1" : Str) := by decide +kernel
    rw [eT] at nLG ⊢
    have G1 := Sg.first (A := [a]) (T := lamT Pt) nl nLG (X0.trans ((ExA.ext eN).trans (.same (s1.trans s6)))) (fun o e => ?fr) (TA.ext (s1.trans s6))
    case fr =>
      apply Classical.byContradiction
      intro z
      have lg : LG ≠ a := fun w => ?_
      · have e1 := X0 LG o (by rw [List.mem_singleton]; exact lg) e (fun ps w => z ⟨ps, w⟩)
        have e2 := same_new (o := .lst [.str "given", .str "0 1 2 3 4 5 6 8 | 1"]) nl _ _ (s6 _ _ (s1 _ _ (eN _ _ e1 (fun ps w => z ⟨ps, w⟩))))
        rw [nLG] at e2
        cases e2
      · have t2 := ((tkE tkS eN).keep (s1.trans s6)).keep (same_new (o := .lst [.str "given", .str "0 1 2 3 4 5 6 8 | 1"]) nl)
        exact t2.ne (by rw [← w]; exact nLG)
    generalize upd (upd H6 l (.lst _)) LG (.lst _) = J1 at G1 ⊢
    clear S tkS x5 X0 eN TA kg s6 nl nx ndx ne hr j1 s1 n1 z1 nLG zLG eT
    try dsimp only [gName, tSeq, tAsg, tNext, tDrop]
    have G := G1; clear G1
    refine ⟨_, rfl, .inl ⟨rfl, _, .inl (.inl G.la)⟩, G.tabs, fun HA eN TA => fun Qg kg => ?_⟩
    replace G := G.lam eN TA
    refine ⟨by show 2 ≤ sizeLine; decide, fun p1 n1 z1 => ?_⟩
    obtain ⟨j1, s1, _⟩ := new_tupO (K := K) (A := []) (vs := [V.int 999, V.int 1000]) (ds := [.int 999, .int 1000]) (fun b hb => by cases hb) n1 z1 (by repeat (first | exact IssO.nil | refine IssO.cons isO_int ?_ | refine IssO.cons isO_bl ?_ | refine IssO.cons isO_str ?_ | refine IssO.cons isO_non ?_))
    replace G := G.same s1
    have hr : IssO K [] _ [V.int 0, V.ref p1] [.int 0, .tuple [.int 999, .int 1000]] := IssO.cons isO_int (IssO.one j1)
    refine fun x dx nx ndx ne => rd_str (d := (.int 0)) (by decide +kernel) isO_int hr (by show 2 ≤ 1000; decide) (fun H6 s6 => kg _ _ fun l nl => ?_) nx ndx ne
    replace G := G.same s6
    refine ⟨LG, _, _, rfl, rfl, same_new nl _ _ G.la, by show 1 < sizeLine; decide, ?_⟩
    have eT : SX.S (ruleL (lowD (.int 0)) (List.map lowD [.int 0, .tuple [.int 999, .int 1000]])) = ("0 999/1000 | 0" : Str) := by decide +kernel
    rw [eT]
    have G2 := G.put (t := "0 999/1000 | 0") nl; clear G
    generalize upd (upd H6 l (.lst _)) LG (.lst _) = J2 at G2 ⊢
    clear eN TA kg s6 nl nx ndx ne hr eT j1 s1 n1 z1
    try dsimp only [gName, tSeq, tAsg, tNext, tDrop]
    have G := G2; clear G2
    refine ⟨_, rfl, .inl ⟨rfl, _, .inl (.inl G.la)⟩, G.tabs, fun HA eN TA => fun Qg kg => ?_⟩
    replace G := G.lam eN TA
    refine ⟨by show 2 ≤ sizeLine; decide, fun p1 n1 z1 => ?_⟩
    obtain ⟨j1, s1, _⟩ := new_tupO (K := K) (A := []) (vs := [V.int 3, V.int 3]) (ds := [.int 3, .int 3]) (fun b hb => by cases hb) n1 z1 (by repeat (first | exact IssO.nil | refine IssO.cons isO_int ?_ | refine IssO.cons isO_bl ?_ | refine IssO.cons isO_str ?_ | refine IssO.cons isO_non ?_))
    replace G := G.same s1
    refine ⟨by show 2 ≤ sizeLine; decide, fun p2 n2 z2 => ?_⟩
    obtain ⟨j2, s2, _⟩ := new_tupO (K := K) (A := []) (vs := [V.int 3, V.int 2]) (ds := [.int 3, .int 2]) (fun b hb => by cases hb) n2 z2 (by repeat (first | exact IssO.nil | refine IssO.cons isO_int ?_ | refine IssO.cons isO_bl ?_ | refine IssO.cons isO_str ?_ | refine IssO.cons isO_non ?_))
    replace G := G.same s2
    replace j1 := j1.same s2
    have hr : IssO K [] _ [V.ref p2] [.tuple [.int 3, .int 2]] := IssO.one j2
    refine fun x dx nx ndx ne => rd_str (d := (.tuple [.int 3, .int 3])) (by decide +kernel) j1 hr (by show 1 ≤ 1000; decide) (fun H6 s6 => kg _ _ fun l nl => ?_) nx ndx ne
    replace G := G.same s6
    refine ⟨LG, _, _, rfl, rfl, same_new nl _ _ G.la, by show 2 < sizeLine; decide, ?_⟩
    have eT : SX.S (ruleL (lowD (.tuple [.int 3, .int 3])) (List.map lowD [.tuple [.int 3, .int 2]])) = ("3/2 | 1" : Str) := by decide +kernel
    rw [eT]
    have G3 := G.put (t := "3/2 | 1") nl; clear G
    generalize upd (upd H6 l (.lst _)) LG (.lst _) = J3 at G3 ⊢
    clear eN TA kg s6 nl nx ndx ne hr eT j1 s1 n1 z1 j2 s2 n2 z2
    try dsimp only [gName, tSeq, tAsg, tNext, tDrop]
    -- the last answer
    have G := G3; clear G3
    refine ⟨_, rfl, ?_⟩
    refine ⟨by show 2 ≤ sizeLine; decide, fun q1 nq1 zq1 => ?_⟩
    have t1 : Same J3 (upd J3 q1 (.lst [V.str "given", V.str "0 1 2 3 4 5 6 8 | 1"])) := same_new nq1
    have f1 : (upd J3 q1 (.lst [V.str "given", V.str "0 1 2 3 4 5 6 8 | 1"])) q1 = some (.lst [V.str "given", V.str "0 1 2 3 4 5 6 8 | 1"]) := upd_same
    replace G := G.same t1
    generalize upd J3 q1 (.lst _) = J4 at G f1 ⊢
    refine ⟨by show 2 ≤ sizeLine; decide, fun q2 nq2 zq2 => ?_⟩
    have t2 : Same J4 (upd J4 q2 (.lst [V.str "given", V.str "0 999/1000 | 0"])) := same_new nq2
    have f2 : (upd J4 q2 (.lst [V.str "given", V.str "0 999/1000 | 0"])) q2 = some (.lst [V.str "given", V.str "0 999/1000 | 0"]) := upd_same
    replace G := G.same t2; replace f1 := t2 _ _ f1
    generalize upd J4 q2 (.lst _) = J5 at G f1 f2 ⊢
    refine ⟨by show 2 ≤ sizeLine; decide, fun q3 nq3 zq3 => ?_⟩
    have t3 : Same J5 (upd J5 q3 (.lst [V.str "given", V.str "3/2 | 1"])) := same_new nq3
    have f3 : (upd J5 q3 (.lst [V.str "given", V.str "3/2 | 1"])) q3 = some (.lst [V.str "given", V.str "3/2 | 1"]) := upd_same
    replace G := G.same t3; replace f1 := t3 _ _ f1; replace f2 := t3 _ _ f2
    generalize upd J5 q3 (.lst _) = J6 at G f1 f2 f3 ⊢
    refine ⟨by show 3 ≤ sizeLine; decide, fun q4 nq4 zq4 => ?_⟩
    have t4 : Same J6 (upd J6 q4 (.lst [V.ref q1, V.ref q2, V.ref q3])) := same_new nq4
    have f4 : (upd J6 q4 (.lst [V.ref q1, V.ref q2, V.ref q3])) q4 = some (.lst [V.ref q1, V.ref q2, V.ref q3]) := upd_same
    replace G := G.same t4; replace f1 := t4 _ _ f1; replace f2 := t4 _ _ f2; replace f3 := t4 _ _ f3
    generalize upd J6 q4 (.lst _) = J7 at G f1 f2 f3 f4 ⊢
    have e2 : Dp K J7 (.ref q4) (givenD ["0 1 2 3 4 5 6 8 | 1", "0 999/1000 | 0", "3/2 | 1"]) := .lst (.inl (.inl f4)) (dpAll_rows rfl fun i v t h1 h2 => by
      match i, h1, h2 with
      | 0, h1, h2 => cases h1; cases h2; exact ⟨_, rfl, f1⟩
      | 1, h1, h2 => cases h1; cases h2; exact ⟨_, rfl, f2⟩
      | 2, h1, h2 => cases h1; cases h2; exact ⟨_, rfl, f3⟩
      | n + 3, h1, h2 => simp at h1)
    refine ⟨_, _, G.dp, e2, by decide +kernel, by decide +kernel, ?_⟩
    have eq : PyData.eqv (givenD (([("0 1 2 3 4 5 6 8 | 1" : Str)] ++ [("0 999/1000 | 0" : Str)]) ++ [("3/2 | 1" : Str)])) (givenD ["0 1 2 3 4 5 6 8 | 1", "0 999/1000 | 0", "3/2 | 1"]) = true := by decide +kernel
    rw [eq]
    exact k _ (fun b o hb e nt => G.ext b o (by rw [List.mem_singleton]; exact hb) e nt) G.tabs
end

end LW

set_option Elab.async false
set_option linter.all false
set_option maxRecDepth 100000
set_option maxHeartbeats 4000100
set_option exponentiation.threshold 9000
namespace LW
open L2 PySem.Spec PyProof.Rows PySem
abbrev s_law : Stmt := topS 37
theorem sc_law : FnScope ["_law_script", "_law_k"] ["_law_script"] (defScope s_law) := ⟨rfl, rfl, rfl, by decide +kernel, rfl, by decide +kernel, by decide +kernel⟩
local macro_rules | `(tactic| walk_at "len") => `(tactic| skip)
/-! ### the law's own def, with the table of its lambda -/
section
variable {P : Program} {w : World} {K : PySem.W.Frag} {mg : Str → Option Value} {base : Heap} {c : Addr}
def sp_lawT (K : PySem.W.Frag) (Pt : Addr) : Sp := fun vs H Q _ => ∃ (a : Addr) (ns : List Int), vs = [.ref a] ∧ SqL K H a (ns.map V.int) ∧ ns.length ≤ 63 ∧ LamX.Tabs (lamT Pt) H ∧ ∀ H', Q (.bl true) H'
theorem sqL_ext {H H' : Hp} {a : Addr} {xs : List V} (e : ∀ b o, H b = some o → (∀ ps, o ≠ .tbl ps) → H' b = some o) (h : SqL K H a xs) : SqL K H' a xs := by
  rcases h with (h | ⟨o,
        h⟩) | h
  · exact .inl (.inl (e _ _ h (fun ps z => by cases z)))
  · exact .inl (.inr ⟨o, e _ _ h (fun ps z => by cases z)⟩)
  · exact .inr h
theorem ok_lawT {Pt f : Addr} {fd : FuncData} (B : Bl mg) (F : Fun K "law" "law" s_law f fd) (C__law_tank : Cal P w K mg base 1 "_law_tank" (sp__law_tank K c) []) (C__law_right : CalG P w K mg base 13 "_law_right" (sp__law_rightT K Pt) []) :
    FnG P w K mg base CX0 14 f fd ["_law_script"] (sp_lawT K Pt) := by
  refine Fun_okG F sc_law (fun vs H Q E h => ?_) (fun cdv A outer s H vs Q E hr quiet h => ?_)
  · obtain ⟨_, _, rfl, _⟩ := h
    rfl
  · obtain ⟨a, ns, rfl, hS, hn, tb, q⟩ := h
    have hq : (A.deeper (envOfC "law" (defScope s_law) s.heap.objs.size f cdv)).guards = some [] := quiet
    refine ⟨_, (pss_one (ps_ret (pe_callB (cr_all rfl) (by rfl) B.all (by decide +kernel) (pa_cons (pe_lc (own := [("_law_k", 1)]) (by rfl) sc_law.nd (pi_range1 (by rfl) B.range (pa_cons (pe_callB (call_max2 rfl) (by rfl) B.max (by decide +kernel) (pa_cons pe_int (pa_cons (pe_callB (call_min2 rfl) (by rfl) B.min (by decide +kernel) (pa_cons (pe_callB call_len_seq (by rfl) B.len (by decide +kernel) (pa_cons (pv 0) pa_nil)) (pa_cons pe_int pa_nil))) pa_nil))) pa_nil)) (blkOk_by (own := [("_law_k", 1)]) (N := ["_law_script", "_law_k"]) (sc := defScope s_law) (by decide +kernel)) (fun _ _ _ _ _ => (pg_name (i := 1) sc_law.nd rfl (Or.inl rfl))) (fun _ _ _ _ _ => pts_nil) (fun _ _ _ _ _ => (pe_cG hq C__law_right hr (by decide) (by rfl) (pa_cons (pe_c C__law_tank hr (by decide) (by rfl) (pa_cons (pv 0) (pa_cons (pv 1) pa_nil))) pa_nil)))) pa_nil)))), ?_⟩
    obtain ⟨N, eN, hN⟩ : ∃ N : Int, (if (if (6 : Int) < ((ns.map V.int).length : Int) then (6 : Int) else ((ns.map V.int).length : Int)) > 2 then (if (6 : Int) < ((ns.map V.int).length : Int) then (6 : Int) else ((ns.map V.int).length : Int)) else 2) = N ∧ 2 ≤ N ∧ N ≤ 6 := ⟨_, rfl, by split <;> (try split) <;> omega, by split <;> (try split) <;> omega⟩
    refine ⟨_, rfl, a, _, rfl, .inl hS, _, _, rfl, _, _, rfl, N, congrArg (fun z => [V.int z]) eN, by omega, by omega, fun D nD => ?_⟩
    refine lc_range (lo := 0) (fun i H2 => (∀ b o, H b = some o → (∀ ps, o ≠ .tbl ps) → H2 b = some o) ∧ LamX.Tabs (lamT Pt) H2 ∧ H2 D = some (.lst (List.replicate i (V.bl true)))) ⟨fun b o e _ => same_new nD b o e, tb.ext (same_new nD), upd_same⟩ ?_ ?_
    · rintro i H2 hi ⟨sm, tb2, eD⟩
      refine ⟨rfl, ?_⟩
      refine ⟨_, rfl, _, rfl, a, ns, _, rfl, sqL_ext sm hS, by omega, by omega, by omega, fun p H3 sm3 np tk => ?_⟩
      refine ⟨p, rfl, tk, tb2.ext sm3, fun H4 go tb4 => ?_⟩
      have npD : D ≠ p := ne_of_none eD np
      have eD4 : H4 D = some (.lst (List.replicate i (V.bl true))) := go D _ npD (sm3 _ _ eD) (fun ps z => by cases z)
      refine ⟨_, eD4, by rw [List.length_replicate]; exact small1000 (by omega), fun b o e nt => ?_, ?_, ?_⟩
      · have e2 := sm b o e nt
        rw [upd_ne (ne_of_none e nD)]
        exact go b o (ne_of_none e2 np) (sm3 _ _ e2) nt
      · refine tabs_keepD tb4 eD4
      · rw [upd_same, List.replicate_succ']
    · rintro H2 ⟨sm, tb2, eD⟩
      refine ⟨D, List.replicate _ true, rfl, .inl (.inl (by rw [List.map_replicate]; exact eD)), ?_⟩
      rw [show (List.replicate N.toNat true).all id = true from by simp]
      exact q _
end

end LW

set_option Elab.async false
set_option linter.all false
set_option maxRecDepth 100000
set_option maxHeartbeats 4000100
namespace LW
open L2 PySem.Spec PyProof.Rows PySem
/-- the table of the code object is not of the written part -/
def noTabB (K : PySem.W.Frag) (cd : Value) : Bool := match cd with
  | .ref c => (match
        K.lookup c with
      | some ⟨_, _, Data.fields vs, _⟩ => (match (vs[11]? : Option Value) with | some (Value.ref t) => (K.lookup t).isNone | _ => false)
      | _ => false)
  | _ => false
structure OwnT (K : PySem.W.Frag) (mg : Str → Option Value) (h : Heap) (x : Str) (st : Stmt) (c t : Addr) : Prop where
  ex : ∃ (f : Addr) (fd : FuncData), FunAt K x x st f fd (.ref c) ∧ mg x = some (.ref f)
  empty : h.get? t = some { cls := .none, data := .fields #[] }
  off : K.lookup t = none
  hd : PySem.W.CodeHd h c t
theorem own_mkT {K : PySem.W.Frag} {h : Heap} {mg : Str → Option Value} {x : Str} {st : Stmt} {f : Addr} {oc kV dc pm cd ct : Value} {od an : Option Addr} {sl : Array (Option Value)} (X : K.In h) (G : h.Ns mainGlobals mg)
    (a : PySem.W.nsIn K mainGlobals x = some (some (.ref f)))
    (l : K.lookup f = some ⟨oc, od, .func (PySem.W.fnOf x x (defArgs st) (defBody st) (defScope st) .none kV dc pm an cd ct), sl⟩)
    (co : PySem.W.codeIn K cd x = true) (k : PySem.W.keepIn K (.ref f) = true) (n : noTabB K cd = true)
    (tab : ∃ a o fd c P, mg x = some (.ref a) ∧ h.get? a = some o ∧ o.data = .func fd ∧ fd.code = .ref c ∧ h.IsCode c P #[] ∧ h.TableAt c P #[]) : ∃ c t, OwnT K mg h x st c t := by
  have m := PySem.W.mg_of X G a
  obtain ⟨a', o, fd, c, t, h1, h2, h3, h4, h5, h6⟩ := tab
  rw [m] at h1
  cases h1
  have e := X _ _ l
  rw [e] at h2
  cases h2
  cases h3
  have h4' : cd = .ref c := h4
  subst h4'
  obtain ⟨⟨o', vs, e1, e2, e3, e4⟩, hP⟩ := id h6
  refine ⟨c, t, ⟨f, _, ⟨⟨oc, od, kV, dc, pm, an, ct, sl, rfl, l, co⟩, k⟩, m⟩, hP, ?_, .of h5 h6⟩
  unfold noTabB at n
  dsimp only at n
  cases q : K.lookup c with
  | none => rw [q] at n; cases n
  | some z =>
    have e5 := X _ _ q
    rw [e1] at e5
    have e6 : o' = z := Option.some.inj e5
    subst e6
    obtain ⟨wc, wd, wdat, wsl⟩ := o'
    have e3' : wdat = .fields vs := e3
    subst e3'
    rw [q] at n
    dsimp only at n
    rw [e4] at n
    dsimp only at n
    exact Option.isNone_iff_eq_none.mp n
end LW

set_option Elab.async false
set_option linter.all false
set_option maxRecDepth 100000
set_option maxHeartbeats 4000100
set_option exponentiation.threshold 9000
namespace LW
open L2 PySem.Spec PyProof.Rows PySem
/-! ### the end of k02 -/
/-- an own error class with one field: what the written part says of it -/
structure ExK (K : PySem.W.Frag) (mg : Str → Option Value) (x : Str) (C : Addr) (n : Str) (st : Stmt) (q : Str) : Prop where
  oex : OexC K C
  xf : XfC K C
  no : PySem.W.findIn K (.ref C) n = some none
  hm : mg x = some (.ref C)
  ini : ∃ (g : Addr) (fd : FuncData), PySem.W.findIn K (.ref C) "__init__" = some (some (.ref g)) ∧ PySem.W.typeIn K (.ref g) = some (.type "function") ∧ Fun K "__init__" q st g fd
/-- the class Rule -/
structure RuK (K : PySem.W.Frag) (c : Addr) : Prop where
  mark : ∃ (f : Addr) (fd : FuncData), Fun K "mark" "Rule.mark" s_Rule_mark f fd ∧ Meth K c "mark" f
  init : ∃ (f : Addr) (fd : FuncData), Fun K "__init__" "Rule.__init__" s_Rule___init__ f fd ∧ Mk K c f
  str : ∃ (f : Addr) (fd : FuncData), Fun K "__str__" "Rule.__str__" s_Rule___str__ f fd ∧ Meth K c "__str__" f
theorem finishT {l : PySem.W.OpenLaw} {w : World} {K : PySem.W.Frag} {h : Heap} {mg : Str → Option Value} {fa c CH CO CI cc Pt : Addr} (X : K.In h) (G : h.Ns mainGlobals mg) (hfa : mg "law" = some (.ref fa)) (B : Bl mg) (T : Tx K mg c) (RK : RuK K c)
    (EH : ExK K mg "InvalidHead" CH "index" s_InvalidHead___init__ "InvalidHead.__init__") (EO : ExK K mg "InvalidOffset" CO "value" s_InvalidOffset___init__ "InvalidOffset.__init__") (GT : GotT2 K mg CH CO CI) (R : OwnT K mg h "_law_right" s__law_right cc Pt)
    (D_is_int : OwnDef K mg "is_int" s_is_int) (D_is_count : OwnDef K mg "is_count" s_is_count) (D_is_number : OwnDef K mg "is_number" s_is_number) (D_as_pair : OwnDef K mg "as_pair" s_as_pair) (D_lowest : OwnDef K mg "lowest" s_lowest) (D_is_less : OwnDef K mg "is_less" s_is_less) (D__int_text : OwnDef K mg "_int_text" s__int_text) (D_number_text : OwnDef K mg "number_text" s_number_text) (D__is_offset : OwnDef K mg "_is_offset" s__is_offset) (D__plain_mark : OwnDef K mg "_plain_mark" s__plain_mark) (D__is_next_mark : OwnDef K mg "_is_next_mark" s__is_next_mark) (D__lowest_head : OwnDef K mg "_lowest_head" s__lowest_head) (D_common_bottom : OwnDef K mg "common_bottom" s_common_bottom) (D__law_tank : OwnDef K mg "_law_tank" s__law_tank) (D__law_tap : OwnDef K mg "_law_tap" s__law_tap) (D__law_any : OwnDef K mg "_law_any" s__law_any) (D_law : OwnDef K mg "law" s_law) :
    ∃ (fd : FuncData) (cs : List (Addr × Addr)) (sp : Sp), (∀ z ∈ cs, h.get? z.2 = some { cls := .none, data := .fields #[] }) ∧ (∀ z ∈ cs, K.lookup z.2 = none) ∧ (∀ z ∈ cs, PySem.W.CodeHd h z.1 z.2) ∧
        (∀ (s : Shared) (u : Value), BindsTo s fd ⟨[u], []⟩ [("_law_script", u)]) ∧
        (∀ (H : Hp) (a : Addr) (ns : List Int), ns.length ≤ 63 → (∀ z ∈ cs, H z.2 = some (.tbl #[])) → SqL K H a (ns.map V.int) → sp [.ref a] H (fun v _ => v = .bl true) fun _ _ _ => False) ∧
        ∀ base : Heap, K.In base → base.Ns mainGlobals mg → (∀ z ∈ cs, LamX.TabB base mg z.1 z.2) → FnG l.prog w K mg base CX0 14 fa fd ["_law_script"] sp := by
  obtain ⟨f, fd, F, hm⟩ := D_law.ex
  have e := hfa.symm.trans hm
  cases e
  have F0 := F
  obtain ⟨oc, od, kV, doc, pm, an, cdv, ct, osl,
        rfl, lk, hcd⟩ := F.ex
  refine ⟨PySem.W.fnOf "law" "law" (defArgs s_law) (defBody s_law) (defScope s_law) .none kV doc pm an cdv ct, [(cc, Pt)], sp_lawT K Pt, fun z hz => ?_, fun z hz => ?_, fun z hz => ?_, fun s v => .of_eq rfl, fun H a ns hn hT hS => ?_, fun base _ _ TBs => ?_⟩
  · rw [List.mem_singleton.mp hz]; exact R.empty
  · rw [List.mem_singleton.mp hz]; exact R.off
  · rw [List.mem_singleton.mp hz]; exact R.hd
  · refine ⟨a, ns, rfl, hS, hn, fun p hp => ?_, fun _ => rfl⟩
    rw [List.mem_singleton.mp hp]
    exact LamX.TabS.nil (hT _ (List.mem_singleton.mpr rfl))
  have TB : LamX.TabB base mg cc Pt := TBs (cc, Pt) (List.mem_singleton.mpr rfl)
  have C_is_int : Cal l.prog w K mg base 1 "is_int" (sp_is_int K c) [] := cal_is_int B D_is_int
  have C_is_count : Cal l.prog w K mg base 2 "is_count" (sp_is_count K c) [] := cal_is_count B D_is_count C_is_int
  have C_is_number : Cal l.prog w K mg base 2 "is_number" (sp_is_number K c) [] := cal_is_number B D_is_number C_is_int
  have C_as_pair : Cal l.prog w K mg base 1 "as_pair" (sp_as_pair K c) [] := cal_as_pair B D_as_pair
  have C_lowest : Cal l.prog w K mg base 2 "lowest" (sp_lowest K c) [] := cal_lowest B D_lowest C_as_pair T
  have C_is_less : Cal l.prog w K mg base 1 "is_less" (sp_is_less K c) [] := cal_is_less B D_is_less
  have C__int_text : Cal l.prog w K mg base 1 "_int_text" (sp__int_text K c) [] := cal__int_text B D__int_text  T
  have C_number_text : Cal l.prog w K mg base 2 "number_text" (sp_number_text K c) [] := cal_number_text B D_number_text C__int_text
  have C__is_offset : Cal l.prog w K mg base 3 "_is_offset" (sp__is_offset K c) [] := cal__is_offset B D__is_offset C_lowest C_is_number
  have C__plain_mark : Cal l.prog w K mg base 1 "_plain_mark" (sp__plain_mark K c) [] := cal__plain_mark B D__plain_mark
  have C__is_next_mark : Cal l.prog w K mg base 3 "_is_next_mark" (sp__is_next_mark K c) [] := cal__is_next_mark B D__is_next_mark C_lowest C_is_number C_is_less
  have C__lowest_head : Cal l.prog w K mg base 4 "_lowest_head" (sp__lowest_head K c) [] := cal__lowest_head B D__lowest_head C__is_next_mark C_lowest C_is_less C__plain_mark T
  have C_common_bottom : Cal l.prog w K mg base 1 "common_bottom" (sp_common_bottom K c) [] := cal_common_bottom B D_common_bottom  T
  obtain ⟨fm, fdm, Fm, mem⟩ := RK.mark
  obtain ⟨fi, fdi, Fi, Mki⟩ := RK.init
  obtain ⟨fs, fds, Fs, ms⟩ := RK.str
  obtain ⟨gh, fdh, h1, h2, Fh⟩ := EH.ini
  obtain ⟨go, fdo, o1, o2, Fo⟩ := EO.ini
  obtain ⟨M_mark, _⟩ : Met l.prog w K mg base 3 c "mark" (sp_Rule_mark K c) ∧ FnOk l.prog w K mg base CX0 3 fm fdm ["self", "number"] (sp_Rule_mark K c) := met_Rule_mark B T Fm mem C__plain_mark C_is_count
  have RH : Rais l.prog w K mg base 1 "InvalidHead" CH "index" := ⟨EH.oex, EH.xf, EH.no, EH.hm, gh, fdh, ["self", "index"], h1, h2, ini_InvalidHead Fh EH.oex EH.no, Fh.binds (fun _ _ _ _ _ _ us hl => match us, hl with | [_, _], _ => rfl)⟩
  have RO : Rais l.prog w K mg base 1 "InvalidOffset" CO "value" := ⟨EO.oex, EO.xf, EO.no, EO.hm, go, fdo, ["self", "value"], o1, o2, ini_InvalidOffset Fo EO.oex EO.no, Fo.binds (fun _ _ _ _ _ _ us hl => match us, hl with | [_, _], _ => rfl)⟩
  have CX := calX__lowest_head (P := l.prog) (w := w) (base := base) B D__lowest_head C__is_next_mark C_lowest C_is_less C__plain_mark T RH
  have MX : MakX l.prog w K mg base 7 "Rule" c (sp_Rule_newX K c CO CH) := makX_Rule B T Fi Mki RO C__is_offset C_lowest CX C_common_bottom M_mark
  have OS : OwnStr l.prog w K mg base 3 c (sp_Rule_str K c) := ⟨fs, fds, _, ok_Rule_str B T Fs C_number_text, ms.at_, ms.fn, Fs.binds (fun _ _ _ _ _ _ us hl => match us, hl with | [_], _ => rfl)⟩
  have C__law_tank : Cal l.prog w K mg base 1 "_law_tank" (sp__law_tank K c) [] := cal__law_tank B D__law_tank
  have C__law_tap : Cal l.prog w K mg base 1 "_law_tap" (sp__law_tap K c) [] := cal__law_tap B D__law_tap
  have C__law_any : Cal l.prog w K mg base 2 "_law_any" (sp__law_any K c) [] := cal__law_any B D__law_any C__law_tap
  obtain ⟨fR, fdR, FR, hmR⟩ := R.ex
  have C__law_right : CalG l.prog w K mg base 13 "_law_right" (sp__law_rightT K Pt) [] := calG__law_right B T FR hmR TB GT MX OS C__law_any
  exact ok_lawT B F0 C__law_tank C__law_right

end LW

set_option Elab.async false
set_option linter.all false
set_option maxRecDepth 100000
set_option maxHeartbeats 4000100
namespace LW
theorem ofK {K : PySem.W.Frag} {h : PySem.Heap} (X : K.In h) {B : PySem.W.Frag → Prop} (x : B K) : B K := x
end LW
open PySem.W PyProof.Rows PySem
set_option maxRecDepth 100100 in
set_option maxHeartbeats 0 in
theorem PySem.Challenge.cw_wholeshares_k02_rules_refused_holds : PySem.Challenge.rw_wholeshares_k02_rules_refused.Holds := by
  w_on; o_law; k_head
  (case hw => w_witness2)
  k_fill
  refine LW.law_walkT (l := PySem.Challenge.rw_wholeshares_k02_rules_refused) (n := 63) (k := 14) (x := "_law_script") (y := "_law_right") rfl (by decide) rfl ⟨rfl, by decide, by decide⟩ (fun w h Y => by first | exact PySem.W.kIn_of Y | exact PySem.W.km_in_of Y) ?own ?F
  case own => first | rfl | decide +kernel
  case F =>
    intro w mg fa h KX G XH hmg Y tab
    obtain ⟨cc, Pt, R⟩ := LW.ofK KX (B := fun K => ∃ cc Pt, LW.OwnT K mg h "_law_right" LW.s__law_right cc Pt) (by
      refine' LW.own_mkT KX G ?a ?l ?c ?k ?n tab
      (case a => first | k_is | rfl | decide +kernel)
      (case l => first | k_is | rfl | decide +kernel)
      (case c => first | k_is | rfl | decide +kernel)
      (case k => first | k_is | rfl | decide +kernel)
      (case n => first | k_is | rfl | decide +kernel))
    have B : LW.Bl mg := by
      constructor <;> exact PySem.W.mg_none_of KX G (by k_is)
    have D_is_int := LW.ofK KX (B := fun K => LW.OwnDef K mg "is_int" LW.s_is_int) (by
      refine' LW.own_mk KX G ?a ?l ?c ?k
      (case a => first | k_is | rfl | decide +kernel)
      (case l => first | k_is | rfl | decide +kernel)
      (case c => first | k_is | rfl | decide +kernel)
      (case k => first | k_is | rfl | decide +kernel))
    have D_is_count := LW.ofK KX (B := fun K => LW.OwnDef K mg "is_count" LW.s_is_count) (by
      refine' LW.own_mk KX G ?a ?l ?c ?k
      (case a => first | k_is | rfl | decide +kernel)
      (case l => first | k_is | rfl | decide +kernel)
      (case c => first | k_is | rfl | decide +kernel)
      (case k => first | k_is | rfl | decide +kernel))
    have D_is_number := LW.ofK KX (B := fun K => LW.OwnDef K mg "is_number" LW.s_is_number) (by
      refine' LW.own_mk KX G ?a ?l ?c ?k
      (case a => first | k_is | rfl | decide +kernel)
      (case l => first | k_is | rfl | decide +kernel)
      (case c => first | k_is | rfl | decide +kernel)
      (case k => first | k_is | rfl | decide +kernel))
    have D_as_pair := LW.ofK KX (B := fun K => LW.OwnDef K mg "as_pair" LW.s_as_pair) (by
      refine' LW.own_mk KX G ?a ?l ?c ?k
      (case a => first | k_is | rfl | decide +kernel)
      (case l => first | k_is | rfl | decide +kernel)
      (case c => first | k_is | rfl | decide +kernel)
      (case k => first | k_is | rfl | decide +kernel))
    have D_lowest := LW.ofK KX (B := fun K => LW.OwnDef K mg "lowest" LW.s_lowest) (by
      refine' LW.own_mk KX G ?a ?l ?c ?k
      (case a => first | k_is | rfl | decide +kernel)
      (case l => first | k_is | rfl | decide +kernel)
      (case c => first | k_is | rfl | decide +kernel)
      (case k => first | k_is | rfl | decide +kernel))
    have D_is_less := LW.ofK KX (B := fun K => LW.OwnDef K mg "is_less" LW.s_is_less) (by
      refine' LW.own_mk KX G ?a ?l ?c ?k
      (case a => first | k_is | rfl | decide +kernel)
      (case l => first | k_is | rfl | decide +kernel)
      (case c => first | k_is | rfl | decide +kernel)
      (case k => first | k_is | rfl | decide +kernel))
    have D__int_text := LW.ofK KX (B := fun K => LW.OwnDef K mg "_int_text" LW.s__int_text) (by
      refine' LW.own_mk KX G ?a ?l ?c ?k
      (case a => first | k_is | rfl | decide +kernel)
      (case l => first | k_is | rfl | decide +kernel)
      (case c => first | k_is | rfl | decide +kernel)
      (case k => first | k_is | rfl | decide +kernel))
    have D_number_text := LW.ofK KX (B := fun K => LW.OwnDef K mg "number_text" LW.s_number_text) (by
      refine' LW.own_mk KX G ?a ?l ?c ?k
      (case a => first | k_is | rfl | decide +kernel)
      (case l => first | k_is | rfl | decide +kernel)
      (case c => first | k_is | rfl | decide +kernel)
      (case k => first | k_is | rfl | decide +kernel))
    have D__is_offset := LW.ofK KX (B := fun K => LW.OwnDef K mg "_is_offset" LW.s__is_offset) (by
      refine' LW.own_mk KX G ?a ?l ?c ?k
      (case a => first | k_is | rfl | decide +kernel)
      (case l => first | k_is | rfl | decide +kernel)
      (case c => first | k_is | rfl | decide +kernel)
      (case k => first | k_is | rfl | decide +kernel))
    have D__plain_mark := LW.ofK KX (B := fun K => LW.OwnDef K mg "_plain_mark" LW.s__plain_mark) (by
      refine' LW.own_mk KX G ?a ?l ?c ?k
      (case a => first | k_is | rfl | decide +kernel)
      (case l => first | k_is | rfl | decide +kernel)
      (case c => first | k_is | rfl | decide +kernel)
      (case k => first | k_is | rfl | decide +kernel))
    have D__is_next_mark := LW.ofK KX (B := fun K => LW.OwnDef K mg "_is_next_mark" LW.s__is_next_mark) (by
      refine' LW.own_mk KX G ?a ?l ?c ?k
      (case a => first | k_is | rfl | decide +kernel)
      (case l => first | k_is | rfl | decide +kernel)
      (case c => first | k_is | rfl | decide +kernel)
      (case k => first | k_is | rfl | decide +kernel))
    have D__lowest_head := LW.ofK KX (B := fun K => LW.OwnDef K mg "_lowest_head" LW.s__lowest_head) (by
      refine' LW.own_mk KX G ?a ?l ?c ?k
      (case a => first | k_is | rfl | decide +kernel)
      (case l => first | k_is | rfl | decide +kernel)
      (case c => first | k_is | rfl | decide +kernel)
      (case k => first | k_is | rfl | decide +kernel))
    have D_common_bottom := LW.ofK KX (B := fun K => LW.OwnDef K mg "common_bottom" LW.s_common_bottom) (by
      refine' LW.own_mk KX G ?a ?l ?c ?k
      (case a => first | k_is | rfl | decide +kernel)
      (case l => first | k_is | rfl | decide +kernel)
      (case c => first | k_is | rfl | decide +kernel)
      (case k => first | k_is | rfl | decide +kernel))
    have D__law_tank := LW.ofK KX (B := fun K => LW.OwnDef K mg "_law_tank" LW.s__law_tank) (by
      refine' LW.own_mk KX G ?a ?l ?c ?k
      (case a => first | k_is | rfl | decide +kernel)
      (case l => first | k_is | rfl | decide +kernel)
      (case c => first | k_is | rfl | decide +kernel)
      (case k => first | k_is | rfl | decide +kernel))
    have D__law_tap := LW.ofK KX (B := fun K => LW.OwnDef K mg "_law_tap" LW.s__law_tap) (by
      refine' LW.own_mk KX G ?a ?l ?c ?k
      (case a => first | k_is | rfl | decide +kernel)
      (case l => first | k_is | rfl | decide +kernel)
      (case c => first | k_is | rfl | decide +kernel)
      (case k => first | k_is | rfl | decide +kernel))
    have D__law_any := LW.ofK KX (B := fun K => LW.OwnDef K mg "_law_any" LW.s__law_any) (by
      refine' LW.own_mk KX G ?a ?l ?c ?k
      (case a => first | k_is | rfl | decide +kernel)
      (case l => first | k_is | rfl | decide +kernel)
      (case c => first | k_is | rfl | decide +kernel)
      (case k => first | k_is | rfl | decide +kernel))
    have D__law_got := LW.ofK KX (B := fun K => LW.OwnDef K mg "_law_got" LW.s__law_got) (by
      refine' LW.own_mk KX G ?a ?l ?c ?k
      (case a => first | k_is | rfl | decide +kernel)
      (case l => first | k_is | rfl | decide +kernel)
      (case c => first | k_is | rfl | decide +kernel)
      (case k => first | k_is | rfl | decide +kernel))
    have D_law := LW.ofK KX (B := fun K => LW.OwnDef K mg "law" LW.s_law) (by
      refine' LW.own_mk KX G ?a ?l ?c ?k
      (case a => first | k_is | rfl | decide +kernel)
      (case l => first | k_is | rfl | decide +kernel)
      (case c => first | k_is | rfl | decide +kernel)
      (case k => first | k_is | rfl | decide +kernel))
    obtain ⟨c, T, RK⟩ := LW.ofK KX (B := fun K => ∃ c, LW.Tx K mg c ∧ LW.RuK K c) (by
      refine' ⟨_, ⟨⟨?pg, ?hd, ?po, ?sa⟩, ?nO, ?nH, ?nS, ?nU, ?nW, ?nX, PySem.W.mg_of KX G ?g, XH.1.drawn ("gcd", .fn "math.gcd") ?dr, XH.1.drawn ("lcm", .fn "math.lcm") ?dl, ?gB, ⟨_, PySem.W.mg_of KX G ?gD⟩, ⟨_, PySem.W.mg_of KX G ?gM⟩⟩, ⟨⟨_, _, L2.fun_mk ?l1 ?c1 ?k1, ⟨?m1, ?i1, ?k2⟩⟩, ⟨_, _, L2.fun_mk ?l3 ?c3 ?k3, ⟨?mk, ?in3, ?i3, ?kc⟩⟩, ⟨_, _, L2.fun_mk ?l4 ?c4 ?k4, ⟨?m4, ?i4, ?k5⟩⟩⟩⟩
      (case g => first | k_is | rfl | decide +kernel)
      (case pg => first | k_is | rfl | decide +kernel)
      (case hd => first | k_is | rfl | decide +kernel)
      (case po => first | k_is | rfl | decide +kernel)
      (case sa => first | k_is | rfl | decide +kernel)
      (case nO => first | k_is | rfl | decide +kernel)
      (case nH => first | k_is | rfl | decide +kernel)
      (case nS => first | k_is | rfl | decide +kernel)
      (case nU => first | k_is | rfl | decide +kernel)
      (case nW => first | k_is | rfl | decide +kernel)
      (case nX => first | k_is | rfl | decide +kernel)
      (case dr => exact List.Mem.head _)
      (case dl => exact List.Mem.tail _ (List.Mem.head _))
      (case gB => obtain ⟨v, e1, e2⟩ := XH.2.val _ (List.mem_singleton.mpr rfl); cases e2; exact ⟨_, e1⟩)
      (case gD => first | k_is | rfl | decide +kernel)
      (case gM => first | k_is | rfl | decide +kernel)
      (case m1 => first | k_is | rfl | decide +kernel)
      (case i1 => first | k_is | rfl | decide +kernel)
      (case k2 => first | k_is | rfl | decide +kernel)
      (case l1 => first | k_is | rfl | decide +kernel)
      (case c1 => first | k_is | rfl | decide +kernel)
      (case k1 => first | k_is | rfl | decide +kernel)
      (case in3 => first | k_is | rfl | decide +kernel)
      (case i3 => first | k_is | rfl | decide +kernel)
      (case mk => first | k_is | rfl | decide +kernel)
      (case kc => first | k_is | rfl | decide +kernel)
      (case l3 => first | k_is | rfl | decide +kernel)
      (case c3 => first | k_is | rfl | decide +kernel)
      (case k3 => first | k_is | rfl | decide +kernel)
      (case m4 => first | k_is | rfl | decide +kernel)
      (case i4 => first | k_is | rfl | decide +kernel)
      (case k5 => first | k_is | rfl | decide +kernel)
      (case l4 => first | k_is | rfl | decide +kernel)
      (case c4 => first | k_is | rfl | decide +kernel)
      (case k4 => first | k_is | rfl | decide +kernel))
    obtain ⟨CH, EH⟩ := LW.ofK KX (B := fun K => ∃ C, LW.ExK K mg "InvalidHead" C "index" LW.s_InvalidHead___init__ "InvalidHead.__init__") (by
      refine' ⟨_, ⟨⟨⟨_, _, _, _, _, _, _, _, _, _, _, _, _, _, _, ?xL, ?rv⟩, ?sa, ?ex, ?ty, ?kC⟩, ⟨?ga, ?gg, ?ex2, ?hd⟩, ?no, PySem.W.mg_of KX G ?g, ⟨_, _, ?ini, ?tf, L2.fun_mk ?l ?c ?k⟩⟩⟩
      (case g => first | k_is | rfl | decide +kernel)
      (case xL => first | k_is | rfl | decide +kernel)
      (case rv => first | k_is | rfl | decide +kernel)
      (case sa => first | k_is | rfl | decide +kernel)
      (case ex => first | k_is | rfl | decide +kernel)
      (case ty => first | k_is | rfl | decide +kernel)
      (case kC => first | k_is | rfl | decide +kernel)
      (case ga => first | k_is | rfl | decide +kernel)
      (case gg => first | k_is | rfl | decide +kernel)
      (case ex2 => first | k_is | rfl | decide +kernel)
      (case hd => first | k_is | rfl | decide +kernel)
      (case no => first | k_is | rfl | decide +kernel)
      (case ini => first | k_is | rfl | decide +kernel)
      (case tf => first | k_is | rfl | decide +kernel)
      (case l => first | k_is | rfl | decide +kernel)
      (case c => first | k_is | rfl | decide +kernel)
      (case k => first | k_is | rfl | decide +kernel))
    obtain ⟨CO, EO⟩ := LW.ofK KX (B := fun K => ∃ C, LW.ExK K mg "InvalidOffset" C "value" LW.s_InvalidOffset___init__ "InvalidOffset.__init__") (by
      refine' ⟨_, ⟨⟨⟨_, _, _, _, _, _, _, _, _, _, _, _, _, _, _, ?xL, ?rv⟩, ?sa, ?ex, ?ty, ?kC⟩, ⟨?ga, ?gg, ?ex2, ?hd⟩, ?no, PySem.W.mg_of KX G ?g, ⟨_, _, ?ini, ?tf, L2.fun_mk ?l ?c ?k⟩⟩⟩
      (case g => first | k_is | rfl | decide +kernel)
      (case xL => first | k_is | rfl | decide +kernel)
      (case rv => first | k_is | rfl | decide +kernel)
      (case sa => first | k_is | rfl | decide +kernel)
      (case ex => first | k_is | rfl | decide +kernel)
      (case ty => first | k_is | rfl | decide +kernel)
      (case kC => first | k_is | rfl | decide +kernel)
      (case ga => first | k_is | rfl | decide +kernel)
      (case gg => first | k_is | rfl | decide +kernel)
      (case ex2 => first | k_is | rfl | decide +kernel)
      (case hd => first | k_is | rfl | decide +kernel)
      (case no => first | k_is | rfl | decide +kernel)
      (case ini => first | k_is | rfl | decide +kernel)
      (case tf => first | k_is | rfl | decide +kernel)
      (case l => first | k_is | rfl | decide +kernel)
      (case c => first | k_is | rfl | decide +kernel)
      (case k => first | k_is | rfl | decide +kernel))
    obtain ⟨CH', CO', CI, GT⟩ := LW.ofK KX (B := fun K => ∃ CH CO CI, LW.GotT2 K mg CH CO CI) (by
      refine' ⟨_, _, _, ⟨⟨⟨?ga1, ?gg1, ?ex1, ?hd1⟩, ?no1, ⟨?cl1, ?gc1, ?gd1, ?sb1, ?ca1, ?sp1, ?tk1, ?mr1⟩, PySem.W.mg_of KX G ?g1, ?te1, ?kI1, ?kV1⟩, ⟨⟨?ga2, ?gg2, ?ex2, ?hd2⟩, ?no2, ⟨?cl2, ?gc2, ?gd2, ?sb2, ?ca2, ?sp2, ?tk2, ?mr2⟩, PySem.W.mg_of KX G ?g2, ?te2, ?kI2, ?kV2⟩, ?nt, PySem.W.mg_of KX G ?gI, PySem.W.mg_none_of KX G ?mV, D__law_got⟩⟩
      (case g1 => first | k_is | rfl | decide +kernel)
      (case g2 => first | k_is | rfl | decide +kernel)
      (case gI => first | k_is | rfl | decide +kernel)
      (case ga1 => first | k_is | rfl | decide +kernel)
      (case gg1 => first | k_is | rfl | decide +kernel)
      (case ex1 => first | k_is | rfl | decide +kernel)
      (case hd1 => first | k_is | rfl | decide +kernel)
      (case no1 => first | k_is | rfl | decide +kernel)
      (case cl1 => first | k_is | rfl | decide +kernel)
      (case gc1 => first | k_is | rfl | decide +kernel)
      (case gd1 => first | k_is | rfl | decide +kernel)
      (case sb1 => first | k_is | rfl | decide +kernel)
      (case ca1 => first | k_is | rfl | decide +kernel)
      (case sp1 => first | k_is | rfl | decide +kernel)
      (case tk1 => first | k_is | rfl | decide +kernel)
      (case mr1 => first | k_is | rfl | decide +kernel)
      (case te1 => first | k_is | rfl | decide +kernel)
      (case kI1 => first | k_is | rfl | decide +kernel)
      (case kV1 => first | k_is | rfl | decide +kernel)
      (case ga2 => first | k_is | rfl | decide +kernel)
      (case gg2 => first | k_is | rfl | decide +kernel)
      (case ex2 => first | k_is | rfl | decide +kernel)
      (case hd2 => first | k_is | rfl | decide +kernel)
      (case no2 => first | k_is | rfl | decide +kernel)
      (case cl2 => first | k_is | rfl | decide +kernel)
      (case gc2 => first | k_is | rfl | decide +kernel)
      (case gd2 => first | k_is | rfl | decide +kernel)
      (case sb2 => first | k_is | rfl | decide +kernel)
      (case ca2 => first | k_is | rfl | decide +kernel)
      (case sp2 => first | k_is | rfl | decide +kernel)
      (case tk2 => first | k_is | rfl | decide +kernel)
      (case mr2 => first | k_is | rfl | decide +kernel)
      (case te2 => first | k_is | rfl | decide +kernel)
      (case kI2 => first | k_is | rfl | decide +kernel)
      (case kV2 => first | k_is | rfl | decide +kernel)
      (case nt => first | k_is | rfl | decide +kernel)
      (case mV => first | k_is | rfl | decide +kernel))
    have eH : CH' = CH := by
      have e := GT.gh.gC.symm.trans EH.hm
      cases e; rfl
    have eO : CO' = CO := by
      have e := GT.go.gC.symm.trans EO.hm
      cases e; rfl
    subst eH
    subst eO
    exact LW.finishT KX G hmg B T RK EH EO GT R D_is_int D_is_count D_is_number D_as_pair D_lowest D_is_less D__int_text D_number_text D__is_offset D__plain_mark D__is_next_mark D__lowest_head D_common_bottom D__law_tank D__law_tap D__law_any D_law
