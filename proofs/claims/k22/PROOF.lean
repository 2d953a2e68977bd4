import PyProof.Rows.All
import Wide.All
import OpenK.AllK
import Wide.FinOn
import PySem.Challenge.RW_wholeshares_k22_whole_rules_written_othe
import HandS.Gcd
import HandS.Wide
import HandS.ForMost
import HandS.ForExc
import HandS.Codes
import HandS.WideBits
import HandS.RaiseMore
import HandS.StrMore
import HandS.FStr
import HandS.IsInst
import HandS.Flow
import HandS.Style
import HandS.SortInts
import PyProof.ReprRoads
import KE.GoesEnum
import KE.GoesMore
import HandS.Iter
import HandS.Star
import HandS.ClsMeth
import KE.KStar
import PyProof.ReprReads
import PyProof.ReprLoop
import KE.DataMinMax
import KE.GoesEnumKw
import HandS.SortKw
import HandS.OwnEq
import HandS.More
import PyProof.InstEq
import HandS.TupLe
set_option Elab.async false
set_option linter.all false
set_option maxRecDepth 100000
set_option exponentiation.threshold 17000
/-! math.lcm of two ints of less than 8000 bits. -/
namespace LW
open L2 PySem.Spec PyProof.Rows PySem
theorem lcm_le (m n : Nat) : m.lcm n ≤ m * n := by
  unfold Nat.lcm
  exact Nat.div_le_self _ _
def rLcm : List V → Hp → VK → Prop := fun vs H Q => ∃ a b : Int, vs = [.int a, .int b] ∧ a.natAbs < 2 ^ 8000 ∧ b.natAbs < 2 ^ 8000 ∧ Q (.int ((Nat.lcm a.natAbs b.natAbs : Nat) : Int)) H
theorem cr_lcm {X : Cx} : CallR X (.builtin "math.lcm") rLcm := by
  intro pins s σ H vs
        us Q I r h
  obtain ⟨a, b, rfl, ha, hb, q⟩ := h
  obtain ⟨t, u, rfl⟩ :=
        Vals.int2 r
  have e1 : Nat.lcm 1 a.natAbs = a.natAbs := by simp [Nat.lcm]
  have l1 : (max 1 a.natAbs).log2 ≤ 7999 := PySem.W.mg_log (by
    have : 1 < 2 ^ (7999 + 1) := Nat.one_lt_two_pow (by decide)
    have e : 7999 + 1 = 8000 := rfl
    rw [e] at this ⊢
    exact Nat.max_lt.mpr ⟨this, ha⟩)
  have l2 : (max a.natAbs b.natAbs).log2 ≤ 7999 := PySem.W.mg_log (by
    have e : 7999 + 1 = 8000 := rfl
    rw [e]
    exact Nat.max_lt.mpr ⟨ha, hb⟩)
  have sz : ((((Nat.lcm 1 a.natAbs).lcm b.natAbs : Nat) : Int)).natAbs.log2 < bitsLine := by
    rw [e1, Int.natAbs_natCast]
    have z : a.natAbs.lcm b.natAbs < 2 ^ (15999 + 1) := by
      have z1 := Nat.mul_lt_mul'' ha hb
      rw [← Nat.pow_add] at z1
      exact Nat.lt_of_le_of_lt (lcm_le _ _) z1
    have := PySem.W.mg_log z
    have e : bitsLine = 134217728
          := by decide
    rw [e]
    omega
  refine PySem.call_function_meets PySem.W.MGF.kind_lcm PySem.W.MGF.plain_lcm PySem.W.MGF.entry_lcm (PySem.W.MGF.args_lcm _ _) (PySem.W.mg_run_lcm a t b u (by omega) (by omega) sz).meets ?_
  rw [e1]
  exact ⟨.int _, H, I.tok _, ⟨_, rfl⟩, q⟩
end LW

set_option Elab.async false
set_option linter.all false
set_option maxRecDepth 100000
set_option maxHeartbeats 4000100
/-! views of the abstract heap, data in them -/
namespace LW
open L2 PySem.Spec PyProof.Rows PySem

/-- H without what stands at the addresses of A -/
def hv (A : List Addr) (H : Hp) : Hp := fun b => if b ∈ A then none else H b
theorem hv_in {A : List Addr} {H : Hp} {b : Addr} (h : b ∈ A) : hv A H b = none := if_pos h
theorem hv_out {A : List Addr} {H : Hp} {b : Addr} (h : b ∉ A) : hv A H b = H b := if_neg h
theorem hv_nil {H : Hp} : hv [] H = H := by
  funext b
  exact hv_out (by simp)
theorem hv_le {A : List Addr} {H : Hp} : Same (hv A H) H := fun b o h => by
  by_cases hb : b ∈ A
  · rw [hv_in hb] at h; cases h
  · rw [hv_out hb] at h; exact h
theorem hv_cons_le {A : List Addr} {a : Addr} {H : Hp} : Same (hv (a :: A) H) (hv A H) := fun b o h => by
  by_cases hb : b ∈ a :: A
  · rw [hv_in hb] at h; cases h
  · rw [hv_out hb] at h
    rw [hv_out fun z => hb (List.mem_cons_of_mem _ z)]
    exact h
/-- every address of A is held -/
def Hd (A : List Addr) (H : Hp) : Prop := ∀ a ∈ A, H a ≠ none
theorem Hd.nil {H : Hp} : Hd [] H := fun _ h => by cases h
theorem Hd.cons {A : List Addr} {H : Hp} {a : Addr} {o : HO} (e : H a = some o) (h : Hd A H) : Hd (a :: A) H := fun b hb => by
  rcases List.mem_cons.mp
        hb with z | z
  · subst z; rw [e]; exact fun z => by cases z
  · exact h b z
theorem Hd.out {A : List Addr} {H : Hp} {p : Addr} (h : Hd A H) (n : H p = none) : p ∉ A := fun z => h p z n

/-- all that stood outside A stands as before, and A is still held -/
structure Go (A : List Addr) (H H' : Hp) : Prop where
  keep : ∀ b o, b ∉ A → H b = some o → H' b = some o
  held : Hd A H → Hd A H'
theorem Go.refl {A : List Addr} {H : Hp} : Go A H H := ⟨fun _ _ _ h => h, fun h => h⟩
theorem Go.trans {A : List Addr} {H H1 H2 : Hp} (a : Go A H H1) (b : Go A H1 H2) : Go A H H2 := ⟨fun c o n h => b.keep c o n (a.keep c o n h), fun h => b.held (a.held h)⟩
theorem Go.of {A : List Addr} {H H' : Hp} (s : Same H H') : Go A H H' := ⟨fun b o _ h => s b o h, fun h a ha z => by
  cases q : H a with
  | none => exact h a ha q
  | some o => rw [s a o q] at z; cases z⟩
theorem Go.same {H H' : Hp} (s : Go [] H H') : Same H H' := fun b o h => s.keep b o (by simp) h
theorem Go.hv {A : List Addr} {H H' : Hp} (s : Go A H H') : Same (LW.hv A H) (LW.hv A H') := fun b o h => by
  by_cases hb : b ∈ A
  · rw [hv_in hb] at h; cases h
  · rw [hv_out hb] at h ⊢; exact s.keep b o hb h
theorem Go.free {A : List Addr} {H H' : Hp} (s : Go A H H') (h : Hd A H) {p : Addr} (n : H' p = none) : H p = none := by
  cases q : H p with
  | none => rfl
  | some o =>
    by_cases hp : p ∈ A
    · exact absurd n (s.held h p hp)
    · rw [s.keep p o hp q] at n; cases n
/-- a new thing -/
theorem same_new {H : Hp} {p : Addr} {o : HO} (n : H p = none) : Same H (upd H p o) := fun b u e => by
  rw [upd_ne (ne_of_none e n)]; exact e
theorem Go.new {A : List Addr} {H : Hp} {p : Addr} {o : HO} (n : H p = none) : Go A H (upd H p o) := .of (same_new n)
/-- a change within A -/
theorem Go.chg {A : List Addr} {H : Hp} {p : Addr} {o : HO} (h : p ∈ A) : Go A H (upd H p o) :=
  ⟨fun b u n e => by rw [upd_ne fun z => n (by rw [z]; exact h)]; exact e, fun hd a ha z => by
    by_cases e : a = p
    · subst e; rw [upd_same] at z; cases z
    · rw [upd_ne e] at z; exact hd a ha z⟩
/-- fewer hidden -/
theorem Go.drop {A : List Addr} {a : Addr} {H H' : Hp} (s : Go (a :: A) H H') (h : Hd (a :: A) H) (n : ∀ o, H a = some o → H' a = some o) : Go A H H' :=
  ⟨fun b o hb e => by
    by_cases z : b = a
    · subst z; exact n o e
    · exact s.keep b o (fun y => (List.mem_cons.mp y).elim z hb) e, fun _ b hb => s.held h b (List.mem_cons_of_mem _ hb)⟩
/-- a local thing at a, new since H, is forgotten -/
theorem Go.local {A : List Addr} {a : Addr} {H H1 H2 : Hp} (n : H a = none) (s1 : Go A H H1) (s : Go (a :: A) H1 H2) (hd : Hd (a :: A) H1) : Go A H H2 :=
  ⟨fun b o hb e => s.keep b o (fun y => by
    rcases List.mem_cons.mp y with y | y
    · subst y; rw [n] at e; cases e
    · exact hb y) (s1.keep b o hb e), fun _ b hb => s.held hd b (List.mem_cons_of_mem _ hb)⟩

section
variable {K : PySem.W.Frag} {H H' : Hp}
theorem seqT_same (e : Same H H') {a : Addr} {xs : List V} (h : SqT K H a xs) : SqT K H' a xs := by
  rcases h with (h | ⟨o,
        h⟩) | h
  · exact .inl (.inl (e _ _ h))
  · exact .inl (.inr ⟨o,
        e _ _ h⟩)
  · exact .inr h
end
/-- v is the data d: None, bools, ints, texts, lists, tuples, and the empty dict -/
inductive D (K : PySem.W.Frag) (H : Hp) : V → PyData → Prop
  | non : D K H .non .none
  | bl (b : Bool) : D K H (.bl b) (.bool b)
  | int (i : Int) : D K H (.int i) (.int i)
  | str (x : Str) : D K H (.str x) (.str x)
  | lst {a : Addr} {xs : List V} {ds : List PyData} (h : SqL K H a xs) (len : xs.length = ds.length) (all : ∀ (i : Nat) (v : V) (d : PyData), xs[i]? = some v → ds[i]? = some d → D K H v d) : D K H (.ref a) (.list ds)
  | tup {a : Addr} {xs : List V} {ds : List PyData} (h : SqT K H a xs) (len : xs.length = ds.length) (all : ∀ (i : Nat) (v : V) (d : PyData), xs[i]? = some v → ds[i]? = some d → D K H v d) : D K H (.ref a) (.tuple ds)
  | dct {a : Addr} (h : H a = some (.dK [])) (ne : a ≠ sysModules) : D K H (.ref a) (.dict [])
/-- .. of each -/
structure DAll (K : PySem.W.Frag) (H : Hp) (xs : List V) (ds : List PyData) : Prop where
  len : xs.length = ds.length
  all : ∀ (i : Nat) (v : V) (d : PyData), xs[i]? = some v → ds[i]? = some d → D K H v d
section
variable {K : PySem.W.Frag} {H H' : Hp}
theorem DAll.nil : DAll K H [] [] := ⟨rfl, fun i v d h => by simp at h⟩
theorem DAll.cons {v : V} {d : PyData} {vs : List V} {ds : List PyData} (h : D K H v d) (r : DAll K H vs ds) : DAll K H (v :: vs) (d :: ds) :=
  ⟨by rw [List.length_cons, List.length_cons, r.len], fun i w e h1 h2 => by
    cases i with
    | zero =>
      have e1 : v = w := Option.some.inj h1
      have e2 : d = e := Option.some.inj h2
      rw [← e1, ← e2]
      exact h
    | succ i => exact r.all i w e h1 h2⟩
theorem D.lst' {a : Addr} {xs : List V} {ds : List PyData} (h : SqL K H a xs) (r : DAll K H xs ds) : D K H (.ref a) (.list ds) := .lst h r.len r.all
theorem D.tup' {a : Addr} {xs : List V} {ds : List PyData} (h : SqT K H a xs) (r : DAll K H xs ds) : D K H (.ref a) (.tuple ds) := .tup h r.len r.all
theorem D.same (e : Same H H') {v : V} {d : PyData} (h : D K H v d) : D K H' v d := by
  induction h with
  | non => exact .non
  | bl b => exact .bl b
  | int i => exact .int i
  | str x => exact .str x
  | lst h len all ih => exact .lst (e.seq h) len ih
  | tup h len all ih => exact .tup (seqT_same e h) len ih
  | dct h ne => exact .dct (e _ _ h) ne
theorem DAll.same (e : Same H H') {vs : List V} {ds : List PyData} (h : DAll K H vs ds) : DAll K H' vs ds := ⟨h.len, fun i v d h1 h2 => D.same e (h.all i v d h1 h2)⟩
theorem hasDict_get {d : PyData} : ∀ {ds : List PyData} {i : Nat}, PyData.hasDictAll ds = false → ds[i]? = some d → d.hasDict = false
  | [], _, _, h => by simp at h
  | c :: ds, 0, q, h => by
    have e : c = d := Option.some.inj h
    subst e
    rw [PyData.hasDictAll, Bool.or_eq_false_iff] at q
    exact q.1
  | c :: ds, i + 1, q, h => by
    rw [PyData.hasDictAll, Bool.or_eq_false_iff] at q
    exact hasDict_get (i := i) q.2 h
theorem dpAll_of : ∀ {xs : List V} {ds : List PyData}, xs.length = ds.length → (∀ (i : Nat) (v : V) (d : PyData), xs[i]? = some v → ds[i]? = some d → Dp K H v d) → DpAll K H xs ds
  | [], [], _, _ => .nil
  | [], d :: ds, h, _ => by simp at h
  | v :: xs, [], h, _ => by simp at h
  | v :: xs, d :: ds, h, q => .cons (q 0 v d rfl rfl) (dpAll_of (by simpa using h) fun i w e h1 h2 => q (i + 1) w e h1 h2)
theorem D.dp {v : V} {d : PyData} (h : D K H v d) : d.hasDict = false → Dp K H v d := by
  induction h with
  | non => exact fun _ => .non
  | bl b => exact fun _ => .bl b
  | int i => exact fun _ => .int i
  | str x => exact fun _ => .str x
  | lst h len all ih => exact fun z => .lst h (dpAll_of len fun i v d h1 h2 => ih i v d h1 h2 (hasDict_get (by simpa [PyData.hasDict] using z) h2))
  | tup h len all ih => exact fun z => .tup h (dpAll_of len fun i v d h1 h2 => ih i v d h1 h2 (hasDict_get (by simpa [PyData.hasDict] using z) h2))
  | dct h ne => exact fun z => by simp [PyData.hasDict] at z
end
section
variable {X : Cx} {pins : List (Addr × Obj)} {σ :
      L2.St} {H : Hp} {s : Shared}
theorem readsAll_of {h : Heap} {P : List Addr → Prop} (p0 : P []) (pa : ∀ a b, P a → P b → P (a ++ b)) : ∀ {us : List Value} {ds : List PyData}, us.length = ds.length → (∀ (i : Nat) (u : Value) (d : PyData), us[i]? = some u → ds[i]? = some d → ∃ as, Reads h u d as ∧ P as) → ∃ as, ReadsAll h us ds as ∧ P as
  | [], [], _, _ => ⟨_, .nil, p0⟩
  | [], d :: ds, h, _ => by simp at h
  | v :: xs, [], h, _ => by simp at h
  | v :: xs, d :: ds, h, q => by
    obtain ⟨as, r1, h1⟩ := q 0 v d rfl rfl
    obtain ⟨bs, r2, h2⟩ := readsAll_of p0 pa (us := xs) (ds := ds) (by simpa using h) fun i w e h1 h2 => q (i + 1) w e h1 h2
    exact ⟨_, .cons r1 r2, pa _ _ h1 h2⟩
theorem vals_get' : ∀ {xs : List V} {us : List Value} {i : Nat} {u : Value}, Vals xs us → us[i]? = some u → ∃ x, xs[i]? = some x ∧ RelV x u
  | _, _, _, _, .nil, e =>
        by simp at e
  | _, _, 0, _, .cons r _, e => by
        simp at e; subst e; exact ⟨_, rfl, r⟩
  | _, _, i + 1, x, .cons
        _ t, e => by
    obtain ⟨u, h1, h2⟩ := vals_get' (i := i) (u := x) t (by simpa using e)
    exact ⟨u, by
          simpa using h1, h2⟩
/-- the model's own reading of data -/
theorem D.reads (I : Inv X pins σ H s) {v : V} {d : PyData} (h : D X.K H v d) : ∀ u, RelV v u → ∃ as, Reads s.heap u d as := by
  induction h with
  | non => intro u r; cases r; exact ⟨_, .none⟩
  | bl b => intro u r; cases r; exact ⟨_, .bool b⟩
  | int i => intro u r; obtain ⟨t, rfl⟩ := r; exact ⟨_, .int i t⟩
  | str x => intro u r; obtain ⟨t, rfl⟩ := r; exact ⟨_, .str x t⟩
  | lst h len all ih =>
    intro u r
    cases r
    obtain ⟨its, rv, ⟨o, n, ho, hc, _, hd⟩, _⟩ := I.list h
    obtain ⟨as, hr, _⟩ := readsAll_of (P := fun _ => True) (h := s.heap) (us := its) trivial (fun _ _ _ _ => trivial) (by rw [← rv.length, len]) fun i u d h1 h2 => by
      obtain ⟨x, e, rx⟩ := vals_get' rv h1
      obtain ⟨as, q⟩ := ih i x d e h2 u rx
      exact ⟨as, q, trivial⟩
    exact ⟨_, .list ho hc hd hr⟩
  | tup h len all ih =>
    intro u r
    cases r
    obtain ⟨its, rv, ⟨o, ho, hc, n, hd⟩, _⟩ := I.tuple h
    obtain ⟨as, hr, _⟩ := readsAll_of (P := fun _ => True) (h := s.heap) (us := its) trivial (fun _ _ _ _ => trivial) (by rw [← rv.length, len]) fun i u d h1 h2 => by
      obtain ⟨x, e, rx⟩ := vals_get' rv h1
      obtain ⟨as, q⟩ := ih i x d e h2 u rx
      exact ⟨as, q, trivial⟩
    exact ⟨_, .tuple ho hc hd hr⟩
  | dct h ne =>
    intro u r
    cases r
    obtain ⟨_, _, vs, kv, o, es, ep, ho, ⟨hc, _, _⟩, hd, _, prs, _⟩ := I.hok _ _ h
    cases kv
    have e0 : es.toList = [] := by
      cases q : es.toList with
      | nil => rfl
      | cons x r => rw [q] at prs; cases prs
    refine ⟨_, Reads.dict ho hc hd (as := []) (bs := []) ?_ ?_⟩
    · rw [e0]; exact .nil
    · rw [e0]; exact .nil
end

/-- v is the data d, seen without A -/
abbrev Is (K : PySem.W.Frag) (A : List Addr) (H : Hp) (v : V) (d : PyData) : Prop := D K (hv A H) v d
abbrev Iss (K : PySem.W.Frag) (A : List Addr) (H : Hp) (vs : List V) (ds : List PyData) : Prop := DAll K (hv A H) vs ds
section
variable {K : PySem.W.Frag} {A : List Addr} {H H' : Hp} {v : V} {vs : List V} {d : PyData} {ds : List PyData} {a p : Addr}
theorem Is.mono (s : Go A H H') (h : Is K A H v d) : Is K A H' v d := D.same s.hv h
theorem Iss.mono (s : Go A H H') (h : Iss K A H vs ds) : Iss K A H' vs ds := DAll.same s.hv h
theorem Is.full (h : Is K A H v d) : D K H v d := D.same hv_le h
theorem Iss.full (h : Iss K A H vs ds) : DAll K H vs ds := DAll.same hv_le h
theorem Is.more (n : H a = none) (h : Is K A H v d) : Is K (a :: A) H v d := by
  refine D.same (fun b o e => ?_) h
  by_cases hb : b ∈ A
  · rw [hv_in hb] at e; cases e
  · rw [hv_out hb] at e
    rw [hv_out fun z => by
      rcases List.mem_cons.mp
            z with z | z
      · subst z; rw [n] at e; cases e
      · exact hb z]
    exact e
theorem Is.less (h : Is K (a :: A) H v d) : Is K A H v d := D.same hv_cons_le h
theorem Iss.less (h : Iss K (a :: A) H vs ds) : Iss K A H vs ds := DAll.same hv_cons_le h
theorem is_int {i : Int} (h : Is K A H v (.int i)) : v = .int i := by cases h; rfl
theorem is_bl {b : Bool} (h : Is K A H v (.bool b)) : v = .bl b := by cases h; rfl
theorem is_str {x : Str} (h : Is K A H v (.str x)) : v = .str x := by cases h; rfl
theorem is_non (h : Is K A H v .none) : v = .non := by cases h; rfl
theorem is_tup (h : Is K A H v (.tuple ds)) : ∃ a vs, v = .ref a ∧ SqT K (hv A H) a vs ∧ Iss K A H vs ds := by
  cases h with
  | tup h l a => exact ⟨_, _, rfl, h, l, a⟩
theorem is_lst (h : Is K A H v (.list ds)) : ∃ a vs, v = .ref a ∧ SqL K (hv A H) a vs ∧ Iss K A H vs ds := by
  cases h with
  | lst h l a => exact ⟨_, _, rfl, h, l, a⟩
theorem iss_nil (h : Iss K A H vs []) : vs = [] := List.length_eq_zero_iff.mp h.len
theorem iss_cons (h : Iss K A H vs (d :: ds)) : ∃ v ws, vs = v :: ws ∧ Is K A H v d ∧ Iss K A H ws ds := by
  obtain ⟨l, q⟩ := h
  cases vs with
  | nil => simp at l
  | cons v ws => exact ⟨v, ws, rfl, q 0 v d rfl rfl, by simpa using l, fun i w e h1 h2 => q (i + 1) w e h1 h2⟩
theorem iss_len (h : Iss K A H vs ds) : vs.length = ds.length := by
  induction ds generalizing vs with
  | nil => rw [iss_nil h]; rfl
  | cons d ds ih =>
    obtain ⟨v, ws, rfl, _, r⟩ := iss_cons h
    rw [List.length_cons, List.length_cons, ih r]
theorem iss_get (h : Iss K A H vs ds) {i : Nat} (e : ds[i]? = some d) : ∃ v, vs[i]? = some v ∧ Is K A H v d := by
  induction ds generalizing vs i with
  | nil => simp at e
  | cons c ds ih =>
    obtain ⟨v, ws, rfl, q, r⟩ := iss_cons h
    cases i with
    | zero =>
      have e' : c = d := Option.some.inj e
      subst e'
      exact ⟨v, rfl, q⟩
    | succ i => exact ih r e
theorem iss_get' (h : Iss K A H vs ds) {i : Nat} (e : vs[i]? = some v) : ∃ d, ds[i]? = some d ∧ Is K A H v d := by
  have hi : i < vs.length := (List.getElem?_eq_some_iff.mp e).1
  rw [iss_len h] at hi
  obtain ⟨w, e2, q⟩ := iss_get h (List.getElem?_eq_getElem hi)
  rw [e] at e2
  cases e2
  exact ⟨_, List.getElem?_eq_getElem hi, q⟩
theorem iss_app {ws : List V} {es : List PyData} (h : Iss K A H vs ds) (r : Iss K A H ws es) : Iss K A H (vs ++ ws) (ds ++ es) := by
  induction ds generalizing vs with
  | nil => rw [iss_nil h]; exact r
  | cons c ds ih =>
    obtain ⟨v, vs', rfl, q, r'⟩ := iss_cons h
    exact DAll.cons q (ih r')
theorem iss_take {n : Nat} (h : Iss K A H vs ds) : Iss K A H (vs.take n) (ds.take n) := by
  induction ds generalizing vs n with
  | nil => rw [iss_nil h, List.take_nil, List.take_nil]; exact DAll.nil
  | cons c ds ih =>
    obtain ⟨v, vs', rfl, q, r'⟩ := iss_cons h
    cases n with
    | zero => exact DAll.nil
    | succ n => exact DAll.cons q (ih r')
theorem iss_drop {n : Nat} (h : Iss K A H vs ds) : Iss K A H (vs.drop n) (ds.drop n) := by
  induction ds generalizing vs n with
  | nil => rw [iss_nil h, List.drop_nil, List.drop_nil]; exact DAll.nil
  | cons c ds ih =>
    obtain ⟨v, vs', rfl, q, r'⟩ := iss_cons h
    cases n with
    | zero => exact DAll.cons q r'
    | succ n => exact ih r'
theorem iss_ints : ∀ ns : List Int, Iss K A H (ns.map V.int) (ns.map PyData.int)
  | [] => DAll.nil
  | n :: ns => DAll.cons (.int n) (iss_ints ns)
theorem sqT_full (h : SqT K (hv A H) a vs) : SqT K H a vs := seqT_same hv_le h
theorem sqL_full (h : SqL K (hv A H) a vs) : SqL K H a vs := Same.seq hv_le h
theorem is_new_tup (hd : Hd A H) (n : H p = none) (h : Iss K A H vs ds) : Is K A (upd H p (.tup vs)) (.ref p) (.tuple ds) :=
  .tup' (.inl (.inl (by rw [hv_out (hd.out n)]; exact upd_same))) (Iss.mono (.new n) h)
theorem is_new_lst (hd : Hd A H) (n : H p = none) (h : Iss K A H vs ds) : Is K A (upd H p (.lst vs)) (.ref p) (.list ds) :=
  .lst' (.inl (.inl (by rw [hv_out (hd.out n)]; exact upd_same))) (Iss.mono (.new n) h)
/-- a list of the def's own at l, let go -/
theorem is_own_lst {l : Addr} (e : H l = some (.lst vs)) (hl : l ∉ A) (h : Iss K (l :: A) H vs ds) : Is K A H (.ref l) (.list ds) :=
  .lst' (.inl (.inl (by rw [hv_out hl]; exact e))) (Iss.less h)
theorem hd_new (hd : Hd A H) (n : H p = none) {o : HO} : Hd A (upd H p o) := (Go.new n).held hd
end
end LW

set_option Elab.async false
set_option linter.all false
set_option maxRecDepth 100000
set_option maxHeartbeats 4000100
/-! defs that run where nothing is being shown (no repr is under way) -/
namespace LW
open L2 PySem.Spec PyProof.Rows PySem

/-- a def's promise, where no repr is under way -/
structure FnG (P : Program) (w : World) (K : PySem.W.Frag) (mg : Str → Option Value) (base : Heap) (CX : CXT) (k : Nat) (f : Addr) (fd : FuncData) (ps : List Str) (sp : Sp) : Prop where
  args : ∀ vs H Q E, sp vs H Q E → vs.length = ps.length
  runs : ∀ (A : Around) (outer : List Env) (s : Shared) (H : Hp) (given : Args) (us : List Value) (vs : List V) (Q : VK) (E : XK), Room k A → A.guards = some [] →
    Env0 P w K mg base A outer s H → BindsTo s fd given (ps.zip us) → Vals vs us → sp vs H Q E →
    codeAny (model P w) A (.call (.ref f) given) (CR CX outer P w H s Q E) s

theorem FnG.of {P : Program} {w : World} {K : PySem.W.Frag} {mg : Str → Option Value} {base : Heap} {CX : CXT} {k : Nat} {f : Addr} {fd : FuncData} {ps : List Str} {sp : Sp}
    (F : FnOk P w K mg base CX k f fd ps sp) : FnG P w K mg base CX k f fd ps sp :=
  ⟨F.len, fun A outer s H given us vs Q E hr _ e0 hb hv hs => F.run A outer s H given us vs Q E hr e0 hb hv hs⟩

section
variable {P : Program} {w : World} {K : PySem.W.Frag} {mg : Str
      → Option Value} {base : Heap}
/-- from the body -/
theorem fnG_of {CX : CXT} {k : Nat} {f : Addr} {name qual : Str} {params : Arguments} {body : List Stmt} {scope : Scope} {dV kV doc pm cdv ct oc : Value} {an od : Option Addr}
    {osl : Array (Option Value)} {N ps :
          List Str} {sp : Sp}
    (lk : K.lookup f = some ⟨oc, od, .func (PySem.W.fnOf name qual params body scope dV kV doc pm an cdv ct), osl⟩)
    (hcode : PySem.W.codeIn K cdv qual = true) (S : FnScope N ps scope)
    (lens : ∀ vs H Q E, sp vs H Q E → vs.length = ps.length)
    (inner : ∀ (A : Around) (outer : List Env) (s : Shared) (H : Hp) (vs : List V) (Q : VK) (E : XK), Room k (A.deeper (envOfC qual scope s.heap.objs.size f cdv)) → A.guards = some [] → sp vs H Q E →
      ∃ t, PSs (cxOf CX P w K mg base N qual scope f cdv A outer s H E) body t ∧
        t { nx := fun _ H' => Q .non H', rt := Q } (start N vs) H) :
    FnG P w K mg base CX (k + 1) f (PySem.W.fnOf name qual params body scope dV kV doc pm an cdv ct) ps sp := by
  refine ⟨lens, ?_⟩
  intro A outer s H given us vs Q E room quiet e0 hbind rel want
  have same_len := lens _ _ _ _ want
  have KS : K.In s.heap := e0.mod.kin.keeps (fun b o e => (e0.bs b o e).1)
  have NL : s.heap.NoLimit := e0.mod.nolimit.keeps (fun b o e => (e0.bs b o e).1)
  have kinds : ∀ y ∈ ps.zip us, scope.names.lookup y.1 = some .local ∨
      (scope.names.lookup y.1 = some .cell ∧ ((cellsFrom (s.heap.objs.size + 1) scope.names []).lookup y.1).isSome = true) := by
    rintro ⟨n, v⟩ hy
    cases S.par n (List.of_mem_zip hy).1 with
    | inl q => exact Or.inl q
    | inr q => exact Or.inr ⟨q, PySem.W.cellsFrom_some _ _ _ (Or.inl q)⟩
  refine codeAny_call_function room.depth (KS _ _ lk) rfl S.co S.gen rfl (PySem.W.codeRec_of KS hcode) (hbind _ _ _ _ ?_)
  refine wpAny_newFunctionEnv_cells S.kind kinds ?_
  intro env hE s1 inn
  subst hE
  refine ⟨NL.keeps inn.toInCall.keep, ?_⟩
  refine codeAny_func ?_
  obtain ⟨t, der, rd⟩ := inner A outer s H vs Q E (room.deeper _) quiet want
  have I0 : Inv (cxOf CX P w K mg base N qual scope f cdv A outer s H E) [] (start N vs) H s1 := inv_start S room.hd e0 same_len rel inn
  refine wpAny_mono (der.run [] s1 (start N vs) H _ I0 rd) ?_ (fun e s' hs => hs)
  intro fl s' hs
  have out : ∀ {σ' : L2.St} {H' : Hp} {v : V} {u : Value}, Inv (cxOf CX P w K mg base N qual scope f cdv A outer s H E) [] σ' H' s' → RelV v u → Q v H' → CE outer P w H s Q u s' := by
    intro σ' H' v u J rv q
    exact ⟨v, H', J.os, J.bare, J.base, J.hok, rv, q⟩
  match fl, hs with
  | .ret u, ⟨v, σ', H', J, rv, q⟩ => exact out J rv q
  | .next, ⟨σ', H', J, q⟩ => exact out (v := V.non) (u := Value.none) J rfl q
  | .brk, ⟨_, _, _, q⟩ => exact q.elim
  | .cont, ⟨_, _, _, q⟩ => exact q.elim
theorem Fun_okG {x qual : Str} {st : Stmt} {f : Addr} {fd : FuncData} {N ps : List Str} {k : Nat} {sp : Sp} (F : Fun K x qual st f fd) (S : FnScope N ps (defScope st)) (lens : ∀ vs H Q E, sp vs H Q E → vs.length = ps.length)
    (inner : ∀ (cdv : Value) (A : Around) (outer : List Env) (s : Shared) (H : Hp) (vs : List V) (Q : VK) (E : XK), Room k (A.deeper (envOfC qual (defScope st) s.heap.objs.size f cdv)) → A.guards = some [] → sp vs H Q E →
      ∃ t, PSs (cxOf CX0 P w K mg base N qual (defScope st) f cdv A outer s H E).nox (defBody st) t ∧ t { nx := fun _ H' => Q .non H', rt := Q } (start N vs) H) : FnG P w K mg base CX0 (k + 1) f fd ps sp := by
  obtain ⟨oc, od, kV, doc, pm, an, cdv, ct, osl, rfl, lk, hcode⟩ := F.ex
  refine fnG_of lk hcode S lens ?_
  intro A outer s H vs Q E room quiet want
  obtain ⟨t, der, rd⟩ := inner cdv A outer s H vs Q E room quiet want
  exact ⟨t, der.nox, rd⟩
end

section
variable {X : Cx} {CX : CXT} {k : Nat} {f : Addr} {fd : FuncData} {ps : List Str} {sp : Sp} {dvs : List V} {ds : List Value} {E : XK} {x : Str} {p pos : Pos} {e : Expr} {es : List Expr} {t : TA}
/-- f(e, ..) of such a def -/
theorem pe_callG (quiet : X.A.guards = some []) (F : FnG X.prog X.w X.K X.mg X.base CX k f fd ps sp) (hr : Room k X.A) (hg : Gl X x) (hm : X.mg x = some (.ref f)) (hk : PySem.W.keepIn X.K (.ref f) = true) (hb : Binds X.K fd ps ds) (hd : Vals dvs ds) (hx : Passes CX X E)
    (ha : PA X (e :: es) t) (hdb : (x == ("__debug__" : Str)) = false := by decide) (he : starEach (e :: es) X.env = (false, eval e X.env) :: starEach es X.env := by rfl)
    (hpl : (backTo pos (starEach es X.env)).any (·.1) = false := by rfl) :
    PE X (.Call (.Name x p) (e :: es) [] pos)
          (tCall sp dvs E t) := by
  constructor
  intro pins s σ H Q I h
  refine wpAny_Call_Name_kw (ld_glob
        I hg hm ?_ hdb)
  refine PySem.W.callWith_K (h₀ := X.base) I.ok.mod.kin hk (thn (ha.run pos pins s σ H _ I h) ?_) he hpl
  rintro us s1 ⟨vs, H1, I1, r, q⟩
  refine ⟨I1.kIn, ?_⟩
  have rel : Vals (vs ++ dvs) (us ++ ds) := r.append hd
  have ln : (us ++ ds).length = ps.length := rel.length ▸ F.args _ _ _ _ q
  refine wpAny_call (codeAny_mono (F.runs X.A X.stack s1 H1 ⟨us, []⟩ (us ++ ds) (vs ++ dvs) Q E hr quiet I1.env0 (hb s1 us I1.kIn ln) rel q) ?_)
  intro res s' fin
  match res, fin with
  | .error er, fin => exact hx pins σ H1 s1 er s' I1 fin
  | .ok (.ret u), fin => exact I1.after fin
  | .ok .next, fin => exact fin.elim
  | .ok .brk, fin => exact fin.elim
  | .ok .cont, fin => exact fin.elim
end

/-! ### repr of data -/
section
variable {X : Cx}
/-- repr(x), x a list or a tuple of data without dicts -/
theorem call_reprD (quiet : X.A.guards = some []) {k : Nat} (hr : Room k X.A) : CallR X (.builtin "repr") (fun xs H Q => ∃ (a : Addr) (d : PyData), xs = [.ref a] ∧ D X.K H (.ref a) d ∧ d.showable = true ∧ d.hasDict = false ∧ d.depth ≤ 60 ∧ d.shown.length ≤ sizeLine ∧ Q (.str d.shown) H) := by
  intro pins s σ H xs
        us Q I r h
  obtain ⟨a, d, rfl, hd, hs, hn, hdep, hsz, q⟩ := h
  obtain ⟨u, rfl, ru⟩
        := vals1 r
  obtain rfl : u = Value.ref
        a := ru
  obtain ⟨as, rr⟩ := hd.reads I _ rfl
  have un := hr.un
  refine repr_of_reads' rr hs (fun z => by rw [hn] at z; cases z) quiet (by omega) (fun _ _ e => e) (fun h' u tk hk => ?_) hsz
  exact ⟨.str d.shown, H, I.kept hk, ⟨_, rfl⟩, q⟩
end
end LW
namespace LW
open L2 PySem.Spec PyProof.Rows PySem
/-! ### the law's own call -/
theorem law_start {P : Program} {w : World} {K : PySem.W.Frag} {mg mb : Str → Option Value} {k : Nat} {fa a : Addr} {fd : FuncData} {x : Str} {sp : Sp} {s₁ : Shared} {vs : List Value} {ns : List Int}
    (KX : K.In s₁.heap) (gl : s₁.heap.Ns mainGlobals mg) (bl : s₁.heap.Ns builtinsNs mb) (bb : ∀ x : Str, x ≠ "__name__" → mb x = bootBuiltins x) (lim : s₁.heap.NoLimit) (gn : s₁.gens = #[])
    (sa : s₁.heap.get? a = some { cls := .type "list", data := .seq vs.toArray }) (si : IntsAre vs ns) (sl : ns.length ≤ sizeLine) (room : Room k callerA)
    (F : ∀ base : Heap, K.In base → base.Ns mainGlobals mg → FnG P w K mg base CX0 k fa fd [x] sp) (bind : ∀ (s : Shared) (u : Value), BindsTo s fd ⟨[u], []⟩ [(x, u)])
    (want : ∀ H : Hp, SqL K H a (ns.map V.int) → sp [.ref a] H (fun v _ => v = .bl true) fun _ _ _ => False) :
    codeAny (model P w) callerA (.call (.ref fa) ⟨[.ref a], []⟩) (fun r s' => r = .ok (.ret (.bool true)) ∧ OldK
          s₁.heap s'.heap ∧ s'.os = s₁.os ∧ AllBare s'.gens) s₁ := by
  have rels := vals_ints si
  have many := si.length
  let ob : Obj := { cls := .type "list", data := .seq vs.toArray }
  -- the heap that is tracked: the script alone, or nothing
  have main : ∀ H : Hp, (∀ b, H b = none ∨ (b = a ∧ K.lookup a = none ∧ H b = some (.frz ob (.lst (ns.map V.int))))) → SqL K H a (ns.map V.int) →
      codeAny (model P w) callerA (.call (.ref fa) ⟨[.ref a], []⟩) (fun r s' => r = .ok (.ret (.bool true)) ∧ OldK
            s₁.heap s'.heap ∧ s'.os = s₁.os ∧ AllBare s'.gens) s₁ := by
    intro H onlyA sq
    have ok : HOk P w H s₁.heap := by
      intro b u hb
      rcases onlyA b with z | ⟨rfl, _, z⟩
      · rw [z] at hb; cases hb
      · rw [z] at hb
        cases hb
        exact ⟨sa, by rw [List.length_map]; exact sl, vs, _, rels, sa⟩
    have untracked : ∀ {b : Addr} {o : Obj}, s₁.heap.get? b = some o → (∀ its n, o.data ≠ .seq its n) → H b = none := by
      intro b o e nd
      rcases onlyA b with z | ⟨rfl, _, _⟩
      · exact z
      · rw [sa] at e
        cases e
        exact (nd _ _ rfl).elim
    have lift : ∀ {b : Addr} {m : Str → Option Value}, s₁.heap.Ns b m → (hidT s₁.heap H).Ns b m := by
      rintro b m ⟨o, es, ep, e, d, r⟩
      exact ⟨o, es, ep, hidT_get e (untracked e fun its n z => by rw [d] at z; cases z), d, r⟩
    have KB : K.In (hidT s₁.heap H) := by
      intro b o e
      refine hidT_get (KX b o e) ?_
      rcases onlyA b with z | ⟨rfl, z, _⟩
      · exact z
      · rw [z] at e; cases e
    have env0 : Env0 P w K mg (hidT s₁.heap H) callerA [] s₁ H := by
      refine ⟨rfl, ⟨KB, lift gl, ⟨mb, lift bl, bb⟩, ?_⟩, fun b o e => of_hidT e, Nat.le_of_eq (hidT_size _ _), trivial, ?_, ok, .of_eq gn⟩
      · obtain ⟨mc, l1, l2⟩ := lim
        exact ⟨mc, lift l1, l2⟩
      · intro b hb
        simp [frs] at hb
    refine codeAny_mono ((F _ KB (lift gl)).runs callerA [] s₁ H ⟨[.ref a], []⟩ [.ref a] [.ref a] _ _ room rfl env0 (bind s₁ (.ref a)) (.cons rfl .nil) (want H sq)) ?_
    intro r s' fin
    match r, fin with
    | .error er, fin => exact fin.elim
    | .ok .next, fin => exact fin.elim
    | .ok .brk, fin => exact fin.elim
    | .ok .cont, fin => exact fin.elim
    | .ok (.ret u), ⟨v, H', os, bare, un, ok', rv, q⟩ =>
      have q' : v = .bl true := q
      subst q'
      have ru : u = Value.bool true := rv
      subst ru
      refine ⟨rfl, OldK.of_keep ?_, os, bare⟩
      intro b o e
      rcases onlyA b with z | ⟨rfl, _, z⟩
      · exact un.keep b o e z (by simp [frs]) (by simp)
      · obtain ⟨e2, _⟩ := ok' b _ (un.frzs b ob _ z)
        rw [sa] at e
        cases e
        exact e2
  by_cases own : K.lookup a = none
  · refine main (fun b => if b = a then some (.frz ob (.lst (ns.map V.int))) else none) (fun b => ?_) (.inl (.inr ⟨ob, if_pos rfl⟩))
    by_cases z : b = a
    · exact .inr ⟨z, own, if_pos z⟩
    · exact .inl (if_neg z)
  · cases q : K.lookup a with
    | none => exact (own q).elim
    | some o =>
      have e := KX a o q
      rw [sa] at e
      cases e
      exact main (fun _ => none) (fun _ => .inl rfl) (.inr ⟨_, vs.toArray, _, q, rfl, rfl, rfl, by rw [List.size_toArray, many]; exact sl, by simpa using rels⟩)

theorem law_walk {l : PySem.W.OpenLaw} {n k : Nat} {q : Program} {loose : List Str} {XP : (Str → Option Value) → Heap → Prop} {YP : World → Heap → Prop} {d : DefRec} {K : Params → PySem.W.Frag} {sp : PySem.W.Frag → Sp} {x : Str}
    (most : l.most = some n) (short : n ≤ sizeLine) (noDefaults : d.params.defaults = []) (room : Room k callerA)
    (written : ∀ (w : World) (h : Heap), YP w h → (K w.params).In h)
    (F : ∀ (w : World) (mg : Str → Option Value) (fa : Addr) (h : Heap), (K w.params).In h → h.Ns mainGlobals mg → XP mg h → mg d.name = some (.ref fa) →
      ∃ fd : FuncData, (∀ (s : Shared) (u : Value), BindsTo
            s fd ⟨[u], []⟩ [(x, u)]) ∧
        ∀ base : Heap, (K w.params).In base → base.Ns mainGlobals mg → FnG l.prog w (K w.params) mg base CX0 k fa fd [x] (sp (K w.params)))
    (want : ∀ (K : PySem.W.Frag) (H : Hp) (a : Addr) (ns : List Int), ns.length ≤ n → SqL K H a (ns.map V.int) → sp K [.ref a] H (fun v _ => v = .bl true) fun _ _ _ => False) :
    PySem.W.WalkO q loose XP YP l.row.toRowW d [] (fun f vs
          => PySem.call f vs) := by
  refine Att.attach_call most noDefaults ?_
  intro w s₀ s₁ mg mb fa o pm cd doc a vs ns G Y ho hd hcd hmg hobj hints hlen hg
  have KX := written w _ Y
  obtain ⟨fd, hb, hF⟩ := F w mg fa _ KX G.T.g G.X hmg
  exact law_start KX G.T.g G.T.b G.T.builtins G.T.nolimit hg hobj hints (Nat.le_trans hlen short) room hF hb (fun H hS => want (K w.params) H a ns hlen hS)
end LW

set_option Elab.async false
set_option linter.all false
set_option maxRecDepth 100000
set_option maxHeartbeats 4000100
/-! what the readings of common parts ask, from facts of data; the built-in names -/
namespace LW
open L2 PySem.Spec PyProof.Rows PySem

/-- the built-in names are still that -/
structure Bl (mg : Str → Option Value) : Prop where
  len : mg "len" = none
  abs : mg "abs" = none
  divmod : mg "divmod" = none
  sorted : mg "sorted" = none
  all : mg "all" = none
  any : mg "any" = none
  sum : mg "sum" = none
  max : mg "max" = none
  min : mg "min" = none
  repr : mg "repr" = none
  isinstance : mg "isinstance" = none
  int : mg "int" = none
  str : mg "str" = none
  bool : mg "bool" = none
  tuple : mg "tuple" = none
  list : mg "list" = none
  set : mg "set" = none
  dict : mg "dict" = none
  range : mg "range" = none
  enumerate : mg "enumerate" = none
  reversed : mg "reversed" = none
  zip : mg "zip" = none

/-- a def of the text, by its name -/
structure OwnDef (K : PySem.W.Frag) (mg : Str → Option Value) (x : Str) (st : Stmt) : Prop where
  ex : ∃ (f : Addr) (fd : FuncData), Fun K x x st f fd ∧ mg x = some (.ref f)

/-- a def that may be called by its name -/
structure Cal (P : Program) (w : World) (K : PySem.W.Frag) (mg : Str → Option Value) (base : Heap) (k :
      Nat) (x : Str) (sp : Sp) (dvs : List V) : Prop where
  ex : ∃ (f : Addr) (fd : FuncData) (ps : List Str) (ds : List Value), FnOk P w K mg base CX0 k f fd ps sp ∧ mg x = some (.ref f) ∧
    PySem.W.keepIn K (.ref f) = true ∧ Binds K fd ps ds ∧ Vals dvs ds
/-- .. where nothing is being shown -/
structure CalG (P : Program) (w : World) (K : PySem.W.Frag) (mg : Str → Option Value) (base : Heap) (k : Nat) (x : Str) (sp : Sp) (dvs : List V) : Prop where
  ex : ∃ (f : Addr) (fd : FuncData) (ps : List Str) (ds : List Value), FnG P w K mg base CX0 k f fd ps sp ∧ mg x = some (.ref f) ∧
    PySem.W.keepIn K (.ref f) = true ∧ Binds K fd ps ds ∧ Vals dvs ds
section
variable {X : Cx} {k j : Nat} {x : Str} {sp : Sp} {dvs : List V} {p pos : Pos} {e : Expr} {es : List Expr} {t : TA}
theorem pe_c (cl : Cal X.prog X.w X.K X.mg X.base k x sp dvs) (hr : Room j X.A) (hk : k ≤ j) (hg : Gl X x) (ha : PA X (e :: es) t)
    (hdb : (x == ("__debug__" : Str)) = false := by
          decide) (he : starEach (e :: es) X.env = (false, eval e X.env) :: starEach es X.env := by rfl)
    (hpl : (backTo pos (starEach es X.env)).any (·.1) = false := by rfl) :
    PE X (.Call (.Name x p) (e :: es) [] pos)
          (tCall sp dvs E0 t) := by
  obtain ⟨f, fd, ps, ds, F, m, kp, b, d⟩ := cl.ex
  exact pe_call F (hr.mono hk) hg m kp b d pass0 ha hdb he hpl
theorem pe_cG (quiet : X.A.guards = some []) (cl : CalG X.prog X.w X.K X.mg X.base k x sp dvs) (hr : Room j X.A) (hk : k ≤ j) (hg : Gl X x) (ha : PA X (e :: es) t)
    (hdb : (x == ("__debug__" : Str)) = false := by
          decide) (he : starEach (e :: es) X.env = (false, eval e X.env) :: starEach es X.env := by rfl)
    (hpl : (backTo pos (starEach es X.env)).any (·.1) = false := by rfl) :
    PE X (.Call (.Name x p) (e :: es) [] pos)
          (tCall sp dvs E0 t) := by
  obtain ⟨f, fd, ps, ds, F, m, kp, b, d⟩ := cl.ex
  exact pe_callG quiet F (hr.mono hk) hg m kp b d pass0 ha hdb he hpl
end

section
variable {K : PySem.W.Frag} {A : List Addr} {H : Hp} {v w : V} {vs : List V} {d : PyData} {ds : List PyData} {Q : VK}
theorem atI_of {xs : List V} {i : Int} {w : V} (h0 : 0 ≤ i) (e : xs[i.toNat]? = some w) : atI xs i = some w := by
  have z : i = (i.toNat : Int) := (Int.toNat_of_nonneg h0).symm
  rw [z]
  exact atI_nat e
theorem rd_tup {i : Int} (h : Is K A H v (.tuple ds)) (h0 : 0 ≤ i) (e : ds[i.toNat]? = some d) (k : ∀ w, Is K A H w d → Q w H) : rIx K v (.int i) H Q := by
  obtain ⟨a, ws, rfl, sq, all⟩ := is_tup h
  obtain ⟨w, ew, hw⟩ := iss_get all e
  exact .inr (.inl ⟨a, ws, i, w, rfl, rfl, sqT_full sq, atI_of h0 ew, k w hw⟩)
theorem rd_lst {i : Int} (h : Is K A H v (.list ds)) (h0 : 0 ≤ i) (e : ds[i.toNat]? = some d) (k : ∀ w, Is K A H w d → Q w H) : rIx K v (.int i) H Q := by
  obtain ⟨a, ws, rfl, sq, all⟩ := is_lst h
  obtain ⟨w, ew, hw⟩ := iss_get all e
  exact .inl ⟨a, ws, i, w, rfl, rfl, sqL_full sq, atI_of h0 ew, k w hw⟩
theorem rd_raw {a : Addr} {xs : List V} {i : Int} (h : SqL K H a xs) (h0 : 0 ≤ i) (e : xs[i.toNat]? = some w) (k : Q w H) : rIx K (.ref a) (.int i) H Q :=
  .inl ⟨a, xs, i, w, rfl, rfl, h, atI_of h0 e, k⟩
/-- an int of a tuple -/
theorem rd_int {i j : Int} (h : Is K A H v (.tuple ds)) (h0 : 0 ≤ i) (e : ds[i.toNat]? = some (.int j)) (k : Q (.int j) H) : rIx K v (.int i) H Q :=
  rd_tup h h0 e fun w hw => by rw [is_int hw]; exact k
def rLen (K : PySem.W.Frag) : List V → Hp → VK → Prop := fun xs H Q => ∃ p ys, xs = [.ref p] ∧ (SqL K H p ys ∨ SqT K H p ys) ∧ Q (.int ys.length) H
theorem rd_lenT (h : Is K A H v (.tuple ds)) (k : Q (.int ds.length) H) : ∃ p ys, [v] = [.ref p] ∧ (SqL K H p ys ∨ SqT K H p ys) ∧ Q (.int ys.length) H := by
  obtain ⟨a, ws, rfl, sq, all⟩ := is_tup h
  exact ⟨a, ws, rfl, .inr (sqT_full sq), by rw [iss_len all]; exact k⟩
theorem rd_lenL (h : Is K A H v (.list ds)) (k : Q (.int ds.length) H) : ∃ p ys, [v] = [.ref p] ∧ (SqL K H p ys ∨ SqT K H p ys) ∧ Q (.int ys.length) H := by
  obtain ⟨a, ws, rfl, sq, all⟩ := is_lst h
  exact ⟨a, ws, rfl, .inl (sqL_full sq), by rw [iss_len all]; exact k⟩
end

/-! ### kinds of data -/
def tyN : PyData → String
  | .none => "NoneType"
  | .bool _ => "bool"
  | .int _ => "int"
  | .str _ => "str"
  | .list _ => "list"
  | .tuple _ => "tuple"
  | .dict _ => "dict"
section
variable {K : PySem.W.Frag} {A : List Addr} {H : Hp} {v w : V} {vs : List V} {d : PyData} {ds : List PyData} {Q : VK}
theorem D.ty (h : D K H v d) : TyX K H v (.type (tyN d)) := by
  cases h with
  | non => exact .base .non
  | bl b => exact .base (.bl b)
  | int i => exact .base (.int i)
  | str x => exact .base (.str x)
  | lst h len all =>
    rcases h with (h | ⟨o, h⟩) | ⟨o, its, n, h, hc, _⟩
    · exact .base (.lst h)
    · exact .base (.frz h)
    · exact .kList h hc
  | tup h len all =>
    rcases h with (h | ⟨o, h⟩) | ⟨o, its, n, h, hc, _⟩
    · exact .base (.tup h)
    · exact .fTuple h
    · exact .kTuple h hc
  | dct h => exact .base (.dK h)
/-- isinstance(x, a built-in class) of data -/
theorem rd_isi {n : String} {b : Bool} (h : D K H v d) (e : kitB (tyN d) n = some b) (k : Q (.bl b) H) : rIsi K [v, .ty n] H Q :=
  ⟨v, .ty n, .type (tyN d), .type n, b, rfl, .ty n, h.ty, kit_ty e, k⟩
def isIntD : PyData → Bool
  | .int _ => true
  | _ => false
def isTupD : PyData → Bool
  | .tuple _ => true
  | _ => false
def isStrD : PyData → Bool
  | .str _ => true
  | _ => false
def isBoolD : PyData → Bool
  | .bool _ => true
  | _ => false
theorem kit_int : ∀ d : PyData, kitB (tyN d) "int" = some (isIntD d || isBoolD d)
  | .none => (by decide +kernel : kitB "NoneType" "int" = some false)
  | .bool _ => (by decide +kernel : kitB "bool" "int" = some true)
  | .int _ => (by decide +kernel : kitB "int" "int" = some true)
  | .str _ => (by decide +kernel : kitB "str" "int" = some false)
  | .list _ => (by decide +kernel : kitB "list" "int" = some false)
  | .tuple _ => (by decide +kernel : kitB "tuple" "int" = some false)
  | .dict _ => (by decide +kernel : kitB "dict" "int" = some false)
theorem kit_bool : ∀ d : PyData, kitB (tyN d) "bool" = some (isBoolD d)
  | .none => (by decide +kernel : kitB "NoneType" "bool" = some false)
  | .bool _ => (by decide +kernel : kitB "bool" "bool" = some true)
  | .int _ => (by decide +kernel : kitB "int" "bool" = some false)
  | .str _ => (by decide +kernel : kitB "str" "bool" = some false)
  | .list _ => (by decide +kernel : kitB "list" "bool" = some false)
  | .tuple _ => (by decide +kernel : kitB "tuple" "bool" = some false)
  | .dict _ => (by decide +kernel : kitB "dict" "bool" = some false)
theorem kit_tup : ∀ d : PyData, kitB (tyN d) "tuple" = some (isTupD d)
  | .none => (by decide +kernel : kitB "NoneType" "tuple" = some false)
  | .bool _ => (by decide +kernel : kitB "bool" "tuple" = some false)
  | .int _ => (by decide +kernel : kitB "int" "tuple" = some false)
  | .str _ => (by decide +kernel : kitB "str" "tuple" = some false)
  | .list _ => (by decide +kernel : kitB "list" "tuple" = some false)
  | .tuple _ => (by decide +kernel : kitB "tuple" "tuple" = some true)
  | .dict _ => (by decide +kernel : kitB "dict" "tuple" = some false)
theorem kit_str : ∀ d : PyData, kitB (tyN d) "str" = some (isStrD d)
  | .none => (by decide +kernel : kitB "NoneType" "str" = some false)
  | .bool _ => (by decide +kernel : kitB "bool" "str" = some false)
  | .int _ => (by decide +kernel : kitB "int" "str" = some false)
  | .str _ => (by decide +kernel : kitB "str" "str" = some true)
  | .list _ => (by decide +kernel : kitB "list" "str" = some false)
  | .tuple _ => (by decide +kernel : kitB "tuple" "str" = some false)
  | .dict _ => (by decide +kernel : kitB "dict" "str" = some false)
end

/-! ### the tank: a list of three ints at a, changed by each draw -/
structure TankAt (H : Hp) (a : Addr) : Prop where
  ex : ∃ x y z : Int, H a = some (.lst [.int x, .int y, .int z]) ∧ 0 ≤ x ∧ 0 ≤ y ∧ y < 1610612741 ∧ 0 ≤ z
theorem TankAt.ne {H : Hp} {a : Addr} (t : TankAt H a) : H a ≠ none := by
  obtain ⟨x, y, z, e, _⟩ := t.ex
  rw [e]; exact fun z => by cases z
theorem TankAt.keep {H H' : Hp} {a : Addr} (t : TankAt H a) (s : Same H H') : TankAt H' a := by
  obtain ⟨x, y, z, e, r⟩ := t.ex
  exact ⟨x, y, z, s _ _ e, r⟩
theorem TankAt.upd_ne {H : Hp} {a p : Addr} {o : HO} (t : TankAt H a) (n : H p = none) : TankAt (upd H p o) a := t.keep (same_new n)
/-- kept outside A, and the tank at a is one still -/
structure GoT (A : List Addr) (a : Addr) (H H' : Hp) : Prop where
  go : Go A H H'
  tank : TankAt H' a
end LW
namespace LW
open L2 PySem.Spec PyProof.Rows PySem
/-- what an expression gives, told once for all that may follow -/
theorem via {σ : L2.St} {H : Hp} {t : TE} {Q : VK} (P : V → Hp → Prop) (h : ∀ Q' : VK, (∀ v H', P v H' → Q' v H') → t σ H Q') (k : ∀ v H', P v H' → Q v H') : t σ H Q := h Q k
theorem viaT {σ : L2.St} {H : Hp} {t : TT} {Q : Bool → Hp → Prop} (P : Bool → Hp → Prop) (h : ∀ Q' : Bool → Hp → Prop, (∀ v H', P v H' → Q' v H') → t σ H Q') (k : ∀ v H', P v H' → Q v H') : t σ H Q := h Q k
theorem pos_of {j : Int} (h : 0 < j) : (fun (_ j : Int) => 0 < j) 0 j := h
theorem some_map {α β : Type} {f : α → β} {l : List α} {i : Nat} {y : β} (h : (l.map f)[i]? = some y) : ∃ x, l[i]? = some x ∧ y = f x := by
  rw [List.getElem?_map] at h
  cases e : l[i]? with
  | none => rw [e]
        at h; cases h
  | some z => rw [e] at h; exact ⟨z, rfl, (Option.some.inj h).symm⟩
theorem map_some {α β : Type} {f : α → β} {l : List α} {i : Nat} {x : α} (h : l[i]? = some x) : (l.map f)[i]? = some (f x) := by
  rw [List.getElem?_map, h]; rfl
end LW
namespace LW
open L2 PySem.Spec PyProof.Rows PySem
theorem own_mk {K : PySem.W.Frag} {h : Heap} {mg : Str → Option Value} {x : Str} {st : Stmt} {f : Addr} {oc kV dc pm cd ct : Value} {od an : Option Addr} {sl : Array (Option Value)} (X : K.In h) (G : h.Ns mainGlobals mg)
    (a : PySem.W.nsIn K mainGlobals x = some (some (.ref f)))
    (l : K.lookup f = some ⟨oc, od, .func (PySem.W.fnOf x x (defArgs st) (defBody st) (defScope st) .none kV dc pm an cd ct), sl⟩)
    (co : PySem.W.codeIn K cd x = true) (k : PySem.W.keepIn K (.ref f) = true) : OwnDef K mg x st :=
  ⟨f, _, fun_mk (st := st) l co k, PySem.W.mg_of X G a⟩
end LW

namespace LW
open L2 PySem.Spec PyProof.Rows PySem
section
variable {X : Cx} {x : Str} {pos : Pos} {i : Int}
/-- a module's whole number, by its name -/
theorem pe_gint (hg : Gl X x) (hm : ∃ t, X.mg x = some (.int i t)) (hd : (x == ("__debug__" : Str)) = false := by decide) : PE X (.Name x pos) (tC (.int i)) := by
  obtain ⟨t, m⟩ := hm
  exact pe_glob hg m ⟨t, rfl⟩ hd
end
end LW
namespace LW
open L2 PySem.Spec PyProof.Rows PySem
section
variable {K : PySem.W.Frag} {H : Hp} {v w : V} {vs : List V} {d : PyData} {ds : List PyData} {Q : VK}
theorem D.is (h : D K H v d) : Is K [] H v d := by
  show D K (hv [] H) v d
  rw [hv_nil]; exact h
theorem DAll.is (h : DAll K H vs ds) : Iss K [] H vs ds := by
  show DAll K (hv [] H) vs ds
  rw [hv_nil]; exact h
theorem D.tuple (h : D K H v (.tuple ds)) : ∃ a vs, v = .ref a ∧ SqT K H a vs ∧ DAll K H vs ds := by
  cases h with
  | tup h l a => exact ⟨_, _, rfl, h, l, a⟩
theorem D.list (h : D K H v (.list ds)) : ∃ a vs, v = .ref a ∧ SqL K H a vs ∧ DAll K H vs ds := by
  cases h with
  | lst h l a => exact ⟨_, _, rfl, h, l, a⟩
theorem DAll.get (h : DAll K H vs ds) {i : Nat} (e : ds[i]? = some d) : ∃ v, vs[i]? = some v ∧ D K H v d := by
  have hi : i < ds.length := (List.getElem?_eq_some_iff.mp e).1
  rw [← h.len] at hi
  exact ⟨_, List.getElem?_eq_getElem hi, h.all i _ _ (List.getElem?_eq_getElem hi) e⟩
theorem DAll.get' (h : DAll K H vs ds) {i : Nat} (e : vs[i]? = some v) : ∃ d, ds[i]? = some d ∧ D K H v d := by
  have hi : i < vs.length := (List.getElem?_eq_some_iff.mp e).1
  rw [h.len] at hi
  exact ⟨_, List.getElem?_eq_getElem hi, h.all i _ _ e (List.getElem?_eq_getElem hi)⟩
theorem D.int_eq {i : Int} (h : D K H v (.int i)) : v = .int i := by cases h; rfl
theorem D.str_eq {i : Str} (h : D K H v (.str i)) : v = .str i := by cases h; rfl
theorem D.bool_eq {i : Bool} (h : D K H v (.bool i)) : v = .bl i := by cases h; rfl
theorem D.none_eq (h : D K H v .none) : v = .non := by cases h; rfl
/-- t[i], l[i] at i not below 0 -/
theorem ix_dt {i : Int} (h : D K H v (.tuple ds)) (h0 : 0 ≤ i) (e : ds[i.toNat]? = some d) (k : ∀ w, D K H w d → Q w H) : rIx K v (.int i) H Q := by
  obtain ⟨a, ws, rfl, sq, all⟩ := h.tuple
  obtain ⟨w, ew, hw⟩ := all.get e
  exact .inr (.inl ⟨a, ws, i, w, rfl, rfl, sq, atI_of h0 ew, k w hw⟩)
theorem ix_dl {i : Int} (h : D K H v (.list ds)) (h0 : 0 ≤ i) (e : ds[i.toNat]? = some d) (k : ∀ w, D K H w d → Q w H) : rIx K v (.int i) H Q := by
  obtain ⟨a, ws, rfl, sq, all⟩ := h.list
  obtain ⟨w, ew, hw⟩ := all.get e
  exact .inl ⟨a, ws, i, w, rfl, rfl, sq, atI_of h0 ew, k w hw⟩
theorem ix_di {i j : Int} (h : D K H v (.tuple ds)) (h0 : 0 ≤ i) (e : ds[i.toNat]? = some (.int j)) (k : Q (.int j) H) : rIx K v (.int i) H Q :=
  ix_dt h h0 e fun w hw => by rw [hw.int_eq]; exact k
end
end LW
namespace LW
open L2 PySem.Spec PyProof.Rows PySem
/-- an if whose ways meet again -/
theorem viaIf {c : TT} {t u : TS} {D : Ends} {σ : L2.St} {H : Hp} (P : L2.St → Hp → Prop) (h : ∀ D' : Ends, (∀ σ' H', P σ' H' → D'.nx σ' H') → tIfS c t u D' σ H) (k : ∀ σ' H', P σ' H' → D.nx σ' H') : tIfS c t u D σ H := h D k
end LW
namespace LW
open L2 PySem.Spec PyProof.Rows PySem
/-- a method that may be called -/
structure Met (P : Program) (w : World) (K : PySem.W.Frag) (mg : Str → Option Value) (base : Heap) (k : Nat) (C : Addr) (m : Str) (sp : Sp) : Prop where
  ex : ∃ (f : Addr) (fd : FuncData) (ps : List Str), Cls K C ∧ Meth K C m f ∧ FnOk P w K mg base CX0 k f fd ps sp ∧ Binds K fd ps []
section
variable {X : Cx} {k j : Nat} {C : Addr} {m : Str} {sp : Sp} {pos apos : Pos} {e o : Expr} {es : List Expr} {ta : TE} {t : TA}
theorem pe_mt {pl : Sem Bool} (cl : Met X.prog X.w X.K X.mg X.base k C m sp) (hr : Room j X.A) (hk : k ≤ j) (he : PE X o ta) (ha : PA X (e :: es) t)
    (hst : starEach (e :: es) X.env = (false, eval e X.env) :: starEach es X.env := by rfl)
    (hpl : (backTo pos (starEach es X.env)).any (·.1) = false := by rfl)
    (ht : eval (.Call (.Attribute o m apos) (e ::
          es) [] pos) X.env = (do
        let v ← eval o X.env
        standAt apos.atName
        let (g, fst) ← holding [v] (getMethod v m pl)
        callWith pos g fst (backTo pos (starEach (e :: es) X.env)) (backToKw pos (keywordEach [] X.env))) := by rfl) :
    PE X (.Call (.Attribute o m apos) (e :: es) [] pos) (tMeth C m sp [] E0 ta t) := by
  obtain ⟨f, fd, ps, c, me, F, b⟩ := cl.ex
  exact pe_meth (pl := pl) he c me F (hr.mono hk) b .nil pass0 ha hst hpl ht
end
end LW

set_option Elab.async false
set_option linter.all false
set_option maxRecDepth 100000
set_option maxHeartbeats 4000100
/-! enumerate over a tuple -/
namespace LW
open L2 PySem.Spec PyProof.Rows PySem
theorem meets_enum_new1 {v : Value} {o : Obj} {G : Heap → Prop} (B : Begins v o G) :
    Meets (Builtin.«enumerate.__new__» ⟨[.type "enumerate", v], []⟩) (fun _ R s => G s.heap ∧
      R (.ok (.ret (.ref (s.heap.push o).objs.size)))
        { s with heap := (s.heap.push o).push { cls := .type "enumerate", data := .fields #[.none, .bool false, .ref s.heap.objs.size, rawInt 0, .none, .none] } }) :=
  .of_wp fun prog w A R s given => by
    obtain ⟨hp, g, d, tk,
          os⟩ := s
    obtain ⟨g1, r1⟩ := given
    have subs := sub_enumerate
    have begin1 : ∀ {A' : Around} {E : Value → Shared → Prop} {Q : Value → Shared → Prop}, Q (.ref hp.objs.size) ⟨hp.push o, g, d, tk, os⟩ →
        wpAny (model prog w) A' (pyIter v) Q E ⟨hp, g, d, tk, os⟩ := fun q => B.iter prog w _ _ ⟨hp, g, d, tk, os⟩ _ g1 q
    wp_walk using begin1
    refine wpAny_stack_any fun st
          => wpAny_pure ?_
    split
    · rename_i c _ _ _ _ _
      cases (c == Value.type "enumerate") <;>
      · wp_walk using begin1
        exact ⟨_, rfl, r1⟩
    · wp_walk using begin1
      exact ⟨_, rfl, r1⟩
section
variable {prog : Program} {w : World} {A : Around} {E : Value
      → Shared → Prop} {s : Shared}
theorem call_enumerate_tuple {t : Addr} {items : Array Value} {Q : Value → Shared → Prop} (tp : s.heap.IsTuple t items)
    (h : ∀ h', IsEnum h' (s.heap.objs.size + 1) s.heap.objs.size 0 .none → h'.IsTupleIter s.heap.objs.size t 0 →
      (∀ b o, s.heap.get? b = some o → h'.get? b = some o) → Q (.ref (s.heap.objs.size
            + 1)) { s with heap := h' }) :
    wpAny (model prog w) A (call (.type "enumerate") [.ref t]) Q E s := by
  let ob : Obj := { cls := .type "tuple_iterator", data := .fields #[.ref t, .int 0 0] }
  let en : Obj := { cls := .type "enumerate", data := .fields #[.none, .bool false, .ref s.heap.objs.size, rawInt 0, .none, .none] }
  refine callType_new F.called_enumerate (by decide) (F.typeCall_enumerate_1 _) (F.newCall_enumerate_1 _)
    (fun obj => F.args_object_init_2 obj _) F.entry_enumerate_new (meets_enum_new1 (begins_tuple t items)) ⟨tp, ?_⟩
  have size1 : (s.heap.push ob).objs.size = s.heap.objs.size + 1 := Heap.size_push ..
  show _ ∧ _
  have enum1 : IsEnum ((s.heap.push ob).push en) (s.heap.objs.size + 1) s.heap.objs.size 0 .none := by
    have z := Heap.get?_push_size (s.heap.push ob) (o := en) rfl
    rw [size1] at z
    exact z
  have fin := h _ enum1 ⟨ob, Heap.get?_push_of_some _ (Heap.get?_push_size _ rfl), rfl, rfl⟩ (fun b o x => Heap.get?_push_of_some _ (Heap.get?_push_of_some _ x))
  rw [show (s.heap.push { cls := .type "tuple_iterator", data := .fields #[.ref t, .int 0 0] }).objs.size = s.heap.objs.size + 1 from size1]
  exact ⟨⟨_, enum1, rfl⟩, fin⟩
end
/-- the tuple at a at each turn, each item in a new pair -/
def Itet (K : PySem.W.Frag) (a : Addr) : It :=
  ⟨fun i H => ∃ (xs : List V) (x : V), SqT K H a xs ∧ xs[i]? = some x,
   fun i H v H' => ∃ T x, v = .ref T ∧ H T = none ∧ H' = upd H T (.tup [.int (i : Nat), x]) ∧ ∀ xs, SqT K H a xs → xs[i]? = some x,
   fun i H => ∃ xs : List V, SqT K H a xs ∧ xs.length ≤ i⟩
theorem turn_enumT {P : Program} {w : World} {K : PySem.W.Frag} {elts : List Expr} {kk : Nat} {tpos : Pos} (a e it : Addr) :
    Turn P w K (.Tuple elts kk tpos) (Itet K a) [e, it] e (fun i h => (∃ old, IsEnum h e it ((i : Nat) : Int) old) ∧ h.IsTupleIter it a i ∧ e ≠ it) where
  mem := by simp
  obj := by
    rintro i h ⟨⟨old, he⟩, ⟨o, ho, hc, hd⟩, _⟩ b hb
    rcases List.mem_cons.mp
          hb with z | z
    · subst z; exact ⟨_, he, fun v q => nomatch q⟩
    · rw [List.mem_singleton] at z
      subst z
      exact ⟨o, ho, fun v q => by rw [hd] at q; cases q⟩
  keep := by
    rintro i h h' ⟨⟨old, he⟩, hi, hne⟩ k
    exact ⟨⟨old, k e (by simp) _ he⟩, hi.at fun o q => k it (by simp) o q, hne⟩
  item := by
    intro X hP hw hK hc i pins s σ
          H E I hf st hg
    subst hP hw hK
    obtain ⟨⟨old, he⟩, hit,
          hne⟩ := st
    obtain ⟨xs, x, hq, hx⟩ := hg
    obtain ⟨its, rv, p, hz⟩
          := I.tuple hq
    have tp : s.heap.IsTuple a its.toArray := p
    obtain ⟨u, hu, ru⟩ :=
          rv.get hx
    have elt : e < s.heap.objs.size := Heap.lt_size he
    have ilt : it < s.heap.objs.size := by obtain ⟨_, q, _⟩ := hit; exact Heap.lt_size q
    have nai : a ≠ it := by
      intro z
      subst z
      obtain ⟨o1, g1, c1, _⟩ := hit
      obtain ⟨o2, g2, c2, _⟩ := tp
      rw [g1] at g2
      cases g2
      rw [c1] at c2
      exact absurd (Value.type.inj c2) (by decide)
    have nae : e ≠ a := by
      intro z
      subst z
      obtain ⟨o2, g2, c2, _⟩ := tp
      have g1 := he
      unfold IsEnum at g1
      rw [g1] at g2
      cases g2
      exact absurd (Value.type.inj c2) (by decide)
    have ilen : i < its.toArray.size := by
      have := (List.getElem?_eq_some_iff.mp hu).1
      simpa using this
    have dr := Draws.tuple (prog := X.prog) (w := X.w) (A := X.A.in1) (I.ok.hd hc) it a nai its.toArray
    refine wpAny_pyNext_enum_itemD dr he ⟨hit, tp⟩ ilen hne (by simp [hne, nae]) ?_
    intro y h' tk hy out st' newT size' kept
    have ey : y = u := by
      have : its.toArray[i]? = some u := by simpa using hu
      exact Option.some.inj (hy.symm.trans this)
    subst ey
    refine ⟨_, rfl, wpAny_letOwnedTupleGo_enum (s := { s with heap := h', toks := tk + 1 }) out ?_⟩
    intro h2 he2 sb
    have nT : h2.get? s.heap.objs.size = some { cls := .type "tuple", data := .seq #[.int i tk, y] } := (sb.2 _ (Nat.ne_of_gt elt)).trans newT
    have ob : ObjOk X.prog X.w (upd H s.heap.objs.size (.tup [.int (i : Nat), x])) h2 s.heap.objs.size (.tup [.int (i : Nat), x]) := by
      refine ⟨by show 2 ≤ sizeLine; decide, [.int i tk, y], .cons ⟨_, rfl⟩ (.cons ru .nil), ⟨_, nT, rfl, _, rfl⟩⟩
    have I1 : Inv X pins σ (upd H s.heap.objs.size (.tup [.int (i : Nat), x])) { s with heap := h2, toks := tk + 1 } := by
      refine I.turnedNew (ch := [e, it]) ?_ hf (Nat.le_refl _) ob
      intro b o hb q
      have b1 : b ≠ e := fun z => hb (by simp [z])
      have b2 : b ≠ it := fun z => hb (by simp [z])
      exact (sb.2 b b1).trans (kept b o b1 b2 q)
    refine ⟨.ref s.heap.objs.size, _, I1, rfl, ⟨_, x, rfl, I.hok.fresh (Nat.le_refl _), rfl, ?_⟩, ⟨⟨y, ?_⟩, st'.1.at fun o q => (sb.2 it (Ne.symm hne)).trans q, hne⟩, ?_⟩
    · intro ys hys
      rw [I.tuple_inj hys hq]
      exact hx
    · rw [show ((i + 1 : Nat) : Int) = (i : Int) + 1 by omega]
      exact he2
    · intro b hb
      have lt : b < s.heap.objs.size := by
        rcases List.mem_cons.mp
              hb with z | z
        · rw [z]; exact elt
        · rw [List.mem_singleton.mp z]; exact ilt
      rw [upd_ne (Nat.ne_of_lt lt)]
      exact (hf b hb).1
  done := by
    intro X hP hw hK hc i pins s σ
          H E I hf st hg
    subst hP hw hK
    obtain ⟨⟨old, he⟩, hit,
          hne⟩ := st
    obtain ⟨xs, hq, hx⟩ := hg
    obtain ⟨its, rv, p, hz⟩
          := I.tuple hq
    have tp : s.heap.IsTuple a its.toArray := p
    have nai : a ≠ it := by
      intro z
      subst z
      obtain ⟨o1, g1, c1, _⟩ := hit
      obtain ⟨o2, g2, c2, _⟩ := tp
      rw [g1] at g2
      cases g2
      rw [c1] at c2
      exact absurd (Value.type.inj c2) (by decide)
    obtain ⟨f0, f1, f2, f3, f4, f5⟩ :=
          hf it (by simp)
    have ln := rv.length
    have none1 : its.toArray[i]? = none := by simp; omega
    have ty : s.TypeIs (.ref e) "enumerate" := ⟨_, he, rfl⟩
    unfold pyNext
    refine wpAny_bind
          (wpAny_attempt ?_)
    refine wpAny_callSpecial?_slot (name := Str.ofString "__next__") ty F.slot_enumerate_next ?_
    refine wpAny_call_entry F.slot_enumerate_next ty F.entry_enumerate_next ?_ (F.args_enumerate_next_1 _)
    show wpAny _ _ (field (.ref e)
          2 >>= _) _ _ _
    refine wpAny_bind ?_
    refine wpAny_field he rfl (x := .ref it) rfl ?_
    refine wpAny_bind ?_
    refine wpAny_nextOf_tuple_end (I.ok.hd hc) hit tp none1 ?_
    rintro h' x eb ⟨o, ho, hcl⟩
    refine wpAny_bind (wpAny_isInstance (T := "StopIteration") (b := true) ⟨o, ho, hcl⟩ isSubtype_stop ?_)
    refine wpAny_pure ⟨rfl, ?_⟩
    exact I.turned (t' := s.toks) (fun b o hb q => eb b o hb q) f0 f1 f3 f4 f5
  self := by
    rintro A i s Q E ⟨⟨_, he⟩, _⟩ h
    exact wpAny_pyIter_enum he h
def iEnumT (K : PySem.W.Frag) (ta : TA) : TI := fun σ H R => ta σ H fun vs H1 => ∃ a xs, vs = [.ref a] ∧ SqT K H1 a xs ∧ R (Itet K a) H1
theorem pi_enumT {X : Cx} {e : Expr} {ta : TA} {p pos tpos : Pos} {elts : List Expr} {kk : Nat} (hg : Gl X "enumerate") (hm : X.mg "enumerate" = none) (ha : PA X [e] ta)
    (hs : starEach [e] X.env = [(false, eval e X.env)] := by rfl) : PI X (.Tuple elts kk tpos) (.Call (.Name "enumerate" p) [e] [] pos) (iEnumT X.K ta) := by
  constructor
  intro pins s σ H R I h
  refine Call_ (ld_blt I hg hm boot_enumerate (PyProof.Rows.callWith_type1 (thn (ha.run pos pins s σ H _ I h) ?_) hs rfl))
  rintro us s1 ⟨vs, H1, I1, r1, a, xs, ex, hq, q⟩
  subst ex
  obtain ⟨u, rfl, ru⟩
        := vals1 r1
  obtain rfl : u = Value.ref
        a := ru
  obtain ⟨its, rv, tp, hz⟩ := I1.tuple hq
  refine call_enumerate_tuple (items := its.toArray) tp ?_
  intro h' he hit hk
  refine wpAny_pyIter_enum
        he ?_
  refine ⟨s1.heap.objs.size + 1, [s1.heap.objs.size + 1, s1.heap.objs.size], _, _, H1, rfl, I1.kept (t' := s1.toks) hk, turn_enumT a (s1.heap.objs.size + 1) s1.heap.objs.size, ⟨⟨.none, he⟩, hit, Nat.succ_ne_self _⟩, ?_, q⟩
  intro b hb
  have le : s1.heap.objs.size ≤ b := by
    rcases List.mem_cons.mp
          hb with z | z
    · rw [z]; exact Nat.le_succ _
    · rw [List.mem_singleton.mp z]; exact Nat.le_refl _
  exact I1.fpOk le (I1.hok.fresh le)
/-- for i, x in enumerate(t) -/
theorem for_enumT {K : PySem.W.Frag} {a : Addr} {xs : List V} {g : TG} {tb : TS} {D : Ends} {σ : L2.St} {H : Hp} (Pv : Nat → L2.St → Hp → Prop) (h0 : Pv 0 σ H) (hl : ∀ i σ H, i ≤ xs.length → Pv i σ H → SqT K H a xs)
    (hs : ∀ i x σ H T, xs[i]? = some x → Pv i σ H → H T = none → g (.ref T) σ (upd H T (.tup [.int (i : Nat), x])) fun σ2 H2 => tb { D with nx := Pv (i + 1), ct := Pv (i + 1), bk := D.nx } σ2 H2) (hd : ∀ σ H, Pv xs.length σ H → D.nx σ H) :
    ∃ W : Nat → Nat → L2.St → Hp → Prop, (∃ m, W 0 m σ H)
          ∧ ∀ i m σ H, W i m σ H →
      ((Itet K a).stop i H ∧ D.nx σ H) ∨ ((Itet K a).go i H ∧ ∃ N : L2.St → Hp → Prop, (∀ σ' H', N σ' H' → ∃ m', m' < m ∧ W (i + 1) m' σ' H') ∧
        ∀ x H', (Itet K a).yld i H x H' → g x σ H' fun σ2 H2 => tb { D with nx := N, ct := N, bk := D.nx } σ2 H2) := by
  refine ⟨fun i m σ H => m = xs.length - i ∧ i ≤ xs.length ∧ Pv i σ H,
        ⟨xs.length, rfl, Nat.zero_le _, h0⟩, ?_⟩
  rintro i m σ H ⟨rfl, hi, p⟩
  have sq := hl i σ H hi p
  by_cases lt : i < xs.length
  · refine .inr ⟨⟨xs, xs[i], sq, List.getElem?_eq_getElem lt⟩, Pv (i + 1), fun σ' H' p' => ⟨xs.length - (i + 1), by omega, rfl, lt, p'⟩, ?_⟩
    rintro y H' ⟨T, x, rfl, nT, rfl, look⟩
    exact hs i x σ H T (look _ sq) p nT
  · have e : i = xs.length
        := by omega
    subst e
    exact .inl ⟨⟨xs, sq, Nat.le_refl _⟩, hd σ H p⟩
end LW

set_option Elab.async false
set_option linter.all false
set_option maxRecDepth 100000
set_option maxHeartbeats 4000100
/-! C(e, *xs) of an own class; C.m(e), m a staticmethod; o.m(k = e) -/
namespace LW
open PySem PySem.Spec PyProof.Rows L2 StX
section
variable {X : Cx} {CX : CXT} {k j : Nat} {f C : Addr} {sp : Sp} {E : XK} {x : Str} {e1 e2 : Expr} {t1 t2 : TE} {p p2 pos : Pos}
theorem pe_makeS (M : Mk X.K C f) (F : FnR X.prog X.w X.K X.mg X.base CX k f sp) (hr : Room (k + 1) X.A) (hg : Gl X x) (hm : X.mg x = some (.ref C)) (hx : Passes CX X E)
    (h1 : PE X e1 t1) (h2 : PE X e2 t2) (hdb : (x == ("__debug__" : Str)) = false := by decide)
    (hst : starEach [e1, .Starred e2 p2] X.env = [(false, eval e1 X.env), (true, eval e2 X.env)] := by rfl) :
    PE X (.Call (.Name x p) [e1, .Starred e2 p2] [] pos) (tMakeR C sp E (tCons t1 (tStar X.K t2 tNil))) := by
  constructor
  intro pins s σ H Q I h
  refine wpAny_Call_Name_kw (ld_glob
        I hg hm ?_ hdb)
  rw [hst]
  refine PySem.W.ks_call (P := X.K.In) rfl (PySem.W.keeps_K M.kp) (Calls.evalArgs_plain (Calls.spliced_cons (thn (h1.run pins s σ H _ I h) ?_)))
  rintro v1 s1 ⟨y1, H1, I1, r1, q1⟩
  refine PySem.W.ks_spliced (thn (h2.run pins s1 σ H1 _ I1 q1) ?_)
  rintro v2 s2 ⟨y2, H2, I2, r2, t, xs, e, ht, q2⟩
  subst e
  obtain rfl : v2 = Value.ref t := r2
  refine star_any I2 ht ?_
  intro us s3 I3 rv
  refine Calls.spliced_nil ?_
  show X.K.In s3.heap ∧ wpAny (model X.prog X.w) X.A (call (.ref C) (v1 :: (us ++ [])) []) (EP X pins σ Q) X.xe s3
  rw [List.append_nil]
  have q3 : (fun (vs : List V) (H1 : Hp) => ∀ (x dx : Addr), H1 x = Option.none → H1 dx = Option.none → dx ≠ x → sp (V.ref x :: vs) (upd (upd H1 dx (HO.own x)) x (HO.ins C dx [])) (fun v H2 => v = V.non ∧ Q (V.ref x) H2) E) (y1 :: (xs ++ [])) H2 := q2
  rw [List.append_nil] at q3
  exact ⟨I3.kIn, run_makeR M F hr hx I3 (.cons r1 rv) q3⟩
end
/-- a class that may be made, by a positional promise of its __init__ -/
structure MakR (P : Program) (w : World) (K : PySem.W.Frag) (mg : Str → Option Value) (base : Heap) (k : Nat) (x : Str) (C : Addr) (sp : Sp) : Prop where
  ex : ∃ f : Addr, Mk K C f ∧ FnR P w K mg base CX0 k f sp ∧ mg x = some (.ref C)
section
variable {X : Cx} {k j : Nat} {C : Addr} {sp : Sp} {x : Str} {e e1 e2 : Expr} {es : List Expr} {t1 t2 : TE} {t : TA} {p p2 pos : Pos}
theorem pe_mkS (c : MakR X.prog X.w X.K X.mg X.base k x C sp) (hr : Room j X.A) (hk : k + 1 ≤ j) (hg : Gl X x)
    (h1 : PE X e1 t1) (h2 : PE X e2 t2) (hdb : (x == ("__debug__" : Str)) = false := by decide)
    (hst : starEach [e1, .Starred e2 p2] X.env = [(false, eval e1 X.env), (true, eval e2 X.env)] := by rfl) :
    PE X (.Call (.Name x p) [e1, .Starred e2 p2] [] pos) (tMakeR C sp E0 (tCons t1 (tStar X.K t2 tNil))) := by
  obtain ⟨f, M, F, m⟩ := c.ex
  exact pe_makeS M F (hr.mono hk) hg m pass0 h1 h2 hdb hst
theorem pe_mkP (c : MakR X.prog X.w X.K X.mg X.base k x C sp) (hr : Room j X.A) (hk : k + 1 ≤ j) (hg : Gl X x) (ha : PA X (e :: es) t) (hdb : (x == ("__debug__" : Str)) = false := by decide)
    (he : starEach (e :: es) X.env = (false, eval e X.env) :: starEach es X.env := by
          rfl) (hpl : (backTo pos (starEach es X.env)).any (·.1) = false := by rfl) :
    PE X (.Call (.Name x p) (e :: es) [] pos) (tMakeR C sp E0 t) := by
  obtain ⟨f, M, F, m⟩ := c.ex
  exact pe_makeR M F (hr.mono hk) hg m pass0 ha hdb he hpl
end
end LW
/-! ### a staticmethod of a class, called by the class -/
namespace LW
open PySem PySem.Spec PyProof.Rows L2 StX ClX
structure SMet (K : PySem.W.Frag) (C : Addr) (mc : Value) (m : Str) (p g : Addr) : Prop where
  rd : CRead K C mc
  at_ : PySem.W.findCls K (.ref C) mc m = some (.get (.builtin "staticmethod.__get__") (.ref p) .none (.ref C))
  rc : ∃ rest, PySem.W.recIn K p "staticmethod" = some (.ref g :: rest)
  kp : PySem.W.keepIn K (.ref g) = true
section
variable {X : Cx} {pins : List (Addr × Obj)} {σ : L2.St} {H : Hp} {s : Shared} {C p g : Addr} {mc : Value} {m : Str} {A : Around} {E : Value → Shared → Prop}
theorem getsm_ok {pl : Sem Bool} {Q : Value × List Value → Shared → Prop} (I : Inv X pins σ H s) (k : SMet X.K C mc m p g) (h : ∀ s', Inv X pins σ H s' → Q (.ref g, []) s') :
    wpAny (model X.prog X.w) A (getMethod (.ref C) m pl) Q E s := by
  refine PySem.W.method_cls I.kIn k.rd.ga ?_
  obtain ⟨rest, hp⟩ := k.rc
  refine PySem.W.cls_bind I.kIn k.rd.rd k.at_ ?_
  refine wpAny_call (PySem.W.sm_get (s := { s with toks := s.toks + 1 }) I.kIn hp (PySem.W.handed_on rfl ?_))
  exact h _ (I.tok _)
end
/-- .. that may be called so -/
structure Sta (P : Program) (w : World) (K : PySem.W.Frag) (mg : Str → Option Value) (base : Heap) (k : Nat) (x : Str) (m : Str) (sp : Sp) : Prop where
  ex : ∃ (C : Addr) (mc : Value) (p g : Addr) (fd : FuncData) (ps : List Str), mg x = some (.ref C) ∧ SMet K C mc m p g ∧ FnOk P w K mg base CX0 k g fd ps sp ∧ Binds K fd ps []
section
variable {X : Cx} {k j : Nat} {x m : Str} {sp : Sp} {e : Expr} {es : List Expr} {t : TA} {np apos pos : Pos}
theorem pe_sta {pl : Sem Bool} (c : Sta X.prog X.w X.K X.mg X.base k x m sp) (hr : Room j X.A) (hk : k ≤ j) (hg : Gl X x) (ha : PA X (e :: es) t) (hdb : (x == ("__debug__" : Str)) = false := by decide)
    (hst : starEach (e :: es) X.env = (false, eval e X.env) :: starEach es X.env := by rfl)
    (hpl : (backTo pos (starEach es X.env)).any (·.1) = false := by rfl)
    (ht : eval (.Call (.Attribute (.Name x np) m apos) (e
          :: es) [] pos) X.env = (do
        let v ← eval (.Name x np) X.env
        standAt apos.atName
        let (g, fst) ← holding [v] (getMethod v m pl)
        callWith pos g fst (backTo pos (starEach (e :: es) X.env)) (backToKw pos (keywordEach [] X.env))) := by rfl) :
    PE X (.Call (.Attribute (.Name x np) m apos) (e :: es) [] pos) (tCall sp [] E0 t) := by
  obtain ⟨C, mc, p, g, fd, ps, gx, sm, F, b⟩ := c.ex
  constructor
  intro pins s σ H Q I h
  refine PySem.W.methodCall_KW (pl := pl) (ld_glob I hg gx ?_ hdb) ht
  refine getsm_ok I sm ?_
  intro s1 I1
  refine PySem.W.callWith_K (h₀ := X.base) I.ok.mod.kin sm.kp (thn (ha.run pos pins s1 σ H _ I1 h) ?_) hst hpl
  rintro us s2 ⟨vs, H2, I2, rv, q⟩
  exact ⟨I2.kIn, run_fn F (hr.mono hk) b .nil pass0 I2 rv q⟩
end
/-! ### o.m(k = e) -/
section
variable {X : Cx} {k j : Nat} {C : Addr} {m : Str} {sp : Sp} {o : Expr} {kws : List Keyword} {ta : TE} {tk : TA} {apos pos : Pos}
/-- a method that may be called with one keyword -/
structure MetK (P : Program) (w : World) (K : PySem.W.Frag) (mg : Str → Option Value) (base : Heap) (k : Nat) (C : Addr) (m : Str) (ks : List Str) (sp : Sp) : Prop where
  ex : ∃ (f : Addr) (fd : FuncData) (ps : List Str), Cls K C ∧ Meth K C m f ∧ FnOk P w K mg base CX0 k f fd ps sp ∧
    ∀ (s : Shared) (u : Value) (ws : List Value), K.In s.heap → (u :: ws).length = ps.length → BindsTo s fd ⟨[u], ks.zip ws⟩ (ps.zip (u :: ws))
theorem pe_mtk {pl : Sem Bool} {ks : List Str} (c : MetK X.prog X.w X.K X.mg X.base k C m ks sp) (hr : Room j X.A) (hk : k ≤ j) (he : PE X o ta) (hkw : PK X kws tk)
    (hall : (backToKw pos (keywordEach kws X.env)).all (·.1.isSome) = true := by rfl)
    (hks : (backToKw pos (keywordEach kws X.env)).filterMap (·.1) = ks := by rfl)
    (hplain : ((backTo pos (starEach [] X.env)).any (·.1) || (backToKw pos (keywordEach kws X.env)).any (·.1.isNone)) = false := by rfl)
    (ht : eval (.Call (.Attribute o m apos) [] kws pos) X.env = (do
        let v ← eval o X.env
        standAt apos.atName
        let (g, fst) ← holding [v] (getMethod v m pl)
        callWith pos g fst (backTo pos (starEach [] X.env)) (backToKw pos (keywordEach kws X.env))) := by rfl) :
    PE X (.Call (.Attribute o m apos) [] kws pos) (tMeth C m sp [] E0 ta tk) := by
  obtain ⟨f, fd, ps, cl, me, F, b⟩ := c.ex
  constructor
  intro pins s σ H Q I h
  refine PySem.W.methodCall_KW (pl := pl) (thn (he.run pins s σ H _ I h) ?_) ht
  rintro u s1 ⟨x, H1, I1, rx, a, dx, fs, ex, ea, l, q⟩
  subst ex
  obtain rfl : u = Value.ref
        a := rx
  refine getmeth_ok I1 ea cl me l ?_
  refine PySem.W.callWith_KW0 (first := [.ref a]) (h₀ := X.base) I.ok.mod.kin me.kp hall (thn (hkw.run pos pins s1 σ H1 _ I1 q) ?_) hplain
  rintro ws s2 ⟨zs, H2, I2, rz, q2⟩
  refine ⟨I2.kIn, ?_⟩
  rw [hks]
  have q3 : sp (V.ref a :: (zs ++ [])) H2 Q E0 := q2
  rw [List.append_nil] at q3
  have rel : Vals (V.ref a :: zs) (Value.ref a :: ws) := .cons rfl rz
  have ln : (Value.ref a :: ws).length = ps.length := rel.length ▸ F.len _ _ _ _ q3
  refine wpAny_call (codeAny_mono (F.run X.A X.stack s2 H2 ⟨[.ref a], ks.zip ws⟩ (.ref a :: ws) (.ref a :: zs) Q E0 (hr.mono hk) I2.env0 (b s2 (.ref a) ws I2.kIn ln) rel q3) ?_)
  intro res s' fin
  match res, fin with
  | .error er, fin => exact pass0 pins σ H2 s2 er s' I2 fin
  | .ok (.ret u), fin => exact I2.after fin
  | .ok .next, fin => exact fin.elim
  | .ok .brk, fin => exact fin.elim
  | .ok .cont, fin => exact fin.elim
end
end LW

set_option Elab.async false
set_option linter.all false
set_option maxRecDepth 100000
set_option maxHeartbeats 4000100
namespace LW
open L2 PySem.Spec PyProof.Rows PySem
/-- a def that may be called by its name with two keywords, ps in their order, the given ones the other way round -/
structure CalR (P : Program) (w : World) (K : PySem.W.Frag) (mg : Str → Option Value) (base : Heap) (k : Nat) (x : Str) (ks : List Str) (sp : Sp) : Prop where
  ex : ∃ (f : Addr) (fd : FuncData) (ps : List Str), FnOk P w K mg base CX0 k f fd ps sp ∧ mg x = some (.ref f) ∧ PySem.W.keepIn K (.ref f) = true ∧
    ∀ (s : Shared) (ws : List Value), K.In s.heap → ws.length = ps.length → BindsTo s fd ⟨[], ks.zip ws⟩ (ps.zip ws.reverse)
/-- the spec of the call: what is given, the other way round -/
def tCallR (sp : Sp) (E : XK) (ta : TA) : TE := fun σ H Q => ta σ H fun vs H1 => sp vs.reverse H1 Q E
theorem vals_rev {xs : List V} {us : List Value} (h : Vals xs us) : Vals xs.reverse us.reverse := by
  induction h with
  | nil => exact .nil
  | cons r t ih =>
    rw [List.reverse_cons,
          List.reverse_cons]
    exact ih.append (.cons r .nil)
section
variable {X : Cx} {k j : Nat} {x : Str} {sp : Sp} {p pos : Pos} {kws : List Keyword} {tk : TA} {ks : List Str}
theorem pe_ckR (cl : CalR X.prog X.w X.K X.mg X.base k x ks sp) (hr : Room j X.A) (hk : k ≤ j) (hg : Gl X x) (hkw : PK X kws tk)
    (hdb : (x == ("__debug__" : Str)) = false := by decide)
    (hall : (backToKw pos (keywordEach kws X.env)).all (·.1.isSome) = true := by rfl)
    (hks : (backToKw pos (keywordEach kws X.env)).filterMap (·.1) = ks := by rfl)
    (hplain : ((backTo pos (starEach [] X.env)).any (·.1) || (backToKw pos (keywordEach kws X.env)).any (·.1.isNone)) = false := by rfl) :
    PE X (.Call (.Name x p) [] kws pos) (tCallR sp E0 tk) := by
  obtain ⟨f, fd, ps, F, m, kp, b⟩ := cl.ex
  constructor
  intro pins s σ H Q I h
  refine wpAny_Call_Name_kw (ld_glob I hg m ?_ hdb)
  refine PySem.W.callWith_KW0 (first := []) (h₀ := X.base) I.ok.mod.kin kp hall (thn (hkw.run pos pins s σ H _ I h) ?_) hplain
  rintro ws s2 ⟨zs, H2, I2, rz, q2⟩
  refine ⟨I2.kIn, ?_⟩
  rw [hks]
  have q3 : sp zs.reverse H2 Q E0 := q2
  have rel : Vals zs.reverse ws.reverse := vals_rev rz
  have ln : ws.length = ps.length := by rw [← List.length_reverse, ← rel.length]; exact F.len _ _ _ _ q3
  refine wpAny_call (codeAny_mono (F.run X.A X.stack s2 H2 ⟨[], ks.zip ws⟩ ws.reverse zs.reverse Q E0 (hr.mono hk) I2.env0 (b s2 ws I2.kIn ln) rel q3) ?_)
  intro res s' fin
  match res, fin with
  | .error er, fin => exact pass0 pins σ H2 s2 er s' I2 fin
  | .ok (.ret u), fin => exact I2.after fin
  | .ok .next, fin => exact fin.elim
  | .ok .brk, fin => exact fin.elim
  | .ok .cont, fin => exact fin.elim
end
end LW

set_option Elab.async false
set_option linter.all false
set_option maxRecDepth 100000
set_option maxHeartbeats 4000100
namespace LW
open L2 PySem.Spec PyProof.Rows PySem
section
variable {X : Cx}
/-- repr(x), x None or a list or tuple of data -/
theorem call_reprN (quiet : X.A.guards = some []) {k : Nat} (hr : Room k X.A) : CallR X (.builtin "repr") (fun xs H Q => ∃ (v : V) (d : PyData), xs = [v] ∧ D X.K H v d ∧ (d = .none ∨ ∃ a, v = .ref a) ∧ d.showable = true ∧ d.hasDict = false ∧ d.depth ≤ 60 ∧ d.shown.length ≤ sizeLine ∧ Q (.str d.shown) H) := by
  intro pins s σ H xs
        us Q I r h
  obtain ⟨v, d, rfl, hd, kind, hs, hn, hdep, hsz, q⟩ := h
  rcases kind with rfl | ⟨a, rfl⟩
  · obtain ⟨u, rfl, ru⟩ := vals1 r
    cases hd
    obtain rfl : u = Value.none := ru
    refine PySem.P.repr_of_none ?_
    have e : (PyData.none).shown = ("None" : Str) := by simp [PyData.shown]
    rw [e] at q
    exact ⟨.str ("None" : Str), H, I.tok _, ⟨_, rfl⟩, q⟩
  · exact call_reprD quiet hr pins s σ H _ us Q I r ⟨a, d, rfl, hd, hs, hn, hdep, hsz, q⟩
end
/-! ### a def without parameters, called -/
structure CalG0 (P : Program) (w : World) (K : PySem.W.Frag) (mg : Str → Option Value) (base : Heap) (k : Nat) (x : Str) (sp : Sp) : Prop where
  ex : ∃ (f : Addr) (fd : FuncData), FnG P w K mg base CX0 k f fd [] sp ∧ mg x = some (.ref f) ∧ PySem.W.keepIn K (.ref f) = true ∧ ∀ s : Shared, K.In s.heap → BindsTo s fd ⟨[], []⟩ []
def tCall0 (sp : Sp) (E : XK) : TE := fun _ H Q => sp [] H Q E
section
variable {X : Cx} {k j : Nat} {x : Str} {sp : Sp} {p pos : Pos}
theorem pe_c0G (quiet : X.A.guards = some []) (cl : CalG0 X.prog X.w X.K X.mg X.base k x sp) (hr : Room j X.A) (hk : k ≤ j) (hg : Gl X x) (hdb : (x == ("__debug__" : Str)) = false := by decide) :
    PE X (.Call (.Name x p) [] [] pos) (tCall0 sp E0) := by
  obtain ⟨f, fd, F, m, kp, b⟩ := cl.ex
  constructor
  intro pins s σ H Q I h
  refine wpAny_Call_Name_kw (ld_glob I hg m ?_ hdb)
  refine PySem.W.callWith_KW0 (first := []) (kws := []) (h₀ := X.base) I.ok.mod.kin kp rfl (thn (pk_nil.run pos pins s σ H (fun vs H1 => vs = [] ∧ sp [] H1 Q E0) I ⟨rfl, h⟩) ?_) rfl
  rintro ws s2 ⟨zs, H2, I2, rz, e, q2⟩
  subst e
  cases rz
  refine ⟨I2.kIn, ?_⟩
  refine wpAny_call (codeAny_mono (F.runs X.A X.stack s2 H2 ⟨[], []⟩ [] [] Q E0 (hr.mono hk) quiet I2.env0 (b s2 I2.kIn) .nil q2) ?_)
  intro res s' fin
  match res, fin with
  | .error er, fin => exact pass0 pins σ H2 s2 er s' I2 fin
  | .ok (.ret u), fin => exact I2.after fin
  | .ok .next, fin => exact fin.elim
  | .ok .brk, fin => exact fin.elim
  | .ok .cont, fin => exact fin.elim
end
/-! ### written lists: of pairs of texts, of None and pairs of numbers -/
def pairS (q : Str × Str) : PyData := .tuple [.str q.1, .str q.2]
def tplS : List (Str × Str) → TA
  | [] => tNil
  | q :: r => tCons (tTup (tCons (tC (.str q.1)) (tCons (tC (.str q.2)) tNil))) (tplS r)
theorem rd_tplS {K : PySem.W.Frag} {A : List Addr} {σ : L2.St} : ∀ (qs : List (Str × Str)) {H : Hp} {Q : List V → Hp → Prop}, Hd A H → (∀ vs H', Same H H' → Iss K A H' vs (qs.map pairS) → Q vs H') → tplS qs σ H Q
  | [], H, Q, _, k => k [] H (Same.refl H) DAll.nil
  | q :: r, H, Q, hA, k => by
    refine ⟨by show 2 ≤ sizeLine; decide, fun p np => ?_⟩
    have s1 : Same H (upd H p (.tup [.str q.1, .str q.2])) := same_new np
    have h1 : Is K A (upd H p (.tup [.str q.1, .str q.2])) (.ref p) (pairS q) := is_new_tup hA np (DAll.cons (.str _) (DAll.cons (.str _) DAll.nil))
    exact rd_tplS r (hd_new hA np) fun vs H' s h => k (.ref p :: vs) H' (s1.trans s) (DAll.cons (Is.mono (Go.of s) h1) h)
def optD2 : Option (Nat × Nat) → PyData
  | none => .none
  | some (k, l) => .tuple [.int (k : Nat), .int (l : Nat)]
def tplO : List (Option (Nat × Nat)) → TA
  | [] => tNil
  | none :: r => tCons (tC .non) (tplO r)
  | some q :: r => tCons (tTup (tCons (tC (.int (q.1 : Nat))) (tCons (tC (.int (q.2 : Nat))) tNil))) (tplO r)
theorem rd_tplO {K : PySem.W.Frag} {A : List Addr} {σ : L2.St} : ∀ (qs : List (Option (Nat × Nat))) {H : Hp} {Q : List V → Hp → Prop}, Hd A H → (∀ vs H', Same H H' → Iss K A H' vs (qs.map optD2) → Q vs H') → tplO qs σ H Q
  | [], H, Q, _, k => k [] H (Same.refl H) DAll.nil
  | none :: r, H, Q, hA, k => rd_tplO r hA fun vs H' s h => k (.non :: vs) H' s (DAll.cons .non h)
  | some (x, y) :: r, H, Q, hA, k => by
    refine ⟨by show 2 ≤ sizeLine; decide, fun p np => ?_⟩
    have s1 : Same H (upd H p (.tup [.int (x : Nat), .int (y : Nat)])) := same_new np
    have h1 : Is K A (upd H p (.tup [.int (x : Nat), .int (y : Nat)])) (.ref p) (optD2 (some (x, y))) := is_new_tup hA np (DAll.cons (.int _) (DAll.cons (.int _) DAll.nil))
    exact rd_tplO r (hd_new hA np) fun vs H' s h => k (.ref p :: vs) H' (s1.trans s) (DAll.cons (Is.mono (Go.of s) h1) h)
/-! ### what is shown of such a list -/
def okO : Option (Nat × Nat) → Prop
  | none => True
  | some (x, y) => x < 1000 ∧ y < 1000
theorem log_small {x : Nat} (h : x < 1000) : ((x : Nat) : Int).natAbs.log2 < 1920 := by
  have : ((x : Nat) : Int).natAbs < 2 ^ 10 := by omega
  exact Nat.lt_of_lt_of_le (PySem.Flt.log2_lt_of (by decide) this) (by decide)
theorem showO : ∀ qs : List (Option (Nat × Nat)), (∀ q ∈ qs, okO q) → PyData.showableAll (qs.map optD2) = true ∧ PyData.hasDictAll (qs.map optD2) = false ∧ PyData.depthAll (qs.map optD2) ≤ 1
  | [], _ => by simp [PyData.showableAll, PyData.hasDictAll, PyData.depthAll]
  | none :: r, ok => by
    obtain ⟨a, b, c⟩ := showO r fun q hq => ok q (by simp [hq])
    refine ⟨?_, ?_, ?_⟩
    · simp only [List.map_cons, optD2, PyData.showableAll, PyData.showable, a, Bool.and_self]
    · simp only [List.map_cons, optD2, PyData.hasDictAll, PyData.hasDict, b, Bool.or_self]
    · simp only [List.map_cons, optD2, PyData.depthAll, PyData.depth]; omega
  | some (x, y) :: r, ok => by
    obtain ⟨a, b, c⟩ := showO r fun q hq => ok q (by simp [hq])
    obtain ⟨hx, hy⟩ : x < 1000 ∧ y < 1000 := ok (some (x, y)) (by simp)
    refine ⟨?_, ?_, ?_⟩
    · simp only [List.map_cons, optD2, PyData.showableAll, PyData.showable, a, decide_eq_true (log_small hx), decide_eq_true (log_small hy), Bool.and_self]
    · simp only [List.map_cons, optD2, PyData.hasDictAll, PyData.hasDict, b, Bool.or_self]
    · simp only [List.map_cons, optD2, PyData.depthAll, PyData.depth]; omega
theorem showL {qs : List (Option (Nat × Nat))} (ok : ∀ q ∈ qs, okO q) : (PyData.list (qs.map optD2)).showable = true ∧ (PyData.list (qs.map optD2)).hasDict = false ∧ (PyData.list (qs.map optD2)).depth ≤ 60 := by
  obtain ⟨a, b, c⟩ := showO qs ok
  refine ⟨?_, b, ?_⟩
  · simp only [PyData.showable]; exact a
  · simp only [PyData.depth]; omega
theorem show1 {q : Option (Nat × Nat)} (ok : okO q) : (optD2 q).showable = true ∧ (optD2 q).hasDict = false ∧ (optD2 q).depth ≤ 60 := by
  match q, ok with
  | none, _ => exact ⟨by simp [optD2, PyData.showable], by simp [optD2, PyData.hasDict], by simp [optD2, PyData.depth]⟩
  | some (x, y), ⟨hx, hy⟩ =>
    refine ⟨?_, ?_, ?_⟩
    · simp only [optD2, PyData.showable, PyData.showableAll, decide_eq_true (log_small hx), decide_eq_true (log_small hy), Bool.and_self]
    · simp only [optD2, PyData.hasDict, PyData.hasDictAll, Bool.or_self]
    · simp only [optD2, PyData.depth, PyData.depthAll]; omega
theorem catL (x y : Str) : (x ++ y).length = x.length + y.length := by
  unfold Str.length
  exact (Array.size_append : (x.cps ++ y.cps).size = _)
theorem natL {x : Nat} (h : x < 1000) : (PyData.shown (.int (x : Nat))).length ≤ 100 := by
  show (Str.ofString (toString ((x : Nat) : Int))).length ≤ 100
  have e : (Str.ofString (toString ((x : Nat) : Int))) = SX.S (TL.numL x) := by rw [← SX.num_S]
  rw [e, SX.S_len]
  exact TL.numL_len (by decide) (by omega)
theorem optL {q : Option (Nat × Nat)} (ok : okO q) : (optD2 q).shown.length ≤ 300 := by
  match q, ok with
  | none, _ =>
    have e : (PyData.none).shown = ("None" : Str) := by simp [PyData.shown]
    show (PyData.none).shown.length ≤ 300
    rw [e]
    decide +kernel
  | some (x, y), ⟨hx, hy⟩ =>
    have h1 := natL hx
    have h2 := natL hy
    have e : PyData.shown (optD2 (some (x, y))) = ("(" : Str) ++ Str.join ", " [PyData.shown (.int (x : Nat)), PyData.shown (.int (y : Nat))] ++ (")" : Str) := by
      unfold optD2
      simp only [PyData.shown, PyData.shownAll, tupleText]
      rfl
    have e2 : (Str.join ", " [PyData.shown (.int (x : Nat)), PyData.shown (.int (y : Nat))]).length + 2 = piled [PyData.shown (.int (x : Nat)), PyData.shown (.int (y : Nat))] := join_length_add _ (by simp)
    rw [e, catL, catL]
    have k1 : ("(" : Str).length = 1 := by decide +kernel
    have k2 : (")" : Str).length = 1 := by decide +kernel
    simp only [piled, List.map_cons, List.map_nil, List.sum_cons, List.sum_nil] at e2
    omega
theorem threeL {x y z : PyData} (hx : x.shown.length ≤ 300) (hy : y.shown.length ≤ 300) (hz : z.shown.length ≤ 300) : (PyData.list [x, y, z]).shown.length ≤ sizeLine := by
  have e : PyData.shown (.list [x, y, z]) = ((("[" : Str) ++ ("" : Str) ++ x.shown) ++ (", " : Str) ++ y.shown) ++ (", " : Str) ++ z.shown ++ ("]" : Str) := by
    simp only [PyData.shown, PyData.shownAll]
    rfl
  have k1 : ("[" : Str).length = 1 := by decide +kernel
  have k2 : ("]" : Str).length = 1 := by decide +kernel
  have k3 : (", " : Str).length = 2 := by decide +kernel
  have k4 : ("" : Str).length = 0 := by decide +kernel
  rw [e, catL, catL, catL, catL, catL, catL, catL, sizeLine_eq]
  omega
end LW

set_option Elab.async false
set_option linter.all false
set_option maxRecDepth 100000
set_option maxHeartbeats 4000100
/-! sum(t) and min(t) of a tuple of ints -/
namespace LW
open L2 PySem.Spec PyProof.Rows PySem
section
variable {prog : Program} {w : World} {A : Around} {E : Value
      → Shared → Prop} {s : Shared}
theorem sum_tup_raw {l : Addr} {its : List Value} {ns : List Int} {Q : Value → Shared → Prop} (hh : A.handled = none) (hl : s.heap.IsTuple l its.toArray) (hi : IntsAre its ns)
    (h : ∀ h' tk t', (∀ b o, s.heap.get? b = some o → h'.get? b = some o) → Q (.int ns.sum t') { s with heap := h', toks := tk }) : wpAny
          (model prog w) A (call (.builtin "sum") [.ref l]) Q E s := by
  obtain ⟨xs, e⟩ :=
        hi.allInts.items
  have hn : numsOf (intItems xs).toList = ns := by
        rw [← e]; exact hi.numsOf
  rw [nums_intItems] at hn
  rw [e] at hl
  have hlt : l < s.heap.objs.size := by
        obtain ⟨_, e, _⟩ := hl; exact Heap.lt_size e
  refine PySem.call_sum_walkG (wpAny_pyIter_tuple hl ?_)
  refine ⟨_, _, _, _, _, _, numAt xs, rfl, Walks.tuple (A := A.in1) hh _ l (Nat.ne_of_lt hlt) (intItems xs), ⟨⟨_, Heap.get?_push_size _ rfl, rfl, rfl⟩, hl.push _⟩, (fun b hb => ?_), (fun _ _ => intItems_at), fun h' tk t' hk => ?_⟩
  · show b < (s.heap.push
        _).objs.size
    rw [Heap.size_push]
    rcases List.mem_cons.mp hb
          with rfl | hb
    · exact Nat.lt_succ_self _
    · rcases List.mem_cons.mp hb
          with rfl | hb
      · exact Nat.lt_succ_of_lt hlt
      · cases hb
  · have := h h' tk t' (fun b o eo => hk b o (fun hm => absurd (Heap.lt_size eo) ((List.mem_singleton.mp hm) ▸ Nat.lt_irrefl _)) (Heap.get?_push_of_some _ eo))
    have e2 : preSum (numAt xs) (intItems xs).size = ns.sum := by
      rw [show (intItems xs).size = xs.size by simp [intItems], preSum_eq, List.take_of_length_le (by simp), hn]
    rw [e2]
    exact this
end
section
variable {X : Cx}
def rSumT (K : PySem.W.Frag) : List V → Hp → VK → Prop := fun vs H Q => ∃ (a : Addr) (ns : List Int), vs = [V.ref a] ∧ SqT K H a (ns.map V.int) ∧ Q (.int ns.sum) H
theorem cr_sumT (hc : X.calm = true) : CallR X (.builtin "sum") (rSumT X.K) := by
  intro pins s σ H vs
        us Q I r h
  obtain ⟨a, ns, rfl,
        hs, q⟩ := h
  obtain ⟨its, rv, ht, _⟩ := I.tuple hs
  rw [Vals.ref1 r]
  exact sum_tup_raw (I.ok.hd hc) ht rv.ints fun h' tk t' hk => ⟨.int _, H, I.kept hk, ⟨_, rfl⟩, q⟩
/-- min of a tuple of two ints -/
def rMinT2 (K : PySem.W.Frag) : List V → Hp → VK → Prop := fun vs H Q => ∃ (a : Addr) (x y : Int), vs = [V.ref a] ∧ SqT K H a [.int x, .int y] ∧ ∀ m : Int, (m = x ∨ m = y) → m ≤ x → m ≤ y → Q (.int m) H
theorem cr_minT2 (hc : X.calm = true) {k : Nat} (hr : Room k X.A) : CallR X (.builtin "min") (rMinT2 X.K) := by
  intro pins s σ H vs
        us Q I r h
  obtain ⟨a, x, y, rfl, hs, q⟩ := h
  obtain ⟨its, rv, ht, _⟩ := I.tuple hs
  rw [Vals.ref1 r]
  have un := hr.un
  have hd : DAll X.K H [V.int x, V.int y] [PyData.int x, PyData.int y] := DAll.cons (.int x) (DAll.cons (.int y) DAll.nil)
  obtain ⟨as, ra, _⟩ := readsAll_of (P := fun _ => True) (h := s.heap) (us := its) (ds := [PyData.int x, PyData.int y]) trivial (fun _ _ _ _ => trivial) (by rw [← rv.length]; rfl) fun i u d h1 h2 => by
    obtain ⟨v, e, rx⟩ := vals_get' rv h1
    obtain ⟨as, z⟩ := D.reads I (hd.all i v d e h2) u rx
    exact ⟨as, z, trivial⟩
  refine PySem.W.min_tuple_data (vs := its.toArray) (I.ok.hd hc) ht ra ?_ ?_ fun i v h' tk bs _ rd hk => ?_
  · refine ⟨fun a ha b hb => ?_, fun a ha => ?_⟩
    · simp only [List.mem_cons, List.not_mem_nil, or_false] at ha hb
      rcases ha with rfl | rfl <;> rcases hb with rfl | rfl <;> rfl
    · simp only [List.mem_cons, List.not_mem_nil, or_false] at ha
      rcases ha with rfl | rfl <;> exact fun z => nomatch z
  · have : PyData.depthAll [PyData.int x, PyData.int y] = 0 := rfl
    rw [this]
    omega
  · have e : PySem.W.minD (.int x) [.int y] = .int (min x y) := PySem.W.minD_ints x [y]
    rw [e] at rd
    cases rd with
    | int _ t => exact ⟨.int _, H, I.kept hk, ⟨_, rfl⟩, q _ (by omega) (by omega) (by omega)⟩
end
end LW

set_option Elab.async false
set_option linter.all false
set_option maxRecDepth 100000
set_option maxHeartbeats 4000100
/-! for k, x in enumerate(xs, start=n), xs a list -/
namespace LW
open L2 PySem.Spec PyProof.Rows PySem
section
variable {M : Model} {A : Around} {E : Value → Shared →
      Prop} {s : Shared} {env : Env}
theorem callWith_tyB {pos : Pos} {T : String} {first : List Value} {args : List (Bool × Sem Value)} {keywords : List (Option Str × Sem Value)} {Q : Value → Shared → Prop}
    (hplain : args.any (·.1) = false) (hkw : keywords.any
          (·.1.isNone) = false)
    (h : wpAny M A (evalArgs (.type T) true args keywords) (fun a s₁ => wpAny M A (call (.type T) (first ++ a.pos) a.kw) Q E s₁) E s) :
    wpAny M A (callWith pos (.type T) first args keywords) Q E s := by
  unfold callWith
  refine wpAny_bind (wpAny_holding (wpAny_mono h (fun a t₁ w₁ => wpAny_bind (wpAny_standAt ?_)) fun _ _ x => x))
  simp only [hplain, hkw,
        Bool.or_false]
  refine wpAny_bind
        (wpAny_pure ?_)
  exact wpAny_bind (wpAny_mono w₁ (fun r t₂ wr => wpAny_bind (wpAny_holding (wpAny_point (wpAny_pure wr)))) fun _ _ x => x)
theorem callWith_tyK {pos : Pos} {T : String} {e : Expr} {rest : List Expr} {kws : List Keyword} {Q : Value → Shared → Prop}
    (h : wpAny M A (spliced (backTo pos (starEach (e :: rest) env))) (fun vs s₁ => wpAny M A (evalAll
          ((backToKw pos (keywordEach kws env)).map (·.2)))
      (fun kvs s₂ => wpAny M A (call (.type T) vs (((backToKw pos (keywordEach kws env)).filterMap (·.1)).zip kvs)) Q E s₂) E s₁) E s)
    (he : backTo pos (starEach (e :: rest) env) = (false, eval e env) :: backTo pos (starEach rest env))
    (hplain : (backTo pos (starEach (e :: rest) env)).any (·.1) = false)
    (hall : (backToKw pos (keywordEach kws env)).all
          (·.1.isSome) = true)
    (hkw : (backToKw pos (keywordEach kws env)).any (·.1.isNone) = false) :
    wpAny M A (callWith pos (.type T) [] (backTo pos (starEach (e :: rest) env)) (backToKw pos (keywordEach kws env))) Q E s := by
  refine callWith_tyB hplain hkw ?_
  rw [he] at h ⊢
  exact PyProof.Rows.evalArgs_kwB hall h
end
/-- the list at a at each turn, each item in a new pair with the count from n on -/
def Ites (K : PySem.W.Frag) (a : Addr) (n : Int) : It :=
  ⟨fun i H => ∃ (xs : List V) (x : V), SqL K H a xs ∧ xs[i]? = some x,
   fun i H v H' => ∃ T x, v = .ref T ∧ H T = none ∧ H' = upd H T (.tup [.int (n + (i : Nat)), x]) ∧ ∀ xs, SqL K H a xs → xs[i]? = some x,
   fun i H => ∃ xs : List V, SqL K H a xs ∧ xs.length ≤ i⟩
theorem turn_enumS {P : Program} {w : World} {K : PySem.W.Frag} {elts : List Expr} {kk : Nat} {tpos : Pos} (a e it : Addr) (n : Int) :
    Turn P w K (.Tuple elts kk tpos) (Ites K a n) [e, it] e (fun i h => (∃ old, IsEnum h e it (n + ((i : Nat) : Int)) old) ∧ h.IsListIter it a i ∧ e ≠ it) where
  mem := by simp
  obj := by
    rintro i h ⟨⟨old, he⟩, ⟨o, ho, hc, hd⟩, _⟩ b hb
    rcases List.mem_cons.mp
          hb with z | z
    · subst z; exact ⟨_, he, fun v q => nomatch q⟩
    · rw [List.mem_singleton] at z
      subst z
      exact ⟨o, ho, fun v q => by rw [hd] at q; cases q⟩
  keep := by
    rintro i h h' ⟨⟨old, he⟩, hi, hne⟩ k
    exact ⟨⟨old, k e (by simp) _ he⟩, hi.at fun o q => k it (by simp) o q, hne⟩
  item := by
    intro X hP hw hK hc i pins s σ
          H E I hf st hg
    subst hP hw hK
    obtain ⟨⟨old, he⟩, hit,
          hne⟩ := st
    obtain ⟨xs, x, hq, hx⟩ := hg
    obtain ⟨its, rv, p, hz⟩
          := I.list hq
    have tp : s.heap.IsList a its.toArray := p.isList
    obtain ⟨u, hu, ru⟩ :=
          rv.get hx
    have elt : e < s.heap.objs.size := Heap.lt_size he
    have ilt : it < s.heap.objs.size := by obtain ⟨_, q, _⟩ := hit; exact Heap.lt_size q
    have nai : a ≠ it := by
      intro z
      subst z
      obtain ⟨o1, g1, c1, _⟩ := hit
      obtain ⟨o2, g2, c2, _⟩ := tp
      rw [g1] at g2
      cases g2
      rw [c1] at c2
      exact absurd (Value.type.inj c2) (by decide)
    have nae : e ≠ a := by
      intro z
      subst z
      obtain ⟨o2, g2, c2, _⟩ := tp
      have g1 := he
      unfold IsEnum at g1
      rw [g1] at g2
      cases g2
      exact absurd (Value.type.inj c2) (by decide)
    have ilen : i < its.toArray.size := by
      have := (List.getElem?_eq_some_iff.mp hu).1
      simpa using this
    have dr := Draws.list (prog := X.prog) (w := X.w) (A := X.A.in1) (I.ok.hd hc) it a nai its.toArray
    refine wpAny_pyNext_enum_itemC dr he ⟨hit, tp⟩ ilen hne (by simp [hne, nae]) ?_
    intro y h' tk hy out st' newT size' kept
    have ey : y = u := by
      have : its.toArray[i]? = some u := by simpa using hu
      exact Option.some.inj (hy.symm.trans this)
    subst ey
    refine ⟨_, rfl, wpAny_letOwnedTupleGo_enum (s := { s with heap := h', toks := tk + 1 }) out ?_⟩
    intro h2 he2 sb
    have nT : h2.get? s.heap.objs.size = some { cls := .type "tuple", data := .seq #[.int (n + (i : Nat)) tk, y] } := (sb.2 _ (Nat.ne_of_gt elt)).trans newT
    have ob : ObjOk X.prog X.w (upd H s.heap.objs.size (.tup [.int (n + (i : Nat)), x])) h2 s.heap.objs.size (.tup [.int (n + (i : Nat)), x]) := by
      refine ⟨by show 2 ≤ sizeLine; decide, [.int (n + (i : Nat)) tk, y], .cons ⟨_, rfl⟩ (.cons ru .nil), ⟨_, nT, rfl, _, rfl⟩⟩
    have I1 : Inv X pins σ (upd H s.heap.objs.size (.tup [.int (n + (i : Nat)), x])) { s with heap := h2, toks := tk + 1 } := by
      refine I.turnedNew (ch := [e, it]) ?_ hf (Nat.le_refl _) ob
      intro b o hb q
      have b1 : b ≠ e := fun z => hb (by simp [z])
      have b2 : b ≠ it := fun z => hb (by simp [z])
      exact (sb.2 b b1).trans (kept b o b1 b2 q)
    refine ⟨.ref s.heap.objs.size, _, I1, rfl, ⟨_, x, rfl, I.hok.fresh (Nat.le_refl _), rfl, ?_⟩, ⟨⟨y, ?_⟩, st'.1.at fun o q => (sb.2 it (Ne.symm hne)).trans q, hne⟩, ?_⟩
    · intro ys hys
      rw [I.list_inj hys hq]
      exact hx
    · rw [show n + ((i + 1 : Nat) : Int) = n + (i : Int) + 1 by omega]
      exact he2
    · intro b hb
      have lt : b < s.heap.objs.size := by
        rcases List.mem_cons.mp
              hb with z | z
        · rw [z]; exact elt
        · rw [List.mem_singleton.mp z]; exact ilt
      rw [upd_ne (Nat.ne_of_lt lt)]
      exact (hf b hb).1
  done := by
    intro X hP hw hK hc i pins s σ
          H E I hf st hg
    subst hP hw hK
    obtain ⟨⟨old, he⟩, hit,
          hne⟩ := st
    obtain ⟨xs, hq, hx⟩ := hg
    obtain ⟨its, rv, p, hz⟩
          := I.list hq
    obtain ⟨f0, f1, f2, f3, f4, f5⟩ :=
          hf it (by simp)
    have ln := rv.length
    have none1 : its.toArray[i]? = none := by simp; omega
    have ty : s.TypeIs (.ref e) "enumerate" := ⟨_, he, rfl⟩
    unfold pyNext
    refine wpAny_bind
          (wpAny_attempt ?_)
    refine wpAny_callSpecial?_slot (name := Str.ofString "__next__") ty F.slot_enumerate_next ?_
    refine wpAny_call_entry F.slot_enumerate_next ty F.entry_enumerate_next ?_ (F.args_enumerate_next_1 _)
    show wpAny _ _ (field (.ref e)
          2 >>= _) _ _ _
    refine wpAny_bind ?_
    refine wpAny_field he rfl (x := .ref it) rfl ?_
    refine wpAny_bind ?_
    refine wpAny_nextOf_list_end (I.ok.hd hc) hit p.isList none1 ?_
    rintro h' x eb ⟨o, ho, hcl⟩
    refine wpAny_bind (wpAny_isInstance (T := "StopIteration") (b := true) ⟨o, ho, hcl⟩ isSubtype_stop ?_)
    refine wpAny_pure ⟨rfl, ?_⟩
    exact I.turned (t' := s.toks) (fun b o hb q => eb b o hb q) f0 f1 f3 f4 f5
  self := by
    rintro A i s Q E ⟨⟨_, he⟩, _⟩ h
    exact wpAny_pyIter_enum he h
def iEnumS (K : PySem.W.Frag) (ta tk : TA) : TI := fun σ H R => ta σ H fun vs H1 => tk σ H1 fun zs H2 => ∃ a xs n, vs = [.ref a] ∧ zs = [.int n] ∧ -(2 ^ 63) ≤ n ∧ n < 2 ^ 63 ∧ SqL K H2 a xs ∧ R (Ites K a n) H2
theorem pi_enumS {X : Cx} {e : Expr} {kws : List Keyword} {ta tk : TA} {p pos tpos : Pos} {elts : List Expr} {kk : Nat} (hg : Gl X "enumerate") (hm : X.mg "enumerate" = none) (ha : PA X [e] ta) (hk : PK X kws tk)
    (he : backTo pos (starEach [e] X.env) = (false, eval e X.env) :: backTo pos (starEach [] X.env) := by rfl) (hpl : (backTo pos (starEach [e] X.env)).any (·.1) = false := by rfl)
    (hall : (backToKw pos (keywordEach kws X.env)).all (·.1.isSome) = true := by rfl) (hnone : (backToKw pos (keywordEach kws X.env)).any (·.1.isNone) = false := by rfl)
    (hks : (backToKw pos (keywordEach kws X.env)).filterMap (·.1) = [Str.ofString "start"] := by rfl) : PI X (.Tuple elts kk tpos) (.Call (.Name "enumerate" p) [e] kws pos) (iEnumS X.K ta tk) := by
  constructor
  intro pins s σ H R I h
  refine wpAny_Call_Name_kw (ld_blt I hg hm boot_enumerate ?_)
  refine callWith_tyK (thn (ha.run pos pins s σ H _ I h) ?_) he hpl hall hnone
  rintro us s1 ⟨vs, H1, I1, r1, q1⟩
  refine thn (hk.run pos pins s1 σ H1 _ I1 q1) ?_
  rintro ws s2 ⟨zs, H2, I2, r2, a, xs, n, ex, ez, n0, n1, hq, q⟩
  subst ex
  subst ez
  rw [hks]
  obtain ⟨u, rfl, ru⟩
        := vals1 r1
  obtain rfl : u = Value.ref
        a := ru
  obtain ⟨v, rfl, rv'⟩ := vals1 r2
  obtain ⟨t, rfl⟩ := rv'
  obtain ⟨its, rv, tp, hz⟩ := I2.list hq
  refine enum_begins_start (begins_list a its.toArray) tp.isList n0 n1 ?_
  intro h' he' hit hsz hk'
  refine wpAny_pyIter_enum he' ?_
  refine ⟨s2.heap.objs.size + 1, [s2.heap.objs.size + 1, s2.heap.objs.size], _, _, H2, rfl, I2.kept (t' := s2.toks) hk', turn_enumS a (s2.heap.objs.size + 1) s2.heap.objs.size n, ⟨⟨.none, ?_⟩, ⟨_, hit, rfl, rfl⟩, Nat.succ_ne_self _⟩, ?_, q⟩
  · rw [show n + ((0 : Nat) : Int) = n by omega]
    exact he'
  intro b hb
  have le : s2.heap.objs.size ≤ b := by
    rcases List.mem_cons.mp
          hb with z | z
    · rw [z]; exact Nat.le_succ _
    · rw [List.mem_singleton.mp z]; exact Nat.le_refl _
  exact I2.fpOk le (I2.hok.fresh le)
theorem for_enumS {K : PySem.W.Frag} {a : Addr} {n : Int} {xs : List V} {g : TG} {tb : TS} {D : Ends} {σ : L2.St} {H : Hp} (Pv : Nat → L2.St → Hp → Prop) (h0 : Pv 0 σ H) (hl : ∀ i σ H, i ≤ xs.length → Pv i σ H → SqL K H a xs)
    (hs : ∀ i x σ H T, xs[i]? = some x → Pv i σ H → H T = none → g (.ref T) σ (upd H T (.tup [.int (n + (i : Nat)), x])) fun σ2 H2 => tb { D with nx := Pv (i + 1), ct := Pv (i + 1), bk := D.nx } σ2 H2) (hd : ∀ σ H, Pv xs.length σ H → D.nx σ H) :
    ∃ W : Nat → Nat → L2.St → Hp → Prop, (∃ m, W 0 m σ H)
          ∧ ∀ i m σ H, W i m σ H →
      ((Ites K a n).stop i H ∧ D.nx σ H) ∨ ((Ites K a n).go i H ∧ ∃ N : L2.St → Hp → Prop, (∀ σ' H', N σ' H' → ∃ m', m' < m ∧ W (i + 1) m' σ' H') ∧
        ∀ x H', (Ites K a n).yld i H x H' → g x σ H' fun σ2 H2 => tb { D with nx := N, ct := N, bk := D.nx } σ2 H2) := by
  refine ⟨fun i m σ H => m = xs.length - i ∧ i ≤ xs.length ∧ Pv i σ H,
        ⟨xs.length, rfl, Nat.zero_le _, h0⟩, ?_⟩
  rintro i m σ H ⟨rfl, hi, p⟩
  have sq := hl i σ H hi p
  by_cases lt : i < xs.length
  · refine .inr ⟨⟨xs, xs[i], sq, List.getElem?_eq_getElem lt⟩, Pv (i + 1), fun σ' H' p' => ⟨xs.length - (i + 1), by omega, rfl, lt, p'⟩, ?_⟩
    rintro y H' ⟨T, x, rfl, nT, rfl, look⟩
    exact hs i x σ H T (look _ sq) p nT
  · have e : i = xs.length
        := by omega
    subst e
    exact .inl ⟨⟨xs, sq, Nat.le_refl _⟩, hd σ H p⟩
end LW

set_option Elab.async false
set_option linter.all false
set_option maxRecDepth 100000
set_option maxHeartbeats 4000100
namespace LW
open L2 PySem.Spec PyProof.Rows PySem
/-- some of the items, by their places -/
def pickL {α : Type} (ix : List Nat) (xs : List α) : List α := ix.filterMap fun i => xs[i]?
theorem vals_at {xs : List V} {us : List Value} (h : Vals xs us) : ∀ i : Nat, (xs[i]? = none ∧ us[i]? = none) ∨ ∃ x u, xs[i]? = some x ∧ us[i]? = some u ∧ RelV x u := by
  induction h with
  | nil => intro i; exact .inl ⟨by simp, by simp⟩
  | cons r t ih =>
    intro i
    cases i with
    | zero => exact .inr ⟨_, _, rfl, rfl, r⟩
    | succ i => exact ih i
theorem vals_pick {xs : List V} {us : List Value} (h : Vals xs us) : ∀ ix : List Nat, Vals (pickL ix xs) (pickL ix us)
  | [] => .nil
  | i :: ix => by
    unfold pickL
    rw [List.filterMap_cons, List.filterMap_cons]
    rcases vals_at h i with ⟨a, b⟩ | ⟨x, u, a, b, r⟩
    · rw [a, b]; exact vals_pick h ix
    · rw [a, b]; exact .cons r (vals_pick h ix)
/-- a def that may be called by its name with keywords alone, ks in the order of the call; ix: where the parameters' values stand among them -/
structure CalP (P : Program) (w : World) (K : PySem.W.Frag) (mg : Str → Option Value) (base : Heap) (k : Nat) (x : Str) (ks : List Str) (ix : List Nat) (sp : Sp) : Prop where
  ex : ∃ (f : Addr) (fd : FuncData) (ps : List Str), FnOk P w K mg base CX0 k f fd ps sp ∧ mg x = some (.ref f) ∧ PySem.W.keepIn K (.ref f) = true ∧
    ∀ (s : Shared) (ws : List Value), K.In s.heap → (pickL ix ws).length = ps.length → ws.length = ks.length → BindsTo s fd ⟨[], ks.zip ws⟩ (ps.zip (pickL ix ws))
def tCallP (ix : List Nat) (n : Nat) (sp : Sp) (E : XK) (ta : TA) : TE := fun σ H Q => ta σ H fun vs H1 => vs.length = n ∧ sp (pickL ix vs) H1 Q E
section
variable {X : Cx} {k j : Nat} {x : Str} {sp : Sp} {p pos : Pos} {kws : List Keyword} {tk : TA} {ks : List Str} {ix : List Nat}
theorem pe_ckP (cl : CalP X.prog X.w X.K X.mg X.base k x ks ix sp) (hr : Room j X.A) (hk : k ≤ j) (hg : Gl X x) (hkw : PK X kws tk)
    (hdb : (x == ("__debug__" : Str)) = false := by decide)
    (hall : (backToKw pos (keywordEach kws X.env)).all (·.1.isSome) = true := by rfl)
    (hks : (backToKw pos (keywordEach kws X.env)).filterMap (·.1) = ks := by rfl)
    (hplain : ((backTo pos (starEach [] X.env)).any (·.1) || (backToKw pos (keywordEach kws X.env)).any (·.1.isNone)) = false := by rfl) :
    PE X (.Call (.Name x p) [] kws pos) (tCallP ix ks.length sp E0 tk) := by
  obtain ⟨f, fd, ps, F, m, kp, b⟩ := cl.ex
  constructor
  intro pins s σ H Q I h
  refine wpAny_Call_Name_kw (ld_glob I hg m ?_ hdb)
  refine PySem.W.callWith_KW0 (first := []) (h₀ := X.base) I.ok.mod.kin kp hall (thn (hkw.run pos pins s σ H _ I h) ?_) hplain
  rintro ws s2 ⟨zs, H2, I2, rz, ln, q2⟩
  refine ⟨I2.kIn, ?_⟩
  rw [hks]
  have rel := vals_pick rz ix
  have ln2 : (pickL ix ws).length = ps.length := by rw [← rel.length]; exact F.len _ _ _ _ q2
  refine wpAny_call (codeAny_mono (F.run X.A X.stack s2 H2 ⟨[], ks.zip ws⟩ (pickL ix ws) (pickL ix zs) Q E0 (hr.mono hk) I2.env0 (b s2 ws I2.kIn ln2 (by rw [← rz.length]; exact ln)) rel q2) ?_)
  intro res s' fin
  match res, fin with
  | .error er, fin => exact pass0 pins σ H2 s2 er s' I2 fin
  | .ok (.ret u), fin => exact I2.after fin
  | .ok .next, fin => exact fin.elim
  | .ok .brk, fin => exact fin.elim
  | .ok .cont, fin => exact fin.elim
end
end LW

set_option Elab.async false
set_option linter.all false
set_option maxRecDepth 100000
set_option maxHeartbeats 4000100
/-! x == y and x != y by a class's own __eq__, with either answer -/
namespace LW
open L2 PySem.Spec PyProof.Rows PySem
section
variable {M : Model} {prog : Program} {w : World} {A : Around} {E : Value → Shared → Prop} {s : Shared} {K :
      PySem.W.Frag} {x C : Addr} {ox : Obj} {od : Option Obj}
theorem ifBound_ne {args : List Value} {Q : Option Value → Shared → Prop} (X : K.In s.heap) (I : PySem.W.InstAt s.heap x ox C od) (hs : PySem.W.findIn K (.ref C) "__ne__" = some (some (.builtin "object.__ne__")))
    (h : wpAny M A (call (.builtin "object.__ne__") (.ref x :: args)) (fun v => Q (some v)) E s) : wpAny M A (callSpecialIfBound? (.ref x) "__ne__" args) Q E s := by
  simp only [callSpecialIfBound?,
        bindSpecialIfBound?]
  refine wpAny_holding (wpAny_bind (wpAny_bind (wpAny_bind (I.type.here
        ((PySem.W.looks_findIn X hs).here ?_)))))
  refine wpAny_bind (wpAny_askSetting
        (wpAny_ite ?_))
  have last : wpAny M A (call (.builtin "object.__ne__") ([.ref x] ++ args) >>= fun v => pure (some v)) Q E s := wpAny_bind (wpAny_mono h (fun v s' z => wpAny_pure z) fun _ _ z => z)
  split
  · exact wpAny_bind (wpAny_of_eq (F.cmp_object.ne.bind _) (wpAny_pure (by exact last)))
  · exact wpAny_tryCatch (wpAny_bind (wpAny_of_eq (F.cmp_object.ne.bind _) (wpAny_pure (by exact last))))
theorem entry_ne {y : Value} {Q : Fin → Shared → Prop} (hu : A.units < cLine)
    (h : wpAny M A (callSpecialIfBound? (.ref x) "__eq__" [y]) (fun r s' => ∃ b, r = some (.bool b) ∧ Q (.done (.ret (.bool (!b)))) s') E s) : wpAny M A (Builtin.«object.__ne__» ⟨[.ref x, y], []⟩) Q E s := by
  unfold Builtin.«object.__ne__»; show wpAny M A (cRoomFor "comparison" [.ref x, y] >>= _) Q E s
  refine wpAny_bind (wpAny_cRoomFor
        hu ?_)
  refine wpAny_bind (wpAny_mono h (fun r s' z => ?_) fun _ _ z => z)
  obtain ⟨b, rfl, q⟩ := z
  exact wpAny_bind (wpAny_truthy_bool (wpAny_pure q))
theorem call_ne {y : Value} {Q : Value → Shared → Prop} (X : K.In s.heap) (I : PySem.W.InstAt s.heap x ox C od) (hm : PySem.W.mroIn K C (.type "object") = some true) (hu : A.in1.units < cLine)
    (h : wpAny (model prog w) A.in1 (callSpecialIfBound? (.ref x) "__eq__" [y]) (fun r s' => ∃ b, r = some (.bool b) ∧ Q (.bool (!b)) s') E s) :
    wpAny (model prog w) A (call (.builtin "object.__ne__") [.ref x, y]) Q E s :=
  wpAny_call (codeAny_call_builtin F.cmp_object.ne.plain F.cmpEntry_ne (PySem.W.check_slot F.cmpKind_ne F.cmpSplit_ne (I.type.andThen (PySem.W.looks_mroIn X hm)) (F.cmpArgs_ne _ _) (entry_ne (A := A.in1) hu h)))
end
/-- what == of two instances of the class asks -/
structure OwnEqs (P : Program) (w : World) (K : PySem.W.Frag) (mg : Str → Option Value) (base : Heap) (n : Nat) (C : Addr) (sp : Sp) : Prop where
  ex : ∃ (f : Addr) (fd : FuncData) (ps : List Str), FnOk P w K mg base CX0 n f fd ps sp ∧ PySem.W.findIn K (.ref C) "__eq__" = some (some (.ref f)) ∧ PySem.W.isFn K (.ref f) = true ∧ Binds K fd ps []
  ne : PySem.W.findIn K (.ref C) "__ne__" = some (some (.builtin "object.__ne__"))
  mro : PySem.W.mroIn K C (.type "object") = some true
section
variable {X : Cx} {n k : Nat} {C : Addr} {sp : Sp} {f : Addr} {fd : FuncData} {ps : List Str}
theorem call_own {A : Around} {pins : List (Addr × Obj)} {s : Shared} {σ : L2.St} {H : Hp} {a b : Addr} {R : Bool → Hp → Prop} (F : FnOk X.prog X.w X.K X.mg X.base CX0 n f fd ps sp) (hb : Binds X.K fd ps []) (sb : Sub X n A) (I : Inv X pins σ H s)
    (want : sp [.ref a, .ref b] H (fun v H' => ∃ t, v = .bl t ∧ R t H') E0) :
    wpAny (model X.prog X.w) A (call (.ref f) [.ref a, .ref b]) (fun v s' => ∃ t, v = .bool t ∧ ∃ H', Inv X pins σ H' s' ∧ R t H') X.xe s := by
  have e0 : Env0 X.prog X.w X.K X.mg X.base
        A X.stack s H := by
    have e := I.env0
    exact ⟨by rw [sb.fr]; exact e.frames, e.mod, e.bs, e.bsz,
          e.funs, e.frf, e.hok, e.bare⟩
  have hl := F.len _ _ _ _ want
  have r2 : Vals [V.ref a, V.ref b] [Value.ref a, Value.ref b]
        := .cons rfl (.cons rfl .nil)
  refine wpAny_call (codeAny_mono (F.run A X.stack s H ⟨[.ref a, .ref b], []⟩ [.ref a, .ref b] [.ref a, .ref b] _ E0 sb.room e0 (by
    have := hb s [.ref a, .ref b] I.kIn
          (by simpa using hl)
    simpa using this) r2 want) fun r s' hq => ?_)
  cases r with
  | error e => exact pass0 pins σ H s e s' I hq
  | ok fl =>
    cases fl with
    | ret u =>
      obtain ⟨z, H', I', rz, t, ez, q⟩ := I.after hq
      subst ez
      cases rz
      exact ⟨t, rfl, H', I', q⟩
    | next => exact False.elim hq
    | brk => exact False.elim hq
    | cont => exact False.elim hq
def rOwn (C : Addr) (sp : Sp) (g : Bool → Bool) : R2 := fun x y H Q => ∃ a b dx dy fs gs, x = .ref a ∧ y = .ref b ∧ H a = some (.ins C dx fs) ∧ H b = some (.ins C dy gs) ∧ sp [.ref a, .ref b] H (fun v H' => ∃ t, v = .bl t ∧ Q (.bl (g t)) H') E0
theorem op_eqO (cl : OwnEqs X.prog X.w X.K X.mg X.base n C sp) (hr : Room k X.A) (hk : n ≤ k) : OpR X (compareOp .Eq) (rOwn C sp id) := by
  intro pins s σ H x y v u
        Q I rx ry hq
  obtain ⟨a, b, dx, dy, fs, gs, rfl, rfl, ha, hb', want⟩ := hq
  obtain ⟨f, fd, ps, F, hs, hf, hb⟩ := cl.ex
  obtain rfl : v = Value.ref
        a := rx
  obtain rfl : u = Value.ref
        b := ry
  have sb : Sub X n X.A := ⟨hr.mono hk, rfl⟩
  obtain ⟨mA, J, _⟩ :=
        ins_get I.hok ha
  obtain ⟨mB, J', _⟩ := ins_get
        I.hok hb'
  obtain ⟨od, J, _⟩ := J.look
  obtain ⟨od', J', _⟩
        := J'.look
  obtain ⟨m, hF⟩ := I.fr
  show wpAny (model X.prog X.w) X.A (richCompare .Eq (.ref a) (.ref b)) (EP X pins σ Q) X.xe s
  refine PySem.W.cmp_K (op := .Eq) (tb := .ref C) sb.room.units0 hF I.ok.mod.kin J
        J'.type (by simp [PySem.W.notFirst]) hs hf ?_
  refine wpAny_mono (call_own F hb sb I want) (fun v s' z => ?_) fun _ _ z => z
  obtain ⟨t, rfl, H', I', q⟩ := z
  exact ⟨.bl t, H', I', rfl, q⟩
theorem op_neO (cl : OwnEqs X.prog X.w X.K X.mg X.base n C sp) (hr : Room k X.A) (hk : n + 1 ≤ k) : OpR X (compareOp .NotEq) (rOwn C sp not) := by
  intro pins s σ H x y v u
        Q I rx ry hq
  obtain ⟨a, b, dx, dy, fs, gs, rfl, rfl, ha, hb', want⟩ := hq
  obtain ⟨f, fd, ps, F, hs, hf, hb⟩ := cl.ex
  obtain rfl : v = Value.ref
        a := rx
  obtain rfl : u = Value.ref
        b := ry
  have sb : Sub X (n + 1) X.A := ⟨hr.mono hk, rfl⟩
  obtain ⟨mA, J, _⟩ :=
        ins_get I.hok ha
  obtain ⟨mB, J', _⟩ := ins_get
        I.hok hb'
  obtain ⟨od, J, _⟩ := J.look
  obtain ⟨od', J', _⟩
        := J'.look
  have X0 := I.kIn
  have one : wpAny (model X.prog X.w) X.A (tryCompare (.ref a) (cmpInfo .NotEq).2.1 (.ref b)) (fun r s' => ∃ v, r = some v ∧ EP X pins σ Q v s') X.xe s := by
    show wpAny (model X.prog X.w) X.A (tryCompare (.ref a) "__ne__" (.ref b)) _ X.xe s
    unfold tryCompare
    refine wpAny_bind (ifBound_ne X0 J cl.ne (call_ne X0 J cl.mro sb.in1.room.units0 ?_))
    refine PySem.W.ifBound_K X0 J hs hf ?_
    refine wpAny_mono (call_own F hb sb.in1 I want) (fun v s' z => ?_) fun _ _ z => z
    obtain ⟨t, rfl, H', I', q⟩ := z
    exact ⟨t, rfl, wpAny_pure ⟨_, rfl, .bl (!t), H', I', rfl, q⟩⟩
  show wpAny (model X.prog X.w) X.A (richCompare .NotEq (.ref a) (.ref b)) (EP X pins σ Q) X.xe s
  unfold richCompare
  simp only [oneThing_ref]
  refine wpAny_holding (wpAny_bind (wpAny_cRoomFor sb.room.units0 ?_))
  refine wpAny_bind (J.type.here (wpAny_bind (J'.type.here ?_)))
  split
  · rename_i q
    simp at q
  · refine wpAny_bind
        (wpAny_pure ?_)
    simp only [Bool.false_eq_true,
          if_false]
    refine wpAny_bind (wpAny_mono one (fun r s' z
          => ?_) fun _ _ e => e)
    obtain ⟨v, rfl, hq⟩ := z
    exact wpAny_pure hq
end
end LW

set_option Elab.async false
set_option linter.all false
set_option maxRecDepth 100000
set_option maxHeartbeats 4000100
set_option exponentiation.threshold 9000
namespace LW
open L2 PySem.Spec PyProof.Rows PySem
def topS (i : Nat) : Stmt := PySem.Challenge.pw_wholeshares_k22_whole_rules_written_othe.main.body.getD i (.Pass ⟨0, 0, 0, 0⟩)
abbrev s_is_int : Stmt := topS 13
theorem sc_is_int : FnScope ["value"] ["value"] (defScope s_is_int) := ⟨rfl, rfl, rfl, by decide +kernel, rfl, by decide +kernel, by decide +kernel⟩
abbrev s_is_number : Stmt := topS 15
theorem sc_is_number : FnScope ["value"] ["value"] (defScope s_is_number) := ⟨rfl, rfl, rfl, by decide +kernel, rfl, by decide +kernel, by decide +kernel⟩
abbrev s_as_pair : Stmt := topS 16
theorem sc_as_pair : FnScope ["number"] ["number"] (defScope s_as_pair) := ⟨rfl, rfl, rfl, by decide +kernel, rfl, by decide +kernel, by decide +kernel⟩
abbrev s_lowest : Stmt := topS 17
theorem sc_lowest : FnScope ["number", "top", "bottom", "common"] ["number"] (defScope s_lowest) := ⟨rfl, rfl, rfl, by decide +kernel, rfl, by decide +kernel, by decide +kernel⟩
abbrev s__int_text : Stmt := topS 24
theorem sc__int_text : FnScope ["integer", "blocks", "rest"] ["integer"] (defScope s__int_text) := ⟨rfl, rfl, rfl, by decide +kernel, rfl, by decide +kernel, by decide +kernel⟩
abbrev s__read_int : Stmt := topS 25
theorem sc__read_int : FnScope ["digits", "start", "integer", "at"] ["digits"] (defScope s__read_int) := ⟨rfl, rfl, rfl, by decide +kernel, rfl, by decide +kernel, by decide +kernel⟩
abbrev s_is_digits : Stmt := topS 26
theorem sc_is_digits : FnScope ["text"] ["text"] (defScope s_is_digits) := ⟨rfl, rfl, rfl, by decide +kernel, rfl, by decide +kernel, by decide +kernel⟩
abbrev s_number_text : Stmt := topS 27
theorem sc_number_text : FnScope ["pair"] ["pair"] (defScope s_number_text) := ⟨rfl, rfl, rfl, by decide +kernel, rfl, by decide +kernel, by decide +kernel⟩
abbrev s_read_number : Stmt := topS 28
theorem sc_read_number : FnScope ["text", "parts", "part", "number", "pair"] ["text"] (defScope s_read_number) := ⟨rfl, rfl, rfl, by decide +kernel, rfl, by decide +kernel, by decide +kernel⟩
abbrev s_is_less : Stmt := topS 19
theorem sc_is_less : FnScope ["pair", "other_pair"] ["pair", "other_pair"] (defScope s_is_less) := ⟨rfl, rfl, rfl, by decide +kernel, rfl, by decide +kernel, by decide +kernel⟩
abbrev s__plain_mark : Stmt := topS 31
theorem sc__plain_mark : FnScope ["offset", "number"] ["offset", "number"] (defScope s__plain_mark) := ⟨rfl, rfl, rfl, by decide +kernel, rfl, by decide +kernel, by decide +kernel⟩
abbrev s__is_offset : Stmt := topS 30
theorem sc__is_offset : FnScope ["value", "top", "bottom"] ["value"] (defScope s__is_offset) := ⟨rfl, rfl, rfl, by decide +kernel, rfl, by decide +kernel, by decide +kernel⟩
abbrev s__is_next_mark : Stmt := topS 32
theorem sc__is_next_mark : FnScope ["element", "marks", "mark"] ["element", "marks"] (defScope s__is_next_mark) := ⟨rfl, rfl, rfl, by decide +kernel, rfl, by decide +kernel, by decide +kernel⟩
abbrev s_is_count : Stmt := topS 14
theorem sc_is_count : FnScope ["value"] ["value"] (defScope s_is_count) := ⟨rfl, rfl, rfl, by decide +kernel, rfl, by decide +kernel, by decide +kernel⟩
abbrev s__lowest_head : Stmt := topS 33
theorem sc__lowest_head : FnScope ["offset", "head", "marks", "index", "element"] ["offset", "head"] (defScope s__lowest_head) := ⟨rfl, rfl, rfl, by decide +kernel, rfl, by decide +kernel, by decide +kernel⟩
abbrev s_common_bottom : Stmt := topS 20
theorem sc_common_bottom : FnScope ["pairs", "common", "_", "bottom"] ["pairs"] (defScope s_common_bottom) := ⟨rfl, rfl, rfl, by decide +kernel, rfl, by decide +kernel, by decide +kernel⟩
abbrev s_Rule_mark : Stmt := inClass (topS 34) 2
theorem sc_Rule_mark : FnScope ["self", "number"] ["self", "number"] (defScope s_Rule_mark) := ⟨rfl, rfl, rfl, by decide +kernel, rfl, by decide +kernel, by decide +kernel⟩
abbrev s_Rule___init__ : Stmt := inClass (topS 34) 0
theorem sc_Rule___init__ : FnScope ["self", "offset", "head", "top", "bottom", "number"] ["self", "offset", "head"] (defScope s_Rule___init__) := ⟨rfl, rfl, rfl, by decide +kernel, rfl, by decide +kernel, by decide +kernel⟩
abbrev s_Rule_read : Stmt := inClass (topS 34) 1
theorem sc_Rule_read : FnScope ["text", "words", "offset", "head", "word"] ["text"] (defScope s_Rule_read) := ⟨rfl, rfl, rfl, by decide +kernel, rfl, by decide +kernel, by decide +kernel⟩
/-- what the top says of the program's own names -/
structure Tx (K : PySem.W.Frag) (mg : Str → Option Value) (c : Addr) : Prop where
  cl : Cls K c
  nO : NoAttr K c "offset"
  nH : NoAttr K c "head"
  nS : NoAttr K c "_start"
  nU : NoAttr K c "unit"
  nW : NoAttr K c "_whole_head"
  nX : NoAttr K c "whole_offset"
  g_Rule : mg "Rule" = some (.ref c)
  g_gcd : mg "gcd" = some (.builtin "math.gcd")
  g_lcm : mg "lcm" = some (.builtin "math.lcm")
  g_BLOCK : ∃ t, mg "BLOCK" = some (.int (10 ^ 60) t)
  g_BLOCK_DIGITS : ∃ t, mg "BLOCK_DIGITS" = some (.int 60 t)
  g_MOST_HEAD : ∃ t, mg "MOST_HEAD" = some (.int 8 t)
local macro_rules | `(tactic| walk_at "len") => `(tactic| skip)
/-! ### numbers -/
def encQ (q : Int × Int) : PyData := .tuple [.int q.1, .int q.2]
/-- lowest terms -/
def lowQ (t b : Int) : Int × Int := (t / ((Nat.gcd t.natAbs b.natAbs : Nat) : Int), b / ((Nat.gcd t.natAbs b.natAbs : Nat) : Int))
def smallQ (q : Int × Int) : Prop := q.1.natAbs < 2 ^ 8000 ∧ q.2.natAbs < 2 ^ 8000
theorem iss_Q {K : PySem.W.Frag} {A : List Addr} {H : Hp} (q : Int × Int) : Iss K A H [.int q.1, .int q.2] [.int q.1, .int q.2] := DAll.cons (.int _) (DAll.cons (.int _) DAll.nil)
theorem gcd_pos {t b : Int} (h : 0 < b) : 0 < Nat.gcd t.natAbs b.natAbs := Nat.gcd_pos_of_pos_right _ (by omega)
theorem gcd_le {t b : Int} (h : 0 < b) : Nat.gcd t.natAbs b.natAbs ≤ b.natAbs := Nat.gcd_le_right _ (by omega)
/-- an int or a pair, in lowest terms -/
def exactD : PyData → Option (Int × Int)
  | .int i => some (i, 1)
  | .tuple [.int a, .int b] => some (lowQ a b)
  | _ => none
def okQ (q : Int × Int) : Prop := 0 < q.2 ∧ q.2.natAbs < 2 ^ 8000

/-! ### numbers and rules as texts -/
open SX in
def qL (q : Int × Int) : List Nat := if q.2 = 1 then TL.numL q.1.toNat else TL.numL q.1.toNat ++ 47 :: TL.numL q.2.toNat
/-- a number whose parts are not negative and not long -/
structure OkW (q : Int × Int) : Prop where
  a : 0 ≤ q.1
  b : 0 < q.2
  a2 : q.1 < 10 ^ 50
  b2 : q.2 < 10 ^ 50
theorem numL_50 {i : Int} (h0 : 0 ≤ i) (h : i < 10 ^ 50) : (TL.numL i.toNat).length ≤ 50 := TL.numL_len (by decide) (by omega)
theorem toS {i : Int} (h : 0 ≤ i) : (Str.ofString (toString i)) = SX.S (TL.numL i.toNat) := by
  have e : i = ((i.toNat : Nat) : Int) := by omega
  rw [← SX.num_S, ← e]
theorem log2_50 {i : Int} (h0 : 0 ≤ i) (h : i < 10 ^ 50) : i.natAbs.log2 < 1920 := by
  have : i.natAbs < 2 ^ 200 := by omega
  exact Nat.lt_of_lt_of_le (PySem.Flt.log2_lt_of (by decide) this) (by decide)
theorem qL_len {q : Int × Int} (h : OkW q) : (qL q).length ≤ 101 := by
  have l1 := numL_50 h.a h.a2
  have l2 := numL_50 (Int.le_of_lt h.b) h.b2
  unfold qL
  split
  · omega
  · rw [List.length_append, List.length_cons]; omega

/-! ### the program: numbers -/
def isNumD : PyData → Bool
  | .int _ => true
  | .tuple [.int _, .int q] => decide (q ≥ 1)
  | _ => false
theorem numD_len : ∀ ds : List PyData, ds.length ≠ 2 → isNumD (.tuple ds) = false
  | [], _ => rfl
  | [.none], _ | [.bool _], _ | [.int _], _ | [.str _], _ | [.list _], _ | [.tuple _], _ | [.dict _], _ => rfl
  | [_, _], h => absurd rfl h
  | x :: y :: z :: r, _ => by
    cases x <;> first | rfl | (cases y <;> rfl)
theorem enc_num {q : Int × Int} (h : 0 < q.2) : isNumD (encQ q) = true := decide_eq_true (show q.2 ≥ 1 by omega)
section
variable {P : Program} {w : World} {K : PySem.W.Frag} {mg : Str → Option Value} {base : Heap} {c : Addr}
def sp_is_int (K : PySem.W.Frag) (c : Addr) : Sp := fun vs H Q _ => ∃ (v : V) (d : PyData), vs = [v] ∧ D K H v d ∧ Q (.bl (isIntD d)) H
theorem cal_is_int (B : Bl mg) (DD : OwnDef K mg "is_int" s_is_int)   : Cal P w K mg base 1 "is_int" (sp_is_int K c) [] := by
  obtain ⟨f, fd, F, hm⟩ := DD.ex
  refine ⟨f, fd, ["value"], [], F.ok sc_is_int (fun vs H Q E h => ?len) (fun cdv A outer s H vs Q E hr h => ?run), hm, F.kp, F.binds (fun _ _ _ _ _ _ us hl => match us, hl with | [_], _ => rfl), .nil⟩
  case len => first | (obtain ⟨_, rfl, _⟩ := h; rfl) | (obtain ⟨_, _, rfl, _⟩ := h; rfl) | (obtain ⟨_, _, _, rfl, _⟩ := h; rfl) | (obtain ⟨_, _, _, _, rfl, _⟩ := h; rfl) | (obtain ⟨_, _, _, _, _, rfl, _⟩ := h; rfl) | (obtain ⟨_, _, _, _, _, _, rfl, _⟩ := h; rfl) | (obtain ⟨_, _, _, _, _, _, _, rfl, _⟩ := h; rfl) | (obtain ⟨_, _, _, _, _, _, _, _, rfl, _⟩ := h; rfl) | (obtain ⟨_, _, _, _, _, _, _, _, _, rfl, _⟩ := h; rfl) | (obtain ⟨_, _, _, _, _, _, _, _, _, _, rfl, _⟩ := h; rfl) | (obtain ⟨_, _, _, _, _, _, _, _, _, _, _, rfl, _⟩ := h; rfl) | (obtain ⟨_, _, _, _, _, _, _, _, _, _, _, _, rfl, _⟩ := h; rfl) | (obtain ⟨_, _, _, _, _, _, _, _, _, _, _, _, _, rfl, _⟩ := h; rfl) | (obtain ⟨_, _, _, _, _, _, _, _, _, _, _, _, _, _, rfl, _⟩ := h; rfl)
  case run =>
    obtain ⟨v, d, rfl, hv, k⟩ := h
    refine ⟨_, (pss_one (ps_ret (pe_and (pe_callB call_isi (by rfl) B.isinstance (by decide +kernel) (pa_cons (pv 0) (pa_cons (pe_bltn (v := .ty "int") (by rfl) B.int (by decide +kernel) rfl) pa_nil))) (pe_one (pe_not (pe_callB call_isi (by rfl) B.isinstance (by decide +kernel) (pa_cons (pv 0) (pa_cons (pe_bltn (v := .ty "bool") (by rfl) B.bool (by decide +kernel) rfl) pa_nil)))))))), ?_⟩
    refine ⟨_, rfl, _, _, _, _, _, rfl, .ty _, hv.ty, kit_ty (kit_int _), _, rfl, ite2 (fun e => ?_) (fun e => ?_)⟩
    · refine ⟨_, rfl, _, _, _, _, _, rfl, .ty _, hv.ty, kit_ty (kit_bool _), _, rfl, ?_⟩
      have z : (!isBoolD d) = isIntD d := by cases d <;> first | rfl | (simp [isIntD, isBoolD] at e)
      rw [z]
      exact k
    · have z : isIntD d = false := by
        cases q : isIntD d with
        | false => rfl
        | true => rw [q] at e; exact absurd rfl e
      rw [z] at k
      exact k
def sp_is_number (K : PySem.W.Frag) (c : Addr) : Sp := fun vs H Q _ => ∃ (v : V) (d : PyData), vs = [v] ∧ D K H v d ∧ Q (.bl (isNumD d)) H
theorem cal_is_number (B : Bl mg) (DD : OwnDef K mg "is_number" s_is_number) (C_is_int : Cal P w K mg base 1 "is_int" (sp_is_int K c) [])  : Cal P w K mg base 2 "is_number" (sp_is_number K c) [] := by
  obtain ⟨f, fd, F, hm⟩ := DD.ex
  refine ⟨f, fd, ["value"], [], F.ok sc_is_number (fun vs H Q E h => ?len) (fun cdv A outer s H vs Q E hr h => ?run), hm, F.kp, F.binds (fun _ _ _ _ _ _ us hl => match us, hl with | [_], _ => rfl), .nil⟩
  case len => first | (obtain ⟨_, rfl, _⟩ := h; rfl) | (obtain ⟨_, _, rfl, _⟩ := h; rfl) | (obtain ⟨_, _, _, rfl, _⟩ := h; rfl) | (obtain ⟨_, _, _, _, rfl, _⟩ := h; rfl) | (obtain ⟨_, _, _, _, _, rfl, _⟩ := h; rfl) | (obtain ⟨_, _, _, _, _, _, rfl, _⟩ := h; rfl) | (obtain ⟨_, _, _, _, _, _, _, rfl, _⟩ := h; rfl) | (obtain ⟨_, _, _, _, _, _, _, _, rfl, _⟩ := h; rfl) | (obtain ⟨_, _, _, _, _, _, _, _, _, rfl, _⟩ := h; rfl) | (obtain ⟨_, _, _, _, _, _, _, _, _, _, rfl, _⟩ := h; rfl) | (obtain ⟨_, _, _, _, _, _, _, _, _, _, _, rfl, _⟩ := h; rfl) | (obtain ⟨_, _, _, _, _, _, _, _, _, _, _, _, rfl, _⟩ := h; rfl) | (obtain ⟨_, _, _, _, _, _, _, _, _, _, _, _, _, rfl, _⟩ := h; rfl) | (obtain ⟨_, _, _, _, _, _, _, _, _, _, _, _, _, _, rfl, _⟩ := h; rfl)
  case run =>
    obtain ⟨v, d, rfl, hv, k⟩ := h
    refine ⟨_, (pss_cons (ps_if (PW.pt (pw_and (pt_val (pe_callB call_isi (by rfl) B.isinstance (by decide +kernel) (pa_cons (pv 0) (pa_cons (pe_bltn (v := .ty "tuple") (by rfl) B.tuple (by decide +kernel) rfl) pa_nil)))) (pw_and1 (pt_cmpR op_eq (pe_callB call_len_seq (by rfl) B.len (by decide +kernel) (pa_cons (pv 0) pa_nil)) pe_int (nomark _))))) (pss_one (ps_ret (pe_and (pe_c C_is_int hr (by decide) (by rfl) (pa_cons (pe_ix ix_seq (pv 0) pe_int (fun _ _ => rfl)) pa_nil)) (pe_and (pe_c C_is_int hr (by decide) (by rfl) (pa_cons (pe_ix ix_seq (pv 0) pe_int (fun _ _ => rfl)) pa_nil)) (pe_one (pe_cmpR op_ge (pe_ix ix_seq (pv 0) pe_int (fun _ _ => rfl)) pe_int (nomark _))))))) pss_nil)
      (pss_one (ps_ret (pe_c C_is_int hr (by decide) (by rfl) (pa_cons (pv 0) pa_nil))))), ?_⟩
    refine ⟨_, rfl, _, _, _, _, _, rfl, .ty _, hv.ty, kit_ty (kit_tup _), _, rfl, ite2 (fun e => ?_) (fun e => ?_)⟩
    · obtain ⟨ds, rfl⟩ : ∃ ds, d = .tuple ds := by
        cases d with
        | tuple ds => exact ⟨ds, rfl⟩
        | _ => cases e
      obtain ⟨a, ws, rfl, sq, all⟩ := hv.tuple
      refine ⟨_, rfl, a, ws, rfl, .inr sq, rfl, _, rfl, ite2 (fun e2 => ?_) (fun e2 => ?_)⟩
      · have e3 : ((ws.length : Nat) : Int) = 2 := V.int.inj (of_decide_eq_true e2)
        have el : ds.length = 2 := by have := all.len; omega
        obtain ⟨x, y, rfl⟩ : ∃ x y, ds = [x, y] := by
          match ds, el with
          | [x, y], _ => exact ⟨x, y, rfl⟩
        refine ⟨_, rfl, ix_dt hv (by decide) rfl fun u hu => ?_⟩
        refine ⟨u, x, rfl, hu, _, rfl, ite2 (fun ex => ?_) (fun ex => ?_)⟩
        · refine ⟨_, rfl, ix_dt hv (by decide) rfl fun u2 hu2 => ?_⟩
          refine ⟨u2, y, rfl, hu2, _, rfl, ite2 (fun ey => ?_) (fun ey => ?_)⟩
          · obtain ⟨i, rfl⟩ : ∃ i, x = .int i := by
              cases x with
              | int i => exact ⟨i, rfl⟩
              | _ => cases ex
            obtain ⟨j, rfl⟩ : ∃ i, y = .int i := by
              cases y with
              | int i => exact ⟨i, rfl⟩
              | _ => cases ey
            exact ⟨_, rfl, ix_di hv (by decide) rfl ⟨_, _, rfl, rfl, k⟩⟩
          · have z : isNumD (.tuple [x, y]) = false := by
              cases y with
              | int i => exact absurd rfl ey
              | _ => cases x <;> rfl
            rw [z] at k
            exact k
        · have z : isNumD (.tuple [x, y]) = false := by
            cases x with
            | int i => exact absurd rfl ex
            | _ => rfl
          rw [z] at k
          exact k
      · have z : isNumD (.tuple ds) = false := numD_len ds fun l => e2 (decide_eq_true (congrArg V.int (by have := all.len; omega)))
        rw [z] at k
        refine ⟨_, rfl, _, _, rfl, hv, ?_⟩
        exact k
    · have z : isNumD d = isIntD d := by
        cases d with
        | tuple ds => exact absurd rfl e
        | _ => rfl
      rw [z] at k
      exact ⟨_, rfl, _, _, rfl, hv, k⟩
def pairD : PyData → Int × Int
  | .int i => (i, 1)
  | .tuple [.int a, .int b] => (a, b)
  | _ => (0, 1)
/-- as_pair(number), of a number -/
def sp_as_pair (K : PySem.W.Frag) (c : Addr) : Sp := fun vs H Q _ => ∃ (v : V) (d : PyData), vs = [v] ∧ D K H v d ∧ isNumD d = true ∧
  ∀ p H', Same H H' → SqT K H' p [.int (pairD d).1, .int (pairD d).2] → Q (.ref p) H'
theorem cal_as_pair (B : Bl mg) (DD : OwnDef K mg "as_pair" s_as_pair)   : Cal P w K mg base 1 "as_pair" (sp_as_pair K c) [] := by
  obtain ⟨f, fd, F, hm⟩ := DD.ex
  refine ⟨f, fd, ["number"], [], F.ok sc_as_pair (fun vs H Q E h => ?len) (fun cdv A outer s H vs Q E hr h => ?run), hm, F.kp, F.binds (fun _ _ _ _ _ _ us hl => match us, hl with | [_], _ => rfl), .nil⟩
  case len => first | (obtain ⟨_, rfl, _⟩ := h; rfl) | (obtain ⟨_, _, rfl, _⟩ := h; rfl) | (obtain ⟨_, _, _, rfl, _⟩ := h; rfl) | (obtain ⟨_, _, _, _, rfl, _⟩ := h; rfl) | (obtain ⟨_, _, _, _, _, rfl, _⟩ := h; rfl) | (obtain ⟨_, _, _, _, _, _, rfl, _⟩ := h; rfl) | (obtain ⟨_, _, _, _, _, _, _, rfl, _⟩ := h; rfl) | (obtain ⟨_, _, _, _, _, _, _, _, rfl, _⟩ := h; rfl) | (obtain ⟨_, _, _, _, _, _, _, _, _, rfl, _⟩ := h; rfl) | (obtain ⟨_, _, _, _, _, _, _, _, _, _, rfl, _⟩ := h; rfl) | (obtain ⟨_, _, _, _, _, _, _, _, _, _, _, rfl, _⟩ := h; rfl) | (obtain ⟨_, _, _, _, _, _, _, _, _, _, _, _, rfl, _⟩ := h; rfl) | (obtain ⟨_, _, _, _, _, _, _, _, _, _, _, _, _, rfl, _⟩ := h; rfl) | (obtain ⟨_, _, _, _, _, _, _, _, _, _, _, _, _, _, rfl, _⟩ := h; rfl)
  case run =>
    obtain ⟨v, d, rfl, hv, hn, k⟩ := h
    refine ⟨_, (pss_one (ps_ret (pe_ifExp (pt_val (pe_callB call_isi (by rfl) B.isinstance (by decide +kernel) (pa_cons (pv 0) (pa_cons (pe_bltn (v := .ty "tuple") (by rfl) B.tuple (by decide +kernel) rfl) pa_nil)))) (pv 0) (pe_tup (pa_cons (pv 0) (pa_cons pe_int pa_nil)))))), ?_⟩
    refine ⟨_, rfl, _, _, _, _, _, rfl, .ty _, hv.ty, kit_ty (kit_tup _), _, rfl, ite2 (fun e => ?_) (fun e => ?_)⟩
    · obtain ⟨x, y, rfl, hy⟩ : ∃ x y, d = encQ (x, y) ∧ y ≥ 1 := by
        match d, hn, e with
        | .tuple [.int x, .int y], hn, _ => exact ⟨x, y, rfl, of_decide_eq_true hn⟩
      obtain ⟨a, ws, rfl, sq, all⟩ := hv.tuple
      obtain ⟨w1, e1, d1⟩ := all.get (i := 0) rfl
      obtain ⟨w2, e2, d2⟩ := all.get (i := 1) rfl
      obtain rfl := d1.int_eq
      obtain rfl := d2.int_eq
      have el : ws = [.int x, .int y] := by
        match ws, all.len, e1, e2 with
        | [p, q], _, e1, e2 =>
          have h1 : p = .int x := Option.some.inj e1
          have h2 : q = .int y := Option.some.inj e2
          rw [h1, h2]
      subst el
      exact ⟨_, rfl, k a H (Same.refl H) sq⟩
    · obtain ⟨x, rfl⟩ : ∃ x, d = .int x := by
        match d, hn, e with
        | .int x, _, _ => exact ⟨x, rfl⟩
        | .tuple _, _, e => exact absurd rfl e
      obtain rfl := hv.int_eq
      exact ⟨_, rfl, by show 2 ≤ sizeLine; decide, fun t nt => k t _ (same_new nt) (.inl (.inl upd_same))⟩
/-- lowest(number), of a number -/
def lowD : PyData → Int × Int
  | .int i => (i, 1)
  | .tuple [.int a, .int b] => lowQ a b
  | _ => (0, 1)
def sp_lowest (K : PySem.W.Frag) (c : Addr) : Sp := fun vs H Q _ => ∃ (v : V) (d : PyData), vs = [v] ∧ D K H v d ∧ isNumD d = true ∧ (∀ a b, d = encQ (a, b) → b.natAbs < 2 ^ 8000) ∧
  ∀ p H', Same H H' → H p = none → H' p = some (.tup [.int (lowD d).1, .int (lowD d).2]) → Q (.ref p) H'
theorem cal_lowest (B : Bl mg) (DD : OwnDef K mg "lowest" s_lowest) (C_as_pair : Cal P w K mg base 1 "as_pair" (sp_as_pair K c) []) (T : Tx K mg c) : Cal P w K mg base 2 "lowest" (sp_lowest K c) [] := by
  obtain ⟨f, fd, F, hm⟩ := DD.ex
  refine ⟨f, fd, ["number"], [], F.ok sc_lowest (fun vs H Q E h => ?len) (fun cdv A outer s H vs Q E hr h => ?run), hm, F.kp, F.binds (fun _ _ _ _ _ _ us hl => match us, hl with | [_], _ => rfl), .nil⟩
  case len => first | (obtain ⟨_, rfl, _⟩ := h; rfl) | (obtain ⟨_, _, rfl, _⟩ := h; rfl) | (obtain ⟨_, _, _, rfl, _⟩ := h; rfl) | (obtain ⟨_, _, _, _, rfl, _⟩ := h; rfl) | (obtain ⟨_, _, _, _, _, rfl, _⟩ := h; rfl) | (obtain ⟨_, _, _, _, _, _, rfl, _⟩ := h; rfl) | (obtain ⟨_, _, _, _, _, _, _, rfl, _⟩ := h; rfl) | (obtain ⟨_, _, _, _, _, _, _, _, rfl, _⟩ := h; rfl) | (obtain ⟨_, _, _, _, _, _, _, _, _, rfl, _⟩ := h; rfl) | (obtain ⟨_, _, _, _, _, _, _, _, _, _, rfl, _⟩ := h; rfl) | (obtain ⟨_, _, _, _, _, _, _, _, _, _, _, rfl, _⟩ := h; rfl) | (obtain ⟨_, _, _, _, _, _, _, _, _, _, _, _, rfl, _⟩ := h; rfl) | (obtain ⟨_, _, _, _, _, _, _, _, _, _, _, _, _, rfl, _⟩ := h; rfl) | (obtain ⟨_, _, _, _, _, _, _, _, _, _, _, _, _, _, rfl, _⟩ := h; rfl)
  case run =>
    obtain ⟨v, d, rfl, hv, hn, hsz, k⟩ := h
    refine ⟨_, (pss_cons (ps_asg (pe_c C_as_pair hr (by decide) (by rfl) (pa_cons (pv 0) pa_nil)) (pg_tup (by rfl) (pgs_cons (pg_name (i := 1) sc_lowest.nd rfl (Or.inl rfl)) (pgs_cons (pg_name (i := 2) sc_lowest.nd rfl (Or.inl rfl)) pgs_nil))))
      (pss_cons (ps_set (i := 3) sc_lowest.nd rfl (Or.inl rfl) (pe_callBfun cr_gcd (by rfl) T.g_gcd (pa_cons (pv 1) (pa_cons (pv 2) pa_nil))))
      (pss_one (ps_ret (pe_tup (pa_cons (pe_op op_fdivW (pv 1) (pv 3)) (pa_cons (pe_op op_fdivW (pv 2) (pv 3)) pa_nil))))))), ?_⟩
    refine ⟨_, rfl, v, d, rfl, hv, hn, fun t H1 sm ht => ?_⟩
    refine ⟨t, _, rfl, ht, rfl, .int (pairD d).1, [.int (pairD d).2], rfl, .int (pairD d).2, [], rfl, rfl, ?_⟩
    obtain ⟨hb0, hb1, hb2⟩ : 0 < (pairD d).2 ∧ (pairD d).2.natAbs < 2 ^ 8000 ∧ lowQ (pairD d).1 (pairD d).2 = lowD d := by
      match d, hn, hsz with
      | .int i, _, _ =>
        refine ⟨by show (0:Int) < 1; decide, by show Int.natAbs 1 < 2 ^ 8000; decide, ?_⟩
        show lowQ i 1 = (i, 1)
        have g1 : Nat.gcd i.natAbs (1 : Int).natAbs = 1 := Nat.gcd_one_right _
        show (i / ((Nat.gcd i.natAbs (1 : Int).natAbs : Nat) : Int), (1:Int) / ((Nat.gcd i.natAbs (1 : Int).natAbs : Nat) : Int)) = (i, 1)
        rw [g1]; exact Prod.ext (Int.ediv_one i) rfl
      | .tuple [.int x, .int y], hn, hsz =>
        have hy : y ≥ 1 := of_decide_eq_true hn
        exact ⟨by show 0 < y; omega, hsz x y rfl, rfl⟩
    rw [← hb2] at k
    generalize (pairD d).1 = x at *
    generalize (pairD d).2 = y at *
    have hg : 0 < Nat.gcd x.natAbs y.natAbs := gcd_pos hb0
    have hg2 : Nat.gcd x.natAbs y.natAbs < 2 ^ 8000 := Nat.lt_of_le_of_lt (gcd_le hb0) hb1
    have hd1 : CDivW x ((Nat.gcd x.natAbs y.natAbs : Nat) : Int) := wide_div (b := 8000) (by omega) (by simpa using hg2) (by decide) (by decide)
    have hd2 : CDivW y ((Nat.gcd x.natAbs y.natAbs : Nat) : Int) := wide_div (b := 8000) (by omega) (by simpa using hg2) (by decide) (by decide)
    refine ⟨_, rfl, _, rfl, x, y, rfl, ?_⟩
    exact ⟨_, rfl, _, rfl, _, _, rfl, rfl, hd1, _, rfl, _, rfl, _, _, rfl, rfl, hd2, by show 2 ≤ sizeLine; decide, fun p np => k p _ (sm.trans (same_new np)) (sm.free np) upd_same⟩
end

/-! ### the program: numbers as texts -/
theorem digitsVal0 (l : List Nat) : NumText.digitsVal (48 :: l) = NumText.digitsVal l := rfl
theorem allD {l : List Nat} (h : NumText.AllDigits l) : l.all (fun c => decide (48 ≤ c) && decide (c ≤ 57)) = true := by
  rw [List.all_eq_true]
  intro c hc
  have := h c hc
  simp [this.1, this.2]
theorem split_one {l : List Nat} {s : Nat} (hs : s < 256) (h : s ∉ l) : Txt.split (SX.S l) (SX.S [s]) = [SX.S l] := by
  have e := SX.split_S (a := l) (b := [s]) (by simp) (by simp [hs])
  rw [e, show TL.spl [s] 0 [] l = [l] from SX.spl_join (c := s) (sep := []) (parts := [l]) (by simp) (by simpa using h)]
  rfl
theorem split_join {parts : List (List Nat)} {s : Nat} (hs : s < 256) (hp : parts ≠ []) (h : ∀ p ∈ parts, s ∉ p) : Txt.split (SX.S (TL.joinL [s] parts)) (SX.S [s]) = parts.map SX.S := by
  rw [SX.split_S (by simp) (by simp [hs]), SX.spl_join hp h]
def qParts (q : Int × Int) : List (List Nat) := if q.2 = 1 then [TL.numL q.1.toNat] else [TL.numL q.1.toNat, TL.numL q.2.toNat]
theorem qL_parts (q : Int × Int) : qL q = TL.joinL [47] (qParts q) := by
  unfold qL qParts
  split <;> rfl
theorem digit_not {c : Nat} (l : List Nat) (h : NumText.AllDigits l) (hc : c < 48 ∨ 57 < c) : c ∉ l := fun hm => by
  have := h c hm
  omega
theorem qParts_free (q : Int × Int) : ∀ p ∈ qParts q, (47 : Nat) ∉ p := by
  intro p hp
  unfold qParts at hp
  split at hp
  · rw [List.mem_singleton] at hp; subst hp; exact TL.numL_free (.inl (by decide))
  · rcases List.mem_cons.mp hp
        with rfl | hp
    · exact TL.numL_free (.inl (by decide))
    · rw [List.mem_singleton] at hp; subst hp; exact TL.numL_free (.inl (by decide))
theorem qSplit (q : Int × Int) : Txt.split (SX.S (qL q)) (SX.S [47]) = (qParts q).map SX.S := by
  rw [qL_parts]
  exact split_join (by decide) (by unfold qParts; split <;> simp) (qParts_free q)
section
variable {P : Program} {w : World} {K : PySem.W.Frag} {mg : Str → Option Value} {base : Heap} {c : Addr}
def sp__int_text (K : PySem.W.Frag) (c : Addr) : Sp := fun vs H Q _ => ∃ (n : Int), vs = [.int n] ∧ 0 ≤ n ∧ n < 10 ^ 50 ∧ ∀ H', Same H H' → Q (.str (SX.S (TL.numL n.toNat))) H'
theorem cal__int_text (B : Bl mg) (DD : OwnDef K mg "_int_text" s__int_text)  (T : Tx K mg c) : Cal P w K mg base 1 "_int_text" (sp__int_text K c) [] := by
  obtain ⟨f, fd, F, hm⟩ := DD.ex
  refine ⟨f, fd, ["integer"], [], F.ok sc__int_text (fun vs H Q E h => ?len) (fun cdv A outer s H vs Q E hr h => ?run), hm, F.kp, F.binds (fun _ _ _ _ _ _ us hl => match us, hl with | [_], _ => rfl), .nil⟩
  case len => first | (obtain ⟨_, rfl, _⟩ := h; rfl) | (obtain ⟨_, _, rfl, _⟩ := h; rfl) | (obtain ⟨_, _, _, rfl, _⟩ := h; rfl) | (obtain ⟨_, _, _, _, rfl, _⟩ := h; rfl) | (obtain ⟨_, _, _, _, _, rfl, _⟩ := h; rfl) | (obtain ⟨_, _, _, _, _, _, rfl, _⟩ := h; rfl) | (obtain ⟨_, _, _, _, _, _, _, rfl, _⟩ := h; rfl) | (obtain ⟨_, _, _, _, _, _, _, _, rfl, _⟩ := h; rfl) | (obtain ⟨_, _, _, _, _, _, _, _, _, rfl, _⟩ := h; rfl) | (obtain ⟨_, _, _, _, _, _, _, _, _, _, rfl, _⟩ := h; rfl) | (obtain ⟨_, _, _, _, _, _, _, _, _, _, _, rfl, _⟩ := h; rfl) | (obtain ⟨_, _, _, _, _, _, _, _, _, _, _, _, rfl, _⟩ := h; rfl) | (obtain ⟨_, _, _, _, _, _, _, _, _, _, _, _, _, rfl, _⟩ := h; rfl) | (obtain ⟨_, _, _, _, _, _, _, _, _, _, _, _, _, _, rfl, _⟩ := h; rfl)
  case run =>
    obtain ⟨n, rfl, h0, h1, k⟩ := h
    refine ⟨_, (pss_cons (ps_set (i := 1) sc__int_text.nd rfl (Or.inl rfl) (pe_lst pa_nil))
      (pss_cons (ps_while PassesOwn.never (pt_cmpR op_ge (pv 0) (pe_gint (by rfl) T.g_BLOCK) (nomark _)) (pss_cons (ps_asg (pe_callB call_divmodW (by rfl) B.divmod (by decide +kernel) (pa_cons (pv 0) (pa_cons (pe_gint (by rfl) T.g_BLOCK) pa_nil))) (pg_tup (by rfl) (pgs_cons (pg_name (i := 0) sc__int_text.nd rfl (Or.inl rfl)) (pgs_cons (pg_name (i := 2) sc__int_text.nd rfl (Or.inl rfl)) pgs_nil))))
      (pss_one (ps_expr (pe_bm PySem.F.plainAttrs_list PySem.F.slot_list_append PySem.F.type_list_append mt_append (pv 1) (pa_cons (pe_m1 PySem.F.slot_str_zfill PySem.F.type_str_zfill mt_zfill (pe_callTy call_str_int (by rfl) B.str (by decide +kernel) (pa_cons (pv 2) pa_nil)) (pe_gint (by rfl) T.g_BLOCK_DIGITS)) pa_nil))))))
      (pss_cons (ps_expr (pe_bm PySem.F.plainAttrs_list PySem.F.slot_list_append PySem.F.type_list_append mt_append (pv 1) (pa_cons (pe_callTy call_str_int (by rfl) B.str (by decide +kernel) (pa_cons (pv 0) pa_nil)) pa_nil)))
      (pss_one (ps_ret (pe_join pe_str (pe_revL (pv 1)))))))), ?_⟩
    refine ⟨Nat.zero_le _, fun l nl => ?_⟩
    refine while_by (fun σ H2 => σ = [some (.int n), some (.ref l), none] ∧ H2 = upd H l (.lst [])) (fun _ _ => 0) ⟨rfl, rfl⟩ ?_ ?_
    · rintro σ H2 ⟨rfl, rfl⟩
      refine ⟨_, rfl, _, _, rfl, rfl, _, rfl, ite2 (fun e => ?_) (fun e => ?_)⟩
      · have : (10 ^ 60 : Int) ≤ n := of_decide_eq_true e
        omega
      · have hS : ∀ xs, SqL K (upd H l (.lst xs)) l xs := fun xs => .inl (.inl upd_same)
        refine ⟨_, rfl, .inl ⟨rfl, _, .inl (.inl upd_same)⟩, _, rfl, n, rfl, log2_50 h0 h1, l, [], _, rfl, rfl, upd_same, by decide, ?_⟩
        refine ⟨⟨_, rfl⟩, _, rfl, l, [_], rfl, .inl (.inl upd_same), fun p np => ?_⟩
        refine ⟨_, p, [Str.ofString (toString n)], rfl, rfl, .inl (.inl (.inl upd_same)), ?_, ?_⟩
        · have l1 := numL_50 h0 h1
          show (([(Str.ofString (toString n)).length] : List Nat).sum + 1 * _) ≤ 16777216
          have z : ("" : Str).length = 0 := by decide +kernel
          rw [toS h0, SX.S_len, z]
          simp
          omega
        · have e1 : Txt.join ("" : Str) [Str.ofString (toString n)] = SX.S (TL.numL n.toNat) := by
            have z : ("" : Str) = SX.S [] := by decide +kernel
            rw [toS h0, z]
            exact SX.join_S [] [TL.numL n.toNat]
          rw [e1]
          have np1 : (upd H l (.lst [])) l = some (.lst []) := upd_same
          refine k _ fun b o e => ?_
          have hb : b ≠ l := ne_of_none e nl
          have hbp : b ≠ p := fun z => by
            subst z
            rw [upd_ne hb, upd_ne hb] at np
            rw [np] at e
            cases e
          rw [upd_ne hbp, upd_ne hb, upd_ne hb]
          exact e
    · rintro σ H2 Q1 Q2 hQ ⟨v, e, i, j, e1, e2, k, ek, q'⟩
      exact ⟨v, e, i, j, e1, e2, k, ek, hQ _ _ q'⟩
theorem small60 : ∀ n : Nat, n < 60 → Builtin.Range.small ((n : Nat) : Int) ((n : Nat) : Int) 60 = true := by decide +kernel
def sp__read_int (K : PySem.W.Frag) (c : Addr) : Sp := fun vs H Q _ => ∃ (l : List Nat), vs = [.str (SX.S l)] ∧ NumText.AllDigits l ∧ l.length < 60 ∧ Q (.int ((NumText.digitsVal l : Nat) : Int)) H
theorem cal__read_int (B : Bl mg) (DD : OwnDef K mg "_read_int" s__read_int)  (T : Tx K mg c) : Cal P w K mg base 1 "_read_int" (sp__read_int K c) [] := by
  obtain ⟨f, fd, F, hm⟩ := DD.ex
  refine ⟨f, fd, ["digits"], [], F.ok sc__read_int (fun vs H Q E h => ?len) (fun cdv A outer s H vs Q E hr h => ?run), hm, F.kp, F.binds (fun _ _ _ _ _ _ us hl => match us, hl with | [_], _ => rfl), .nil⟩
  case len => first | (obtain ⟨_, rfl, _⟩ := h; rfl) | (obtain ⟨_, _, rfl, _⟩ := h; rfl) | (obtain ⟨_, _, _, rfl, _⟩ := h; rfl) | (obtain ⟨_, _, _, _, rfl, _⟩ := h; rfl) | (obtain ⟨_, _, _, _, _, rfl, _⟩ := h; rfl) | (obtain ⟨_, _, _, _, _, _, rfl, _⟩ := h; rfl) | (obtain ⟨_, _, _, _, _, _, _, rfl, _⟩ := h; rfl) | (obtain ⟨_, _, _, _, _, _, _, _, rfl, _⟩ := h; rfl) | (obtain ⟨_, _, _, _, _, _, _, _, _, rfl, _⟩ := h; rfl) | (obtain ⟨_, _, _, _, _, _, _, _, _, _, rfl, _⟩ := h; rfl) | (obtain ⟨_, _, _, _, _, _, _, _, _, _, _, rfl, _⟩ := h; rfl) | (obtain ⟨_, _, _, _, _, _, _, _, _, _, _, _, rfl, _⟩ := h; rfl) | (obtain ⟨_, _, _, _, _, _, _, _, _, _, _, _, _, rfl, _⟩ := h; rfl) | (obtain ⟨_, _, _, _, _, _, _, _, _, _, _, _, _, _, rfl, _⟩ := h; rfl)
  case run =>
    obtain ⟨l, rfl, hd, hl, k⟩ := h
    refine ⟨_, (pss_cons (ps_set (i := 1) sc__read_int.nd rfl (Or.inl rfl) (pe_op op_mod (pe_callB call_len_str (by rfl) B.len (by decide +kernel) (pa_cons (pv 0) pa_nil)) (pe_gint (by rfl) T.g_BLOCK_DIGITS)))
      (pss_cons (ps_set (i := 2) sc__read_int.nd rfl (Or.inl rfl) (pe_callTy call_int_str (by rfl) B.int (by decide +kernel) (pa_cons (pe_op op_add_str pe_str (pe_slice C8.sl_txt (pv 0) po_none (po_some (pv 1)))) pa_nil)))
      (pss_cons (ps_for PassesOwn.never rfl (pi_range3 (by rfl) B.range (pa_cons (pv 1) (pa_cons (pe_callB call_len_str (by rfl) B.len (by decide +kernel) (pa_cons (pv 0) pa_nil)) (pa_cons (pe_gint (by rfl) T.g_BLOCK_DIGITS) pa_nil)))) (pg_name (i := 3) sc__read_int.nd rfl (Or.inl rfl)) (pss_one (ps_set (i := 2) sc__read_int.nd rfl (Or.inl rfl) (pe_op op_add (pe_op op_mulW (pv 2) (pe_gint (by rfl) T.g_BLOCK)) (pe_callTy call_int_str (by rfl) B.int (by decide +kernel) (pa_cons (pe_slice C8.sl_txt (pv 0) (po_some (pv 3)) (po_some (pe_op op_add (pv 3) (pe_gint (by rfl) T.g_BLOCK_DIGITS)))) pa_nil))))))
      (pss_one (ps_ret (pv 2)))))), ?_⟩
    have sl : sizeLine = 16777216 := sizeLine_eq
    have em : (((SX.S l).length : Nat) : Int) % 60 = ((l.length : Nat) : Int) := by rw [SX.S_len]; omega
    refine ⟨_, rfl, _, rfl, by rw [SX.S_len]; omega, _, _, rfl, rfl, (by show (0 : Int) < 60; decide), ?_⟩
    have e48 : ("0" : Str) = SX.S [48] := by decide +kernel
    refine ⟨_, rfl, _, rfl, _, rfl, _, rfl, by rw [SX.S_len]; omega, ?_⟩
    have ec : Txt.slice (SX.S l) none (some ((((SX.S l).length : Nat) : Int) % 60)) = SX.S l := by
      rw [em, SX.slice_to (by omega)]
      congr 1
      rw [show ((l.length : Nat) : Int).toNat = l.length by omega, List.take_length]
    refine ⟨_, _, rfl, congrArg V.str ec, ?_, ?_⟩
    · rw [e48, SX.S_len, SX.S_len, sl]; simp; omega
    rw [e48, SX.S_cat]
    refine ⟨_, _, rfl, SX.int_S (allD (l := 48 :: l) ?_) (by simp) (by simp; omega), by rw [SX.S_len]; simp; omega, ?_⟩
    · intro d hm
      rcases List.mem_cons.mp hm
            with rfl | hm
      · decide
      · exact hd d hm
    refine ⟨_, rfl, _, rfl, _, rfl, by rw [SX.S_len]; omega, ?_⟩
    refine ⟨((l.length : Nat) : Int), ((l.length : Nat) : Int), 60, 0, ?_, ?_, ?_⟩
    · show [V.int ((((SX.S l).length : Nat) : Int) % 60), V.int (((SX.S l).length : Nat) : Int), V.int 60] = _
      rw [em, SX.S_len]
    · refine ⟨by decide, by decide, ?_, ?_⟩
      · exact small60 _ hl
      · unfold Builtin.Range.rangeSize
        rw [if_pos (by decide), if_neg (by omega)]
        rfl
    refine for_rangeC (n := 0) (fun _ σ H2 => σ = [some (.str (SX.S l)), some (.int ((((SX.S l).length : Nat) : Int) % 60)), some (.int ((NumText.digitsVal l : Nat) : Int)), none] ∧ H2 = H) ⟨rfl, rfl⟩ (fun i _ _ hi => absurd hi (Nat.not_lt_zero i)) ?_
    rintro σ H2 ⟨rfl, rfl⟩
    exact ⟨_, rfl, k⟩
def sp_is_digits (K : PySem.W.Frag) (c : Addr) : Sp := fun vs H Q _ => ∃ (x : Str), vs = [.str x] ∧ Q (.bl (Txt.isascii x && Txt.isdigit x)) H
theorem cal_is_digits (B : Bl mg) (DD : OwnDef K mg "is_digits" s_is_digits)   : Cal P w K mg base 1 "is_digits" (sp_is_digits K c) [] := by
  obtain ⟨f, fd, F, hm⟩ := DD.ex
  refine ⟨f, fd, ["text"], [], F.ok sc_is_digits (fun vs H Q E h => ?len) (fun cdv A outer s H vs Q E hr h => ?run), hm, F.kp, F.binds (fun _ _ _ _ _ _ us hl => match us, hl with | [_], _ => rfl), .nil⟩
  case len => first | (obtain ⟨_, rfl, _⟩ := h; rfl) | (obtain ⟨_, _, rfl, _⟩ := h; rfl) | (obtain ⟨_, _, _, rfl, _⟩ := h; rfl) | (obtain ⟨_, _, _, _, rfl, _⟩ := h; rfl) | (obtain ⟨_, _, _, _, _, rfl, _⟩ := h; rfl) | (obtain ⟨_, _, _, _, _, _, rfl, _⟩ := h; rfl) | (obtain ⟨_, _, _, _, _, _, _, rfl, _⟩ := h; rfl) | (obtain ⟨_, _, _, _, _, _, _, _, rfl, _⟩ := h; rfl) | (obtain ⟨_, _, _, _, _, _, _, _, _, rfl, _⟩ := h; rfl) | (obtain ⟨_, _, _, _, _, _, _, _, _, _, rfl, _⟩ := h; rfl) | (obtain ⟨_, _, _, _, _, _, _, _, _, _, _, rfl, _⟩ := h; rfl) | (obtain ⟨_, _, _, _, _, _, _, _, _, _, _, _, rfl, _⟩ := h; rfl) | (obtain ⟨_, _, _, _, _, _, _, _, _, _, _, _, _, rfl, _⟩ := h; rfl) | (obtain ⟨_, _, _, _, _, _, _, _, _, _, _, _, _, _, rfl, _⟩ := h; rfl)
  case run =>
    obtain ⟨x, rfl, k⟩ := h
    refine ⟨_, (pss_one (ps_ret (pe_and (pe_m0 PySem.F.slot_str_isascii PySem.F.type_str_isascii mt_isascii (pv 0)) (pe_one (pe_m0 PySem.F.slot_str_isdigit PySem.F.type_str_isdigit mt_isdigit (pv 0)))))), ?_⟩
    refine ⟨_, rfl, ⟨_, rfl⟩, x, rfl, rfl, trivial, _, rfl, ite2 (fun e => ?_) (fun e => ?_)⟩
    · rw [e, Bool.true_and] at k
      exact ⟨_, rfl, ⟨_, rfl⟩, x, rfl, rfl, trivial, k⟩
    · have e' : Txt.isascii x = false := by
        cases q : Txt.isascii x with
        | false => rfl
        | true => exact absurd q e
      rw [e', Bool.false_and] at k
      exact k
theorem numL_isdigit (n : Nat) : (Txt.isascii (SX.S (TL.numL n)) && Txt.isdigit (SX.S (TL.numL n))) = true := by
  have hd := TL.numL_digits n
  have hp : 0 < (TL.numL n).length := List.length_pos_iff.mpr (TL.numL_ne n)
  unfold Txt.isascii Txt.isdigit
  rw [Bool.and_eq_true,
        Bool.and_eq_true]
  refine ⟨?_, ?_, ?_⟩
  · rw [← Array.all_toList, List.all_eq_true]
    intro d hm
    have := hd d hm
    simp; omega
  · rw [SX.S_len]; exact decide_eq_true hp
  · rw [← Array.all_toList, List.all_eq_true]
    intro d hm
    have := hd d hm
    have h2 : ∀ d : Nat, d < 58 → 48 ≤ d → Unicode.isDigit d = true := by decide +kernel
    exact h2 d (by omega) this.1
/-- number_text(pair) -/
def sp_number_text (K : PySem.W.Frag) (c : Addr) : Sp := fun vs H Q _ => ∃ (v : V) (q : Int × Int), vs = [v] ∧ D K H v (encQ q) ∧ OkW q ∧ ∀ H', Same H H' → Q (.str (SX.S (qL q))) H'
theorem cal_number_text (B : Bl mg) (DD : OwnDef K mg "number_text" s_number_text) (C__int_text : Cal P w K mg base 1 "_int_text" (sp__int_text K c) [])  : Cal P w K mg base 2 "number_text" (sp_number_text K c) [] := by
  obtain ⟨f, fd, F, hm⟩ := DD.ex
  refine ⟨f, fd, ["pair"], [], F.ok sc_number_text (fun vs H Q E h => ?len) (fun cdv A outer s H vs Q E hr h => ?run), hm, F.kp, F.binds (fun _ _ _ _ _ _ us hl => match us, hl with | [_], _ => rfl), .nil⟩
  case len => first | (obtain ⟨_, rfl, _⟩ := h; rfl) | (obtain ⟨_, _, rfl, _⟩ := h; rfl) | (obtain ⟨_, _, _, rfl, _⟩ := h; rfl) | (obtain ⟨_, _, _, _, rfl, _⟩ := h; rfl) | (obtain ⟨_, _, _, _, _, rfl, _⟩ := h; rfl) | (obtain ⟨_, _, _, _, _, _, rfl, _⟩ := h; rfl) | (obtain ⟨_, _, _, _, _, _, _, rfl, _⟩ := h; rfl) | (obtain ⟨_, _, _, _, _, _, _, _, rfl, _⟩ := h; rfl) | (obtain ⟨_, _, _, _, _, _, _, _, _, rfl, _⟩ := h; rfl) | (obtain ⟨_, _, _, _, _, _, _, _, _, _, rfl, _⟩ := h; rfl) | (obtain ⟨_, _, _, _, _, _, _, _, _, _, _, rfl, _⟩ := h; rfl) | (obtain ⟨_, _, _, _, _, _, _, _, _, _, _, _, rfl, _⟩ := h; rfl) | (obtain ⟨_, _, _, _, _, _, _, _, _, _, _, _, _, rfl, _⟩ := h; rfl) | (obtain ⟨_, _, _, _, _, _, _, _, _, _, _, _, _, _, rfl, _⟩ := h; rfl)
  case run =>
    obtain ⟨v, q, rfl, hv, ok, k⟩ := h
    refine ⟨_, (pss_cons (ps_if (pt_cmpR op_eq (pe_ix ix_seq (pv 0) pe_int (fun _ _ => rfl)) pe_int (nomark _)) (pss_one (ps_ret (pe_c C__int_text hr (by decide) (by rfl) (pa_cons (pe_ix ix_seq (pv 0) pe_int (fun _ _ => rfl)) pa_nil)))) pss_nil)
      (pss_one (ps_ret (pe_joined (PJ.cons (pe_fmt (pe_c C__int_text hr (by decide) (by rfl) (pa_cons (pe_ix ix_seq (pv 0) pe_int (fun _ _ => rfl)) pa_nil))) (PJ.cons pe_str (PJ.cons (pe_fmt (pe_c C__int_text hr (by decide) (by rfl) (pa_cons (pe_ix ix_seq (pv 0) pe_int (fun _ _ => rfl)) pa_nil))) PJ.nil))))))), ?_⟩
    refine ⟨_, rfl, ix_di hv (by decide) rfl ?_⟩
    refine ⟨rfl, _, rfl, ite2 (fun e => ?_) (fun e => ?_)⟩
    · have e1 : q.2 = 1 := V.int.inj (of_decide_eq_true e)
      refine ⟨_, rfl, ix_di hv (by decide) rfl ?_⟩
      refine ⟨q.1, rfl, ok.a, ok.a2, fun H1 s1 => ?_⟩
      have z : qL q = TL.numL q.1.toNat := by unfold qL; rw [if_pos e1]
      rw [z] at k
      exact k _ s1
    · have e1 : ¬ q.2 = 1 := fun z => e (decide_eq_true (congrArg V.int z))
      have l1 := numL_50 ok.a ok.a2
      have l2 := numL_50 (Int.le_of_lt ok.b) ok.b2
      have sl : sizeLine = 16777216 := sizeLine_eq
      have c47 : ("/" : Str) = SX.S [47] := by decide +kernel
      have c0 : Str.empty = SX.S [] := by decide +kernel
      refine ⟨_, rfl, ix_di hv (by decide) rfl ?_⟩
      refine ⟨q.1, rfl, ok.a, ok.a2, fun H1 s1 => ?_⟩
      refine .inl ⟨_, rfl, by rw [SX.S_len]; omega, _, rfl, ?_, ?_⟩
      · rw [c0, SX.S_cat, SX.S_len, List.nil_append]; omega
      refine ⟨_, rfl, ?_, ?_⟩
      · rw [c0, c47, SX.S_cat, SX.S_cat, SX.S_len, sl]; simp; omega
      have hv1 := D.same s1 hv
      refine ⟨_, rfl, ix_di hv1 (by decide) rfl ?_⟩
      refine ⟨q.2, rfl, Int.le_of_lt ok.b, ok.b2, fun H2 s2 => ?_⟩
      refine .inl ⟨_, rfl, by rw [SX.S_len]; omega, _, rfl, ?_, ?_⟩
      · rw [c0, c47, SX.S_cat, SX.S_cat, SX.S_cat, SX.S_len, sl]; simp; omega
      have z : SX.S (qL q) = Str.empty ++ SX.S (TL.numL q.1.toNat) ++ ("/" : Str) ++ SX.S (TL.numL q.2.toNat) := by
        rw [c0, c47, SX.S_cat, SX.S_cat, SX.S_cat]
        unfold qL
        rw [if_neg e1]
        simp
      rw [z] at k
      exact k _ (s1.trans s2)
theorem qL_inj_parts (q : Int × Int) : (qParts q).length = if q.2 = 1 then 1 else 2 := by
  unfold qParts
  split <;> rfl
theorem iteT' {b : Bool} {A B : Prop} (e : b = true) (h : A) : if b = true then A else B := by rw [if_pos e]; exact h
/-- read_number(text), of the text of a number in lowest terms -/
def sp_read_number (K : PySem.W.Frag) (c : Addr) : Sp := fun vs H Q _ => ∃ (q : Int × Int), vs = [.str (SX.S (qL q))] ∧ OkW q ∧ lowQ q.1 q.2 = q ∧
  ∀ p H', Same H H' → H p = none → H' p = some (.tup [.int q.1, .int q.2]) → Q (.ref p) H'
theorem cal_read_number (B : Bl mg) (DD : OwnDef K mg "read_number" s_read_number) (C__read_int : Cal P w K mg base 1 "_read_int" (sp__read_int K c) []) (C_lowest : Cal P w K mg base 2 "lowest" (sp_lowest K c) []) (C_is_number : Cal P w K mg base 2 "is_number" (sp_is_number K c) []) (C_number_text : Cal P w K mg base 2 "number_text" (sp_number_text K c) []) (C_is_digits : Cal P w K mg base 1 "is_digits" (sp_is_digits K c) [])  : Cal P w K mg base 3 "read_number" (sp_read_number K c) [] := by
  obtain ⟨f, fd, F, hm⟩ := DD.ex
  refine ⟨f, fd, ["text"], [], F.ok sc_read_number (fun vs H Q E h => ?len) (fun cdv A outer s H vs Q E hr h => ?run), hm, F.kp, F.binds (fun _ _ _ _ _ _ us hl => match us, hl with | [_], _ => rfl), .nil⟩
  case len => first | (obtain ⟨_, rfl, _⟩ := h; rfl) | (obtain ⟨_, _, rfl, _⟩ := h; rfl) | (obtain ⟨_, _, _, rfl, _⟩ := h; rfl) | (obtain ⟨_, _, _, _, rfl, _⟩ := h; rfl) | (obtain ⟨_, _, _, _, _, rfl, _⟩ := h; rfl) | (obtain ⟨_, _, _, _, _, _, rfl, _⟩ := h; rfl) | (obtain ⟨_, _, _, _, _, _, _, rfl, _⟩ := h; rfl) | (obtain ⟨_, _, _, _, _, _, _, _, rfl, _⟩ := h; rfl) | (obtain ⟨_, _, _, _, _, _, _, _, _, rfl, _⟩ := h; rfl) | (obtain ⟨_, _, _, _, _, _, _, _, _, _, rfl, _⟩ := h; rfl) | (obtain ⟨_, _, _, _, _, _, _, _, _, _, _, rfl, _⟩ := h; rfl) | (obtain ⟨_, _, _, _, _, _, _, _, _, _, _, _, rfl, _⟩ := h; rfl) | (obtain ⟨_, _, _, _, _, _, _, _, _, _, _, _, _, rfl, _⟩ := h; rfl) | (obtain ⟨_, _, _, _, _, _, _, _, _, _, _, _, _, _, rfl, _⟩ := h; rfl)
  case run =>
    obtain ⟨q, rfl, ok, low, k⟩ := h
    refine ⟨_, (pss_cons (ps_set (i := 1) sc_read_number.nd rfl (Or.inl rfl) (pe_split (pv 0) pe_str))
      (pss_cons (ps_if (PW.pt (pw_or (pt_cmpR op_gt (pe_callB call_len_seq (by rfl) B.len (by decide +kernel) (pa_cons (pv 1) pa_nil)) pe_int (nomark _)) (pw_or1 (pt_not (pt_val (pe_callB (cr_all rfl) (by rfl) B.all (by decide +kernel) (pa_cons (pe_lc (own := [("part", 2)]) (by rfl) sc_read_number.nd (pi_list (pv 1)) (blkOk_by (own := [("part", 2)]) (N := ["text", "parts", "part", "number", "pair"]) (sc := defScope s_read_number) (by decide +kernel)) (fun _ _ _ _ _ => (pg_name (i := 2) sc_read_number.nd rfl (Or.inl rfl))) (fun _ _ _ _ _ => pts_nil) (fun _ _ _ _ _ => (pe_c C_is_digits hr (by decide) (by rfl) (pa_cons (pv 2) pa_nil)))) pa_nil))))))) (pss_one (ps_ret pe_non)) pss_nil)
      (pss_cons (ps_set (i := 3) sc_read_number.nd rfl (Or.inl rfl) (pe_c C__read_int hr (by decide) (by rfl) (pa_cons (pe_ix ix_seq (pv 1) pe_int (fun _ _ => rfl)) pa_nil)))
      (pss_cons (ps_if (pt_cmpR op_eq (pe_callB call_len_seq (by rfl) B.len (by decide +kernel) (pa_cons (pv 1) pa_nil)) pe_int (nomark _)) (pss_one (ps_set (i := 3) sc_read_number.nd rfl (Or.inl rfl) (pe_tup (pa_cons (pv 3) (pa_cons (pe_c C__read_int hr (by decide) (by rfl) (pa_cons (pe_ix ix_seq (pv 1) pe_int (fun _ _ => rfl)) pa_nil)) pa_nil))))) pss_nil)
      (pss_cons (ps_if (pt_not (pt_val (pe_c C_is_number hr (by decide) (by rfl) (pa_cons (pv 3) pa_nil)))) (pss_one (ps_ret pe_non)) pss_nil)
      (pss_cons (ps_set (i := 4) sc_read_number.nd rfl (Or.inl rfl) (pe_c C_lowest hr (by decide) (by rfl) (pa_cons (pv 3) pa_nil)))
      (pss_one (ps_ret (pe_ifExp (pt_cmpR op_eq (pe_c C_number_text hr (by decide) (by rfl) (pa_cons (pv 4) pa_nil)) (pv 0) (nomark _)) (pv 4) pe_non))))))))), ?_⟩
    have ql := qL_len ok
    have sl : sizeLine = 16777216 := sizeLine_eq
    have c47 : ("/" : Str) = SX.S [47] := by decide +kernel
    refine ⟨_, rfl, ⟨_, rfl⟩, _, _, rfl, rfl, by decide +kernel, by rw [SX.S_len]; omega, fun l nl => ?_⟩
    have es : Txt.split (SX.S (qL q)) ("/" : Str) = (qParts q).map SX.S := by rw [c47]; exact qSplit q
    rw [es]
    have hS : SqL K (upd H l (.lst (((qParts q).map SX.S).map V.str))) l (((qParts q).map SX.S).map V.str) := .inl (.inl upd_same)
    have s1 : Same H (upd H l (.lst (((qParts q).map SX.S).map V.str))) := same_new nl
    -- if len(parts) > 2 or not all(..)
    refine ⟨_, rfl, l, _, rfl, .inl hS, _, _, rfl, rfl, _, rfl, ite2 (fun e => ?_) (fun _ => ?_)⟩
    · have e1 : (2 : Int) < ((((qParts q).map SX.S).map V.str).length : Nat) := of_decide_eq_true e
      rw [List.length_map, List.length_map, qL_inj_parts] at e1
      split at e1 <;> omega
    -- all([is_digits(part) for part in parts])
    refine ⟨_, rfl, l, rfl, ⟨_, hS⟩, fun D0 nD => ?_⟩
    refine lc_list (K := K) (a := l) (xs := ((qParts q).map SX.S).map V.str) (fun i H2 => Same (upd H l (.lst (((qParts q).map SX.S).map V.str))) H2 ∧ H2 D0 = some (.lst (List.replicate i (V.bl true)))) ⟨same_new nD, upd_same⟩ (fun i H2 _ ⟨s2, _⟩ => s2.seq hS) ?_ ?_
    · rintro i y H2 hi ⟨s2, eD⟩
      obtain ⟨x, hx, rfl⟩ := some_map hi
      obtain ⟨m, hm', rfl⟩ := some_map hx
      have hil : i < (qParts q).length := (List.getElem?_eq_some_iff.mp hm').1
      have hdig : (Txt.isascii (SX.S m) && Txt.isdigit (SX.S m)) = true := by
        have mem : m ∈ qParts q := List.mem_of_getElem? hm'
        unfold qParts at mem
        split at mem
        · rw [List.mem_singleton] at mem; subst mem; exact numL_isdigit _
        · rcases List.mem_cons.mp mem with rfl | mem
          · exact numL_isdigit _
          · rw [List.mem_singleton] at mem; subst mem; exact numL_isdigit _
      refine ⟨rfl, _, rfl, _, rfl, ?_⟩
      rw [hdig]
      refine ⟨_, eD, by rw [List.length_replicate]; rw [qL_inj_parts] at hil; split at hil <;> omega, fun b o e => ?_, ?_⟩
      · rw [upd_ne (ne_of_none e nD)]
        exact s2 _ _ e
      · rw [upd_same, List.replicate_succ']
    rintro H2 ⟨s2, eD⟩
    refine ⟨D0, List.replicate _ true, rfl, .inl (.inl (by rw [List.map_replicate]; exact eD)), _, rfl, ?_⟩
    rw [show (List.replicate (((qParts q).map SX.S).map V.str).length true).all id = true from by simp]
    have hS2 := s2.seq hS
    have s02 : Same H H2 := s1.trans s2
    -- number = _read_int(parts[0])
    have e0 : (((qParts q).map SX.S).map V.str)[0]? = some (V.str (SX.S (TL.numL q.1.toNat))) := by
      unfold qParts
      split <;> rfl
    refine ⟨_, rfl, rd_raw hS2 (by decide) e0 ?_⟩
    have l1 := numL_50 ok.a ok.a2
    have l2 := numL_50 (Int.le_of_lt ok.b) ok.b2
    refine ⟨_, rfl, TL.numL_digits _, by omega, ?_⟩
    rw [TL.numL_val, show ((q.1.toNat : Nat) : Int) = q.1 by have := ok.a; omega]
    have okb : q.2.natAbs < 2 ^ 8000 := Nat.lt_trans (show q.2.natAbs < 2 ^ 200 by have := ok.b; have := ok.b2; omega) (by decide +kernel)
    dsimp only [tSeq, tAsg, gName]
    refine viaIf (fun σ' H3 => ∃ (v : V) (d : PyData), σ' = [some (.str (SX.S (qL q))), some (.ref l), none, some v, none] ∧ Same H H3 ∧ LW.D K H3 v d ∧ isNumD d = true ∧ lowD d = q ∧ (∀ a b, d = encQ (a, b) → b.natAbs < 2 ^ 8000)) (fun D' go => ?_) ?_
    · refine ⟨_, rfl, l, _, rfl, .inl hS2, rfl, _, rfl, ite2 (fun e => ?_) (fun e => ?_)⟩
      · have e1 : (((((qParts q).map SX.S).map V.str).length : Nat) : Int) = 2 := V.int.inj (of_decide_eq_true e)
        rw [List.length_map, List.length_map, qL_inj_parts] at e1
        have q2 : ¬ q.2 = 1 := fun z => by rw [if_pos z] at e1; omega
        have e1' : (((qParts q).map SX.S).map V.str)[1]? = some (V.str (SX.S (TL.numL q.2.toNat))) := by
          unfold qParts
          rw [if_neg q2]
          rfl
        refine ⟨_, rfl, _, rfl, rd_raw hS2 (by decide) e1' ?_⟩
        refine ⟨_, rfl, TL.numL_digits _, by omega, ?_⟩
        rw [TL.numL_val, show ((q.2.toNat : Nat) : Int) = q.2 by have := ok.b; omega]
        refine ⟨by show 2 ≤ sizeLine; decide, fun p np => go _ _ ⟨.ref p, encQ q, rfl, s02.trans (same_new np), ?_, enc_num ok.b, low, ?_⟩⟩
        · exact .tup' (.inl (.inl upd_same)) (DAll.cons (.int _) (DAll.cons (.int _) DAll.nil))
        · intro a b z
          have z1 : PyData.tuple [.int q.1, .int q.2] = PyData.tuple [.int a, .int b] := z
          injection z1 with z1
          injection z1 with _ z1
          injection z1 with z1
          injection z1 with z1
          rw [← z1]
          exact okb
      · have q2 : q.2 = 1 := by
          by_cases z : q.2 = 1
          · exact z
          · refine absurd (decide_eq_true (congrArg V.int ?_)) e
            rw [List.length_map, List.length_map, qL_inj_parts, if_neg z]
            rfl
        refine go _ _ ⟨.int q.1, .int q.1, rfl, s02, .int _, rfl, ?_, fun a b z => by cases z⟩
        show (q.1, (1 : Int)) = q
        rw [← q2]
    rintro σ H3 ⟨v, d, rfl, s3, hv, hn, hlow, hsz⟩
    refine ⟨_, rfl, v, d, rfl, hv, _, rfl, ?_⟩
    rw [hn]
    refine ⟨_, rfl, v, d, rfl, hv, hn, hsz, fun p H4 s4 np ep => ?_⟩
    rw [hlow] at ep
    have hq : LW.D K H4 (.ref p) (encQ q) := .tup' (.inl (.inl ep)) (DAll.cons (.int _) (DAll.cons (.int _) DAll.nil))
    refine ⟨_, rfl, .ref p, q, rfl, hq, ok, fun H5 s5 => ?_⟩
    refine ⟨_, rfl, rfl, _, rfl, iteT' (decide_eq_true rfl) ?_⟩
    exact ⟨_, rfl, k p H5 (s3.trans (s4.trans s5)) (s3.free np) (s5 _ _ ep)⟩
end

/-! ### the program: rules -/
def ltQ (p q : Int × Int) : Prop := p.1 * q.2 < q.1 * p.2
instance (p q : Int × Int) : Decidable (ltQ p q) := inferInstanceAs (Decidable (_ < _))
def plainQ (o : Int × Int) (n : Int) : Int × Int := (o.1 + n * o.2, o.2)
theorem D_Q {K : PySem.W.Frag} {H : Hp} {p : Addr} {q : Int × Int} (e : H p = some (.tup [.int q.1, .int q.2])) : D K H (.ref p) (encQ q) := .tup' (.inl (.inl e)) (DAll.cons (.int _) (DAll.cons (.int _) DAll.nil))
theorem Is_Q {K : PySem.W.Frag} {A : List Addr} {H : Hp} {p : Addr} {q : Int × Int} (hp : p ∉ A) (e : H p = some (.tup [.int q.1, .int q.2])) : Is K A H (.ref p) (encQ q) := D_Q (by rw [hv_out hp]; exact e)
section
variable {P : Program} {w : World} {K : PySem.W.Frag} {mg : Str → Option Value} {base : Heap} {c : Addr}
def sp_is_less (K : PySem.W.Frag) (c : Addr) : Sp := fun vs H Q _ => ∃ (v u : V) (p q : Int × Int), vs = [v, u] ∧ D K H v (encQ p) ∧ D K H u (encQ q) ∧ smallQ p ∧ smallQ q ∧ Q (.bl (decide (ltQ p q))) H
theorem cal_is_less (B : Bl mg) (DD : OwnDef K mg "is_less" s_is_less)   : Cal P w K mg base 1 "is_less" (sp_is_less K c) [] := by
  obtain ⟨f, fd, F, hm⟩ := DD.ex
  refine ⟨f, fd, ["pair", "other_pair"], [], F.ok sc_is_less (fun vs H Q E h => ?len) (fun cdv A outer s H vs Q E hr h => ?run), hm, F.kp, F.binds (fun _ _ _ _ _ _ us hl => match us, hl with | [_, _], _ => rfl), .nil⟩
  case len => first | (obtain ⟨_, rfl, _⟩ := h; rfl) | (obtain ⟨_, _, rfl, _⟩ := h; rfl) | (obtain ⟨_, _, _, rfl, _⟩ := h; rfl) | (obtain ⟨_, _, _, _, rfl, _⟩ := h; rfl) | (obtain ⟨_, _, _, _, _, rfl, _⟩ := h; rfl) | (obtain ⟨_, _, _, _, _, _, rfl, _⟩ := h; rfl) | (obtain ⟨_, _, _, _, _, _, _, rfl, _⟩ := h; rfl) | (obtain ⟨_, _, _, _, _, _, _, _, rfl, _⟩ := h; rfl) | (obtain ⟨_, _, _, _, _, _, _, _, _, rfl, _⟩ := h; rfl) | (obtain ⟨_, _, _, _, _, _, _, _, _, _, rfl, _⟩ := h; rfl) | (obtain ⟨_, _, _, _, _, _, _, _, _, _, _, rfl, _⟩ := h; rfl) | (obtain ⟨_, _, _, _, _, _, _, _, _, _, _, _, rfl, _⟩ := h; rfl) | (obtain ⟨_, _, _, _, _, _, _, _, _, _, _, _, _, rfl, _⟩ := h; rfl) | (obtain ⟨_, _, _, _, _, _, _, _, _, _, _, _, _, _, rfl, _⟩ := h; rfl)
  case run =>
    obtain ⟨v, u, p, q, rfl, hv, hu, sp, sq, k⟩ := h
    refine ⟨_, (pss_one (ps_ret (pe_cmpR op_lt (pe_op op_mulW (pe_ix ix_seq (pv 0) pe_int (fun _ _ => rfl)) (pe_ix ix_seq (pv 1) pe_int (fun _ _ => rfl))) (pe_op op_mulW (pe_ix ix_seq (pv 1) pe_int (fun _ _ => rfl)) (pe_ix ix_seq (pv 0) pe_int (fun _ _ => rfl))) (nomark _)))), ?_⟩
    refine ⟨_, rfl, ix_di hv (by decide) rfl ?_⟩
    refine ⟨_, rfl, ix_di hu (by decide) rfl ?_⟩
    refine ⟨_, _, rfl, rfl, wide_mul sp.1 sq.2 (by decide) (by decide) (by decide), _, rfl, ix_di hu (by decide) rfl ?_⟩
    refine ⟨_, rfl, ix_di hv (by decide) rfl ?_⟩
    exact ⟨_, _, rfl, rfl, wide_mul sq.1 sp.2 (by decide) (by decide) (by decide), _, _, rfl, rfl, k⟩
def sp__plain_mark (K : PySem.W.Frag) (c : Addr) : Sp := fun vs H Q _ => ∃ (v : V) (o : Int × Int) (n : Int), vs = [v, .int n] ∧ D K H v (encQ o) ∧ n.natAbs < 2 ^ 8000 ∧ o.2.natAbs < 2 ^ 8000 ∧
  ∀ p, H p = none → Q (.ref p) (upd H p (.tup [.int (plainQ o n).1, .int (plainQ o n).2]))
theorem cal__plain_mark (B : Bl mg) (DD : OwnDef K mg "_plain_mark" s__plain_mark)   : Cal P w K mg base 1 "_plain_mark" (sp__plain_mark K c) [] := by
  obtain ⟨f, fd, F, hm⟩ := DD.ex
  refine ⟨f, fd, ["offset", "number"], [], F.ok sc__plain_mark (fun vs H Q E h => ?len) (fun cdv A outer s H vs Q E hr h => ?run), hm, F.kp, F.binds (fun _ _ _ _ _ _ us hl => match us, hl with | [_, _], _ => rfl), .nil⟩
  case len => first | (obtain ⟨_, rfl, _⟩ := h; rfl) | (obtain ⟨_, _, rfl, _⟩ := h; rfl) | (obtain ⟨_, _, _, rfl, _⟩ := h; rfl) | (obtain ⟨_, _, _, _, rfl, _⟩ := h; rfl) | (obtain ⟨_, _, _, _, _, rfl, _⟩ := h; rfl) | (obtain ⟨_, _, _, _, _, _, rfl, _⟩ := h; rfl) | (obtain ⟨_, _, _, _, _, _, _, rfl, _⟩ := h; rfl) | (obtain ⟨_, _, _, _, _, _, _, _, rfl, _⟩ := h; rfl) | (obtain ⟨_, _, _, _, _, _, _, _, _, rfl, _⟩ := h; rfl) | (obtain ⟨_, _, _, _, _, _, _, _, _, _, rfl, _⟩ := h; rfl) | (obtain ⟨_, _, _, _, _, _, _, _, _, _, _, rfl, _⟩ := h; rfl) | (obtain ⟨_, _, _, _, _, _, _, _, _, _, _, _, rfl, _⟩ := h; rfl) | (obtain ⟨_, _, _, _, _, _, _, _, _, _, _, _, _, rfl, _⟩ := h; rfl) | (obtain ⟨_, _, _, _, _, _, _, _, _, _, _, _, _, _, rfl, _⟩ := h; rfl)
  case run =>
    obtain ⟨v, o, n, rfl, hv, sn, so, k⟩ := h
    refine ⟨_, (pss_one (ps_ret (pe_tup (pa_cons (pe_op op_add (pe_ix ix_seq (pv 0) pe_int (fun _ _ => rfl)) (pe_op op_mulW (pv 1) (pe_ix ix_seq (pv 0) pe_int (fun _ _ => rfl)))) (pa_cons (pe_ix ix_seq (pv 0) pe_int (fun _ _ => rfl)) pa_nil))))), ?_⟩
    refine ⟨_, rfl, ix_di hv (by decide) rfl ?_⟩
    refine ⟨_, rfl, _, rfl, ix_di hv (by decide) rfl ?_⟩
    refine ⟨_, _, rfl, rfl, wide_mul sn so (by decide) (by decide) (by decide), _, _, rfl, rfl, _, rfl, ix_di hv (by decide) rfl ?_⟩
    exact ⟨by show 2 ≤ sizeLine; decide, fun p np => k p np⟩
def isCountD : PyData → Bool
  | .int i => decide (i ≥ 0)
  | _ => false
def sp_is_count (K : PySem.W.Frag) (c : Addr) : Sp := fun vs H Q _ => ∃ (v : V) (d : PyData), vs = [v] ∧ D K H v d ∧ Q (.bl (isCountD d)) H
theorem cal_is_count (B : Bl mg) (DD : OwnDef K mg "is_count" s_is_count) (C_is_int : Cal P w K mg base 1 "is_int" (sp_is_int K c) [])  : Cal P w K mg base 2 "is_count" (sp_is_count K c) [] := by
  obtain ⟨f, fd, F, hm⟩ := DD.ex
  refine ⟨f, fd, ["value"], [], F.ok sc_is_count (fun vs H Q E h => ?len) (fun cdv A outer s H vs Q E hr h => ?run), hm, F.kp, F.binds (fun _ _ _ _ _ _ us hl => match us, hl with | [_], _ => rfl), .nil⟩
  case len => first | (obtain ⟨_, rfl, _⟩ := h; rfl) | (obtain ⟨_, _, rfl, _⟩ := h; rfl) | (obtain ⟨_, _, _, rfl, _⟩ := h; rfl) | (obtain ⟨_, _, _, _, rfl, _⟩ := h; rfl) | (obtain ⟨_, _, _, _, _, rfl, _⟩ := h; rfl) | (obtain ⟨_, _, _, _, _, _, rfl, _⟩ := h; rfl) | (obtain ⟨_, _, _, _, _, _, _, rfl, _⟩ := h; rfl) | (obtain ⟨_, _, _, _, _, _, _, _, rfl, _⟩ := h; rfl) | (obtain ⟨_, _, _, _, _, _, _, _, _, rfl, _⟩ := h; rfl) | (obtain ⟨_, _, _, _, _, _, _, _, _, _, rfl, _⟩ := h; rfl) | (obtain ⟨_, _, _, _, _, _, _, _, _, _, _, rfl, _⟩ := h; rfl) | (obtain ⟨_, _, _, _, _, _, _, _, _, _, _, _, rfl, _⟩ := h; rfl) | (obtain ⟨_, _, _, _, _, _, _, _, _, _, _, _, _, rfl, _⟩ := h; rfl) | (obtain ⟨_, _, _, _, _, _, _, _, _, _, _, _, _, _, rfl, _⟩ := h; rfl)
  case run =>
    obtain ⟨v, d, rfl, hv, k⟩ := h
    refine ⟨_, (pss_one (ps_ret (pe_and (pe_c C_is_int hr (by decide) (by rfl) (pa_cons (pv 0) pa_nil)) (pe_one (pe_cmpR op_ge (pv 0) pe_int (nomark _)))))), ?_⟩
    refine ⟨_, rfl, v, d, rfl, hv, _, rfl, ?_⟩
    cases d with
    | int i =>
      obtain rfl := hv.int_eq
      exact ⟨_, rfl, _, _, rfl, rfl, k⟩
    | _ => exact k
def isOffD (d : PyData) : Bool := isNumD d && (decide (0 ≤ (lowD d).1) && decide ((lowD d).1 ≤ (lowD d).2))
def sp__is_offset (K : PySem.W.Frag) (c : Addr) : Sp := fun vs H Q _ => ∃ (v : V) (d : PyData), vs = [v] ∧ D K H v d ∧ (∀ a b, d = encQ (a, b) → b.natAbs < 2 ^ 8000) ∧ ∀ H', Same H H' → Q (.bl (isOffD d)) H'
theorem cal__is_offset (B : Bl mg) (DD : OwnDef K mg "_is_offset" s__is_offset) (C_lowest : Cal P w K mg base 2 "lowest" (sp_lowest K c) []) (C_is_number : Cal P w K mg base 2 "is_number" (sp_is_number K c) [])  : Cal P w K mg base 3 "_is_offset" (sp__is_offset K c) [] := by
  obtain ⟨f, fd, F, hm⟩ := DD.ex
  refine ⟨f, fd, ["value"], [], F.ok sc__is_offset (fun vs H Q E h => ?len) (fun cdv A outer s H vs Q E hr h => ?run), hm, F.kp, F.binds (fun _ _ _ _ _ _ us hl => match us, hl with | [_], _ => rfl), .nil⟩
  case len => first | (obtain ⟨_, rfl, _⟩ := h; rfl) | (obtain ⟨_, _, rfl, _⟩ := h; rfl) | (obtain ⟨_, _, _, rfl, _⟩ := h; rfl) | (obtain ⟨_, _, _, _, rfl, _⟩ := h; rfl) | (obtain ⟨_, _, _, _, _, rfl, _⟩ := h; rfl) | (obtain ⟨_, _, _, _, _, _, rfl, _⟩ := h; rfl) | (obtain ⟨_, _, _, _, _, _, _, rfl, _⟩ := h; rfl) | (obtain ⟨_, _, _, _, _, _, _, _, rfl, _⟩ := h; rfl) | (obtain ⟨_, _, _, _, _, _, _, _, _, rfl, _⟩ := h; rfl) | (obtain ⟨_, _, _, _, _, _, _, _, _, _, rfl, _⟩ := h; rfl) | (obtain ⟨_, _, _, _, _, _, _, _, _, _, _, rfl, _⟩ := h; rfl) | (obtain ⟨_, _, _, _, _, _, _, _, _, _, _, _, rfl, _⟩ := h; rfl) | (obtain ⟨_, _, _, _, _, _, _, _, _, _, _, _, _, rfl, _⟩ := h; rfl) | (obtain ⟨_, _, _, _, _, _, _, _, _, _, _, _, _, _, rfl, _⟩ := h; rfl)
  case run =>
    obtain ⟨v, d, rfl, hv, hsz, k⟩ := h
    refine ⟨_, (pss_cons (ps_if (pt_not (pt_val (pe_c C_is_number hr (by decide) (by rfl) (pa_cons (pv 0) pa_nil)))) (pss_one (ps_ret pe_bl)) pss_nil)
      (pss_cons (ps_asg (pe_c C_lowest hr (by decide) (by rfl) (pa_cons (pv 0) pa_nil)) (pg_tup (by rfl) (pgs_cons (pg_name (i := 1) sc__is_offset.nd rfl (Or.inl rfl)) (pgs_cons (pg_name (i := 2) sc__is_offset.nd rfl (Or.inl rfl)) pgs_nil))))
      (pss_one (ps_ret (pe_chain op_le op_le pe_int (pv 1) (pv 2)))))), ?_⟩
    refine ⟨_, rfl, v, d, rfl, hv, _, rfl, ?_⟩
    cases hn : isNumD d with
    | false =>
      have z : isOffD d = false := by unfold isOffD; rw [hn]; rfl
      rw [z] at k
      exact k _ (Same.refl H)
    | true =>
      have z : isOffD d = (decide (0 ≤ (lowD d).1) && decide ((lowD d).1 ≤ (lowD d).2)) := by unfold isOffD; rw [hn]; rfl
      rw [z] at k
      refine ⟨_, rfl, v, d, rfl, hv, hn, hsz, fun p H1 s1 np ep => ?_⟩
      refine ⟨p, _, rfl, .inl (.inl ep), rfl, .int (lowD d).1, [.int (lowD d).2], rfl, .int (lowD d).2, [], rfl, rfl, ?_⟩
      refine ⟨_, rfl, _, _, rfl, rfl, _, rfl, ite2 (fun e => ?_) (fun e => ?_)⟩
      · rw [e, Bool.true_and] at k
        exact ⟨_, rfl, _, _, rfl, rfl, k _ s1⟩
      · have e' : decide (0 ≤ (lowD d).1) = false := by
          cases q : decide (0 ≤ (lowD d).1) with
          | false => rfl
          | true => exact absurd q e
        rw [e', Bool.false_and] at k
        exact k _ s1
/-- _is_next_mark(element, marks), marks the list at l -/
def nextD (d : PyData) (ms : List (Int × Int)) : Bool := isNumD d && (match ms.getLast? with | some m => decide (ltQ m (lowD d)) | none => decide (0 ≤ (lowD d).1))
def sp__is_next_mark (K : PySem.W.Frag) (c : Addr) : Sp := fun vs H Q _ => ∃ (v : V) (d : PyData) (l : Addr) (ms : List (Int × Int)), vs = [v, .ref l] ∧ D K H v d ∧ D K H (.ref l) (.list (ms.map encQ)) ∧ (∀ a b, d = encQ (a, b) → b.natAbs < 2 ^ 8000) ∧
  (∀ m ∈ ms, smallQ m) ∧ (isNumD d = true → smallQ (lowD d)) ∧ ∀ H', Same H H' → Q (.bl (nextD d ms)) H'
theorem cal__is_next_mark (B : Bl mg) (DD : OwnDef K mg "_is_next_mark" s__is_next_mark) (C_lowest : Cal P w K mg base 2 "lowest" (sp_lowest K c) []) (C_is_number : Cal P w K mg base 2 "is_number" (sp_is_number K c) []) (C_is_less : Cal P w K mg base 1 "is_less" (sp_is_less K c) [])  : Cal P w K mg base 3 "_is_next_mark" (sp__is_next_mark K c) [] := by
  obtain ⟨f, fd, F, hm⟩ := DD.ex
  refine ⟨f, fd, ["element", "marks"], [], F.ok sc__is_next_mark (fun vs H Q E h => ?len) (fun cdv A outer s H vs Q E hr h => ?run), hm, F.kp, F.binds (fun _ _ _ _ _ _ us hl => match us, hl with | [_, _], _ => rfl), .nil⟩
  case len => first | (obtain ⟨_, rfl, _⟩ := h; rfl) | (obtain ⟨_, _, rfl, _⟩ := h; rfl) | (obtain ⟨_, _, _, rfl, _⟩ := h; rfl) | (obtain ⟨_, _, _, _, rfl, _⟩ := h; rfl) | (obtain ⟨_, _, _, _, _, rfl, _⟩ := h; rfl) | (obtain ⟨_, _, _, _, _, _, rfl, _⟩ := h; rfl) | (obtain ⟨_, _, _, _, _, _, _, rfl, _⟩ := h; rfl) | (obtain ⟨_, _, _, _, _, _, _, _, rfl, _⟩ := h; rfl) | (obtain ⟨_, _, _, _, _, _, _, _, _, rfl, _⟩ := h; rfl) | (obtain ⟨_, _, _, _, _, _, _, _, _, _, rfl, _⟩ := h; rfl) | (obtain ⟨_, _, _, _, _, _, _, _, _, _, _, rfl, _⟩ := h; rfl) | (obtain ⟨_, _, _, _, _, _, _, _, _, _, _, _, rfl, _⟩ := h; rfl) | (obtain ⟨_, _, _, _, _, _, _, _, _, _, _, _, _, rfl, _⟩ := h; rfl) | (obtain ⟨_, _, _, _, _, _, _, _, _, _, _, _, _, _, rfl, _⟩ := h; rfl)
  case run =>
    obtain ⟨v, d, l, ms, rfl, hv, hl, hsz, sm, sd, k⟩ := h
    refine ⟨_, (pss_cons (ps_if (pt_not (pt_val (pe_c C_is_number hr (by decide) (by rfl) (pa_cons (pv 0) pa_nil)))) (pss_one (ps_ret pe_bl)) pss_nil)
      (pss_cons (ps_set (i := 2) sc__is_next_mark.nd rfl (Or.inl rfl) (pe_c C_lowest hr (by decide) (by rfl) (pa_cons (pv 0) pa_nil)))
      (pss_one (ps_ret (pe_ifExp (pt_truth (pv 1) (by intro _; rfl)) (pe_c C_is_less hr (by decide) (by rfl) (pa_cons (pe_ix ix_seq (pv 1) (pe_un un_neg pe_int) (fun _ _ => rfl)) (pa_cons (pv 2) pa_nil))) (pe_cmpR op_ge (pe_ix ix_seq (pv 2) pe_int (fun _ _ => rfl)) pe_int (nomark _))))))), ?_⟩
    refine ⟨_, rfl, v, d, rfl, hv, _, rfl, ?_⟩
    cases hn : isNumD d with
    | false =>
      have z : nextD d ms = false := by unfold nextD; rw [hn]; rfl
      rw [z] at k
      exact k _ (Same.refl H)
    | true =>
      refine ⟨_, rfl, v, d, rfl, hv, hn, hsz, fun p H1 s1 np ep => ?_⟩
      have hl1 := D.same s1 hl
      obtain ⟨l', ws, el, sq, all⟩ := hl1.list
      cases el
      refine ⟨_, rfl, !ws.isEmpty, .inl ⟨ws, sq, rfl⟩, ?_⟩
      have wl : ws.length = ms.length := by rw [all.len, List.length_map]
      cases hg : ms.getLast? with
      | none =>
        have e0 : ms = [] := List.getLast?_eq_none_iff.mp hg
        subst e0
        have ew : ws = [] := List.length_eq_zero_iff.mp wl
        subst ew
        have z : nextD d [] = decide (0 ≤ (lowD d).1) := by unfold nextD; rw [hn]; rfl
        rw [z] at k
        refine ⟨_, rfl, ix_di (D_Q ep) (by decide) rfl ?_⟩
        exact ⟨_, _, rfl, rfl, k _ s1⟩
      | some m =>
        have z : nextD d ms = decide (ltQ m (lowD d)) := by unfold nextD; rw [hn, hg]; rfl
        rw [z] at k
        have hm1 : m ∈ ms := List.mem_of_getLast? hg
        have hpos : 0 < ws.length := by rw [wl]; exact List.length_pos_iff.mpr (List.ne_nil_of_mem hm1)
        have hne : ws ≠ [] := List.length_pos_iff.mp hpos
        have hb : (!ws.isEmpty) = true := by
          cases ws with
          | nil => exact absurd rfl hne
          | cons _ _ => rfl
        rw [hb]
        have em : (ms.map encQ)[ws.length - 1]? = some (encQ m) := by
          rw [wl, List.getElem?_map, ← List.getLast?_eq_getElem?, hg]
          rfl
        obtain ⟨u, eu, hu⟩ := all.get em
        have ea : atI ws (-1) = some u := by
          have hz : ws = ws.dropLast ++ [ws.getLast hne] := (List.dropLast_concat_getLast hne).symm
          have e2 : ws.getLast hne = u := by
            rw [← List.getLast?_eq_getElem?, List.getLast?_eq_getLast hne] at eu
            exact Option.some.inj eu
          rw [hz, e2]
          exact atI_last _ _
        refine ⟨_, rfl, _, rfl, .inl ⟨l, ws, -1, u, rfl, rfl, sq, ea, ?_⟩⟩
        exact ⟨_, rfl, u, .ref p, m, lowD d, rfl, hu, D_Q ep, sm m hm1, sd hn, k _ s1⟩
end

theorem small200' {q : Int × Int} (h : q.1.natAbs < 2 ^ 300) (h2 : q.2.natAbs < 2 ^ 300) : smallQ q := ⟨Nat.lt_trans h (by decide +kernel), Nat.lt_trans h2 (by decide +kernel)⟩
theorem plain_small {o : Int × Int} {n : Nat} (h : o.1.natAbs < 2 ^ 200 ∧ o.2.natAbs < 2 ^ 200) (hn : n ≤ 8) : (o.1 + ((n : Nat) : Int) * o.2).natAbs < 2 ^ 300 := by
  have h1 := h.1
  have h2 := h.2
  have : (((n : Nat) : Int) * o.2).natAbs ≤ 8 * o.2.natAbs := by
    rw [Int.natAbs_mul]
    exact Nat.mul_le_mul_right
          _ (by omega)
  omega
/-! ### the program: the class Rule -/
open StX
/-- what the head of a rule must be -/
structure VH (o : Int × Int) (ds : List PyData) : Prop where
  len : ds.length ≤ 8
  o2 : o.1.natAbs < 2 ^ 200 ∧ o.2.natAbs < 2 ^ 200
  num : ∀ d ∈ ds, isNumD d = true ∧ (∀ a b, d = encQ (a, b) → b.natAbs < 2 ^ 8000) ∧ (lowD d).1.natAbs < 2 ^ 200 ∧ (lowD d).2.natAbs < 2 ^ 200
  next : ∀ (i : Nat) (d : PyData), ds[i]? = some d → nextD d ((ds.take i).map lowD) = true
  last : ∀ m, (ds.map lowD).getLast? = some m → ltQ m (plainQ o ds.length)
theorem small200 {q : Int × Int} (h : q.1.natAbs < 2 ^ 200 ∧ q.2.natAbs < 2 ^ 200) : smallQ q := ⟨Nat.lt_trans h.1 (by decide +kernel), Nat.lt_trans h.2 (by decide +kernel)⟩
section
variable {P : Program} {w : World} {K : PySem.W.Frag} {mg : Str → Option Value} {base : Heap} {c : Addr}
def sp__lowest_head (K : PySem.W.Frag) (c : Addr) : Sp := fun vs H Q _ => ∃ (v u : V) (A : List Addr) (o : Int × Int) (ds : List PyData), vs = [v, u] ∧ Hd A H ∧ Is K A H v (encQ o) ∧ Is K A H u (.tuple ds) ∧ VH o ds ∧
  ∀ t H', Same H H' → Is K A H' t (.tuple ((ds.map lowD).map encQ)) → Q t H'
theorem cal__lowest_head (B : Bl mg) (DD : OwnDef K mg "_lowest_head" s__lowest_head) (C__is_next_mark : Cal P w K mg base 3 "_is_next_mark" (sp__is_next_mark K c) []) (C_lowest : Cal P w K mg base 2 "lowest" (sp_lowest K c) []) (C_is_less : Cal P w K mg base 1 "is_less" (sp_is_less K c) []) (C__plain_mark : Cal P w K mg base 1 "_plain_mark" (sp__plain_mark K c) []) (T : Tx K mg c) : Cal P w K mg base 4 "_lowest_head" (sp__lowest_head K c) [] := by
  obtain ⟨f, fd, F, hm⟩ := DD.ex
  refine ⟨f, fd, ["offset", "head"], [], F.ok sc__lowest_head (fun vs H Q E h => ?len) (fun cdv A outer s H vs Q E hr h => ?run), hm, F.kp, F.binds (fun _ _ _ _ _ _ us hl => match us, hl with | [_, _], _ => rfl), .nil⟩
  case len => first | (obtain ⟨_, rfl, _⟩ := h; rfl) | (obtain ⟨_, _, rfl, _⟩ := h; rfl) | (obtain ⟨_, _, _, rfl, _⟩ := h; rfl) | (obtain ⟨_, _, _, _, rfl, _⟩ := h; rfl) | (obtain ⟨_, _, _, _, _, rfl, _⟩ := h; rfl) | (obtain ⟨_, _, _, _, _, _, rfl, _⟩ := h; rfl) | (obtain ⟨_, _, _, _, _, _, _, rfl, _⟩ := h; rfl) | (obtain ⟨_, _, _, _, _, _, _, _, rfl, _⟩ := h; rfl) | (obtain ⟨_, _, _, _, _, _, _, _, _, rfl, _⟩ := h; rfl) | (obtain ⟨_, _, _, _, _, _, _, _, _, _, rfl, _⟩ := h; rfl) | (obtain ⟨_, _, _, _, _, _, _, _, _, _, _, rfl, _⟩ := h; rfl) | (obtain ⟨_, _, _, _, _, _, _, _, _, _, _, _, rfl, _⟩ := h; rfl) | (obtain ⟨_, _, _, _, _, _, _, _, _, _, _, _, _, rfl, _⟩ := h; rfl) | (obtain ⟨_, _, _, _, _, _, _, _, _, _, _, _, _, _, rfl, _⟩ := h; rfl)
  case run =>
    obtain ⟨v, u, A0, o, ds, rfl, hA, hv, hu, vh, k⟩ := h
    refine ⟨_, (pss_cons (ps_if (pt_cmpR op_gt (pe_callB call_len_seq (by rfl) B.len (by decide +kernel) (pa_cons (pv 1) pa_nil)) (pe_gint (by rfl) T.g_MOST_HEAD) (nomark _)) (pss_one ps_never) pss_nil)
      (pss_cons (ps_set (i := 2) sc__lowest_head.nd rfl (Or.inl rfl) (pe_lst pa_nil))
      (pss_cons (ps_for PassesOwn.never rfl (pi_enumT (by rfl) B.enumerate (pa_cons (pv 1) pa_nil)) (pg_tup (by rfl) (pgs_cons (pg_name (i := 3) sc__lowest_head.nd rfl (Or.inl rfl)) (pgs_cons (pg_name (i := 4) sc__lowest_head.nd rfl (Or.inl rfl)) pgs_nil))) (pss_cons (ps_if (pt_not (pt_val (pe_c C__is_next_mark hr (by decide) (by rfl) (pa_cons (pv 4) (pa_cons (pv 2) pa_nil))))) (pss_one ps_never) pss_nil)
      (pss_one (ps_expr (pe_bm PySem.F.plainAttrs_list PySem.F.slot_list_append PySem.F.type_list_append mt_append (pv 2) (pa_cons (pe_c C_lowest hr (by decide) (by rfl) (pa_cons (pv 4) pa_nil)) pa_nil))))))
      (pss_cons (ps_if (PW.pt (pw_and (pt_truth (pv 2) (by intro _; rfl)) (pw_and1 (pt_not (pt_val (pe_c C_is_less hr (by decide) (by rfl) (pa_cons (pe_ix ix_seq (pv 2) (pe_un un_neg pe_int) (fun _ _ => rfl)) (pa_cons (pe_c C__plain_mark hr (by decide) (by rfl) (pa_cons (pv 0) (pa_cons (pe_callB call_len_seq (by rfl) B.len (by decide +kernel) (pa_cons (pv 2) pa_nil)) pa_nil))) pa_nil)))))))) (pss_one ps_never) pss_nil)
      (pss_one (ps_ret (pe_callTy call_tuple_of (by rfl) B.tuple (by decide +kernel) (pa_cons (pv 2) pa_nil)))))))), ?_⟩
    obtain ⟨a, ws, rfl, sq, all⟩ := is_tup hu
    have sq0 := sqT_full sq
    have wl : ws.length = ds.length := all.len
    -- if len(head) > MOST_HEAD
    refine ⟨_, rfl, a, ws, rfl, .inr sq0, _, _, rfl, rfl, _, rfl, ite2 (fun e => ?_) (fun _ => ?_)⟩
    · have e1 : (8 : Int) < ((ws.length : Nat) : Int) := of_decide_eq_true e
      have := vh.len
      omega
    -- marks = []
    refine ⟨Nat.zero_le _, fun l nl => ?_⟩
    have s1 : Same H (upd H l (.lst [])) := same_new nl
    have lA : l ∉ A0 := hA.out nl
    -- the loop
    refine ⟨_, rfl, a, ws, rfl, seqT_same s1 sq0, for_enumT (K := K) (a := a) (xs := ws) (fun i σ H2 => ∃ (x3 x4 : Option V) (ms : List V), σ = [some v, some (.ref a), some (.ref l), x3, x4] ∧ Same H H2 ∧ H2 l = some (.lst ms) ∧ Iss K (l :: A0) H2 ms (((ds.take i).map lowD).map encQ))
      ⟨none, none, [], rfl, s1, upd_same, DAll.nil⟩ (fun i σ H2 _ ⟨_, _, _, _, s2, _⟩ => seqT_same s2 sq0) ?_ ?_⟩
    · rintro i x σ H2 T0 hx ⟨x3, x4, ms, rfl, s2, el, hms⟩ nT
      obtain ⟨d, hd, hxd⟩ := all.get' hx
      have hil : i < ds.length := (List.getElem?_eq_some_iff.mp hd).1
      have hdm : d ∈ ds := List.mem_of_getElem? hd
      obtain ⟨nu, nsz, nsm⟩ := vh.num d hdm
      refine ⟨T0, _, rfl, .inl (.inl upd_same), rfl, _, _, rfl, x, [], rfl, rfl, ?_⟩
      have s3 : Same H2 (upd H2 T0 (.tup [.int (i : Nat), x])) := same_new nT
      have el3 := s3 _ _ el
      have hx3 : D K (upd H2 T0 (.tup [.int (i : Nat), x])) x d := D.same (s2.trans s3) (D.same hv_le hxd)
      have hms3 : DAll K (upd H2 T0 (.tup [.int (i : Nat), x])) ms (((ds.take i).map lowD).map encQ) := DAll.same s3 hms.full
      refine ⟨_, rfl, _, rfl, x, d, l, (ds.take i).map lowD, rfl, hx3, .lst' (.inl (.inl el3)) hms3, nsz, ?_, fun _ => small200 nsm, fun H4 s4 => ⟨_, rfl, ?_⟩⟩
      · intro m hm
        obtain ⟨d', hd', rfl⟩ := List.mem_map.mp hm
        exact small200 (vh.num d' (List.mem_of_mem_take hd')).2.2
      rw [vh.next i d hd]
      have el4 := s4 _ _ el3
      refine ⟨_, rfl, .inl ⟨rfl, _, .inl (.inl el4)⟩, _, rfl, x, d, rfl, D.same s4 hx3, nu, nsz, fun p H5 s5 np ep => ?_⟩
      have el5 := s5 _ _ el4
      have npl : p ≠ l := fun z => by rw [z, el4] at np; cases np
      have sH5 : Same H H5 := s2.trans (s3.trans (s4.trans s5))
      have npA : p ∉ A0 := fun z => by
        have h1 : H p ≠ none := hA p z
        cases q : H p with
        | none => exact h1 q
        | some u =>
          have : H4 p = some u := s4 _ _ (s3 _ _ (s2 _ _ q))
          rw [this] at np
          cases np
      have msl : ms.length < sizeLine := by
        have e1 := hms.len
        rw [List.length_map, List.length_map, List.length_take] at e1
        have := vh.len
        exact small1000 (by omega)
      refine ⟨l, ms, _, rfl, rfl, el5, msl, ?_⟩
      refine ⟨some (.int (i : Nat)), some x, ms ++ [.ref p], rfl, fun b ob e => ?_, upd_same, ?_⟩
      · rw [upd_ne (ne_of_none e nl)]
        exact sH5 _ _ e
      · have g25 : Go (l :: A0) H2 (upd H5 l (.lst (ms ++ [.ref p]))) := (Go.of (s3.trans (s4.trans s5))).trans (Go.chg (by simp))
        have e2 : ((ds.take (i + 1)).map lowD).map encQ = ((ds.take i).map lowD).map encQ ++ [encQ (lowD d)] := by
          rw [List.take_add_one, hd]
          simp
        rw [e2]
        refine iss_app (Iss.mono g25 hms) (DAll.cons (Is_Q ?_ ?_) DAll.nil)
        · simp [npl, npA]
        · rw [upd_ne npl]
          exact ep
    · rintro σ H2 ⟨x3, x4, ms, rfl, s2, el, hms⟩
      rw [wl, List.take_length] at hms
      have ml : ms.length = ds.length := by rw [hms.len, List.length_map, List.length_map]
      -- what follows the if
      have fin : ∀ H3, Same H2 H3 → ∀ p, H3 p = none → Q (.ref p) (upd H3 p (.tup ms)) := fun H3 s3 p np => by
        have hd3 : Hd A0 H3 := (Go.of (s2.trans s3)).held hA
        refine k _ _ ((s2.trans s3).trans (same_new np)) ?_
        refine is_new_tup hd3 np (Iss.mono (Go.of s3) (Iss.less hms))
      refine ⟨_, rfl, !ms.isEmpty, .inl ⟨ms, .inl (.inl el), rfl⟩, ?_⟩
      cases hg : (ds.map lowD).getLast? with
      | none =>
        have e0 : ds = [] := by
          have := List.getLast?_eq_none_iff.mp hg
          exact List.map_eq_nil_iff.mp this
        have em : ms = [] := List.length_eq_zero_iff.mp (by rw [ml, e0]; rfl)
        subst em
        exact ⟨_, rfl, l, [], rfl, .inl ⟨.inl (.inl el), fun p np => fin H2 (Same.refl _) p np⟩⟩
      | some m =>
        have hpos : 0 < ms.length := by
          rw [ml]
          cases ds with
          | nil => simp at hg
          | cons _ _ => simp
        have hne : ms ≠ [] := List.length_pos_iff.mp hpos
        have hb : (!ms.isEmpty) = true := by
          cases ms with
          | nil => exact absurd rfl hne
          | cons _ _ => rfl
        rw [hb]
        have em : ((ds.map lowD).map encQ)[ms.length - 1]? = some (encQ m) := by
          have z : ms.length = (ds.map lowD).length := by rw [ml, List.length_map]
          rw [z, List.getElem?_map, ← List.getLast?_eq_getElem?, hg]
          rfl
        obtain ⟨y, ey, hy⟩ := iss_get hms em
        have ea : atI ms (-1) = some y := by
          have hz : ms = ms.dropLast ++ [ms.getLast hne] := (List.dropLast_concat_getLast hne).symm
          have e2 : ms.getLast hne = y := by
            rw [← List.getLast?_eq_getElem?, List.getLast?_eq_getLast hne] at ey
            exact Option.some.inj ey
          rw [hz, e2]
          exact atI_last _ _
        have hmm : m ∈ ds.map lowD := List.mem_of_getLast? hg
        obtain ⟨dm, hdm, rfl⟩ := List.mem_map.mp hmm
        have hlast := vh.last _ hg
        refine ⟨_, rfl, _, rfl, .inl ⟨l, ms, -1, y, rfl, rfl, .inl (.inl el), ea, ?_⟩⟩
        refine ⟨_, rfl, _, rfl, l, ms, rfl, .inl (.inl (.inl el)), v, o, ((ms.length : Nat) : Int), rfl, D.same s2 hv.full, ?_, Nat.lt_trans vh.o2.2 (by decide +kernel), fun p np => ?_⟩
        · have := vh.len
          exact Nat.lt_of_le_of_lt (show (((ms.length : Nat) : Int)).natAbs ≤ 8 by omega) (by decide +kernel)
        refine ⟨y, .ref p, lowD dm, plainQ o ((ms.length : Nat) : Int), rfl, D.same (same_new np) hy.full, D_Q upd_same, small200 (vh.num dm hdm).2.2, ?_, ?_⟩
        · have h1 := vh.o2
          have h2 := vh.len
          refine small200' ?_ ?_
          · show (o.1 + ((ms.length : Nat) : Int) * o.2).natAbs < 2 ^ 300
            have := plain_small (o := o) (n := ms.length) h1 (by omega)
            exact this
          · exact Nat.lt_trans h1.2 (by decide +kernel)
        rw [ml]
        rw [show decide (ltQ (lowD dm) (plainQ o ((ds.length : Nat) : Int))) = true from decide_eq_true hlast]
        refine ⟨_, rfl, ?_⟩
        exact ⟨_, rfl, l, ms, rfl, .inl ⟨.inl (.inl ((same_new np) _ _ el)), fun p' np' => fin _ (same_new np) p' np'⟩⟩
def markQ (o : Int × Int) (hd : List (Int × Int)) (n : Int) : Int × Int := if n < ((hd.length : Nat) : Int) then hd.getD n.toNat (0, 1) else plainQ o n
def sp_Rule_mark (K : PySem.W.Frag) (c : Addr) : Sp := fun vs H Q _ => ∃ (r dx : Addr) (fs : List (Str × V)) (v0 v1 : V) (A : List Addr) (o : Int × Int) (hd : List (Int × Int)) (n : Int), vs = [.ref r, .int n] ∧
  H r = some (.ins c dx fs) ∧ fs.lookup ("offset" : Str) = some v0 ∧ fs.lookup ("head" : Str) = some v1 ∧ Hd A H ∧ Is K A H v0 (encQ o) ∧ Is K A H v1 (.tuple (hd.map encQ)) ∧ 0 ≤ n ∧ n.natAbs < 2 ^ 8000 ∧ o.2.natAbs < 2 ^ 8000 ∧
  ∀ v H', Same H H' → Is K A H' v (encQ (markQ o hd n)) → Q v H'
theorem met_Rule_mark {f : Addr} {fd : FuncData} (B : Bl mg) (T : Tx K mg c) (F : Fun K "mark" "Rule.mark" s_Rule_mark f fd) (me : Meth K c "mark" f) (C__plain_mark : Cal P w K mg base 1 "_plain_mark" (sp__plain_mark K c) []) (C_is_count : Cal P w K mg base 2 "is_count" (sp_is_count K c) [])  : Met P w K mg base 3 c "mark" (sp_Rule_mark K c) ∧ FnOk P w K mg base CX0 3 f fd ["self", "number"] (sp_Rule_mark K c) := by
  refine (fun Ok => ⟨⟨f, fd, ["self", "number"], T.cl, me, Ok, F.binds (fun _ _ _ _ _ _ us hl => match us, hl with | [_, _], _ => rfl)⟩, Ok⟩) (F.ok sc_Rule_mark (fun vs H Q E h => ?len) (fun cdv A outer s H vs Q E hr h => ?run))
  case len => first | (obtain ⟨_, rfl, _⟩ := h; rfl) | (obtain ⟨_, _, rfl, _⟩ := h; rfl) | (obtain ⟨_, _, _, rfl, _⟩ := h; rfl) | (obtain ⟨_, _, _, _, rfl, _⟩ := h; rfl) | (obtain ⟨_, _, _, _, _, rfl, _⟩ := h; rfl) | (obtain ⟨_, _, _, _, _, _, rfl, _⟩ := h; rfl) | (obtain ⟨_, _, _, _, _, _, _, rfl, _⟩ := h; rfl) | (obtain ⟨_, _, _, _, _, _, _, _, rfl, _⟩ := h; rfl) | (obtain ⟨_, _, _, _, _, _, _, _, _, rfl, _⟩ := h; rfl) | (obtain ⟨_, _, _, _, _, _, _, _, _, _, rfl, _⟩ := h; rfl) | (obtain ⟨_, _, _, _, _, _, _, _, _, _, _, rfl, _⟩ := h; rfl) | (obtain ⟨_, _, _, _, _, _, _, _, _, _, _, _, rfl, _⟩ := h; rfl) | (obtain ⟨_, _, _, _, _, _, _, _, _, _, _, _, _, rfl, _⟩ := h; rfl) | (obtain ⟨_, _, _, _, _, _, _, _, _, _, _, _, _, _, rfl, _⟩ := h; rfl)
  case run =>
    obtain ⟨r, dx, fs, v0, v1, A0, o, hd, n, rfl, er, l0, l1, hA, h0, h1, n0, nz, oz, k⟩ := h
    refine ⟨_, (pss_cons (ps_if (pt_not (pt_val (pe_c C_is_count hr (by decide) (by rfl) (pa_cons (pv 1) pa_nil)))) (pss_one ps_never) pss_nil)
      (pss_cons (ps_if (pt_cmpR op_lt (pv 1) (pe_callB call_len_seq (by rfl) B.len (by decide +kernel) (pa_cons (pe_fld (pv 0) rfl) pa_nil)) (nomark _)) (pss_one (ps_ret (pe_ix ix_seq (pe_fld (pv 0) rfl) (pv 1) (fun _ _ => rfl)))) pss_nil)
      (pss_one (ps_ret (pe_c C__plain_mark hr (by decide) (by rfl) (pa_cons (pe_fld (pv 0) rfl) (pa_cons (pv 1) pa_nil))))))), ?_⟩
    have hc : isCountD (.int n) = true := decide_eq_true (show n ≥ 0 from n0)
    refine ⟨_, rfl, .int n, .int n, rfl, .int n, _, rfl, ?_⟩
    rw [hc]
    obtain ⟨a, ws, rfl, sq, all⟩ := is_tup h1
    have wl : ws.length = hd.length := by rw [all.len, List.length_map]
    refine ⟨_, rfl, _, rfl, r, c, dx, fs, _, rfl, er, T.cl, T.nH, l1, a, ws, rfl, .inr (sqT_full sq), _, _, rfl, rfl, _, rfl, ite2 (fun e => ?_) (fun e => ?_)⟩
    · have e1 : n < ((ws.length : Nat) : Int) := of_decide_eq_true e
      have hi : n.toNat < hd.length := by omega
      have z : markQ o hd n = hd[n.toNat] := by
        unfold markQ
        rw [if_pos (by omega)]
        simp [List.getD, hi]
      rw [z] at k
      refine ⟨_, rfl, r, c, dx, fs, _, rfl, er, T.cl, T.nH, l1, _, rfl, ?_⟩
      exact rd_tup h1 n0 (d := encQ hd[n.toNat]) (by rw [List.getElem?_map, List.getElem?_eq_getElem hi]; rfl) fun u hu => k u H (Same.refl H) hu
    · have e1 : ¬ n < ((ws.length : Nat) : Int) := fun z => e (decide_eq_true z)
      have z : markQ o hd n = plainQ o n := by
        unfold markQ
        rw [if_neg (by omega)]
      rw [z] at k
      refine ⟨_, rfl, r, c, dx, fs, _, rfl, er, T.cl, T.nO, l0, _, rfl, v0, o, n, rfl, h0.full, nz, oz, fun p np => ?_⟩
      exact k _ _ (same_new np) (Is_Q (hA.out np) upd_same)
end

/-! ### the program: the unit of a rule -/
theorem dall_cons {K : PySem.W.Frag} {H : Hp} {vs : List V} {d : PyData} {ds : List PyData} (h : DAll K H vs (d :: ds)) : ∃ v ws, vs = v :: ws ∧ D K H v d ∧ DAll K H ws ds := by
  obtain ⟨v, ws, e, h1, h2⟩ := iss_cons (A := []) h.is
  exact ⟨v, ws, e, h1.full, h2.full⟩
theorem lowD_pos {d : PyData} (h : isNumD d = true) : 0 < (lowD d).2 := by
  have key : ∀ a b : Int, 0 < b → 0 < (lowQ a b).2 := fun a b hb => by
    have g0 : 0 < Nat.gcd a.natAbs b.natAbs := Nat.gcd_pos_of_pos_right _ (by omega)
    have g1 : Nat.gcd a.natAbs b.natAbs ≤ b.natAbs := Nat.gcd_le_right _ (by omega)
    show 0 < b / ((Nat.gcd a.natAbs b.natAbs : Nat) : Int)
    exact Int.ediv_pos_of_pos_of_dvd hb (by omega) (Int.natAbs_dvd_natAbs.mp (by rw [Int.natAbs_natCast]; exact Nat.gcd_dvd_right _ _))
  match d, h with
  | .int i, _ => exact Int.one_pos
  | .tuple [.int a, .int b], h => exact key a b (by have := of_decide_eq_true (show decide (b ≥ 1) = true from h); omega)
/-- the least number of which all bottoms are divisors -/
def lcmN (ps : List (Int × Int)) : Nat := ps.foldl (fun a q => Nat.lcm a q.2.natAbs) 1
theorem lcmN_app (ps : List (Int × Int)) (q : Int × Int) : lcmN (ps ++ [q]) = Nat.lcm (lcmN ps) q.2.natAbs := by
  unfold lcmN
  rw [List.foldl_append]
  rfl
theorem lcmN_lt : ∀ (n : Nat) (ps : List (Int × Int)), ps.length = n → (∀ q ∈ ps, q.2.natAbs < 2 ^ 200) → lcmN ps < 2 ^ (200 * n + 1)
  | 0, ps, e, _ => by
    obtain rfl := List.length_eq_zero_iff.mp e
    show (1 : Nat) < 2 ^ (200 * 0 + 1)
    decide
  | n + 1, ps, e, h => by
    have ne : ps ≠ [] := fun z => by rw [z] at e; simp at e
    have z : ps = ps.dropLast ++ [ps.getLast ne] := (List.dropLast_concat_getLast ne).symm
    have ih := lcmN_lt n ps.dropLast (by rw [List.length_dropLast, e]; rfl) fun q hq => h q ((List.dropLast_prefix _).subset hq)
    have hl := h _ (List.getLast_mem ne)
    rw [z, lcmN_app]
    refine Nat.lt_of_le_of_lt (lcm_le _ _) (Nat.lt_of_lt_of_le (Nat.mul_lt_mul'' ih hl) ?_)
    rw [← Nat.pow_add]
    exact Nat.pow_le_pow_right (by
          decide) (by omega)
theorem lcmN_pos : ∀ (n : Nat) (ps : List (Int × Int)), ps.length = n → (∀ q ∈ ps, 0 < q.2) → 0 < lcmN ps
  | 0, ps, e, _ => by
    obtain rfl := List.length_eq_zero_iff.mp e
    exact Nat.one_pos
  | n + 1, ps, e, h => by
    have ne : ps ≠ [] := fun z => by rw [z] at e; simp at e
    have z : ps = ps.dropLast ++ [ps.getLast ne] := (List.dropLast_concat_getLast ne).symm
    have ih := lcmN_pos n ps.dropLast (by rw [List.length_dropLast, e]; rfl) fun q hq => h q ((List.dropLast_prefix _).subset hq)
    have hl := h _ (List.getLast_mem ne)
    rw [z, lcmN_app]
    exact Nat.lcm_pos ih (by omega)
theorem lcmN_dvd : ∀ (n : Nat) (ps : List (Int × Int)), ps.length = n → ∀ q ∈ ps, q.2.natAbs ∣ lcmN ps
  | 0, ps, e, q, hq => by
    obtain rfl := List.length_eq_zero_iff.mp e
    cases hq
  | n + 1, ps, e, q, hq => by
    have ne : ps ≠ [] := fun z => by rw [z] at e; simp at e
    have z : ps = ps.dropLast ++ [ps.getLast ne] := (List.dropLast_concat_getLast ne).symm
    have ih := lcmN_dvd n ps.dropLast (by rw [List.length_dropLast, e]; rfl) q
    rw [z] at hq ⊢
    rw [lcmN_app]
    rcases List.mem_append.mp hq
          with hq | hq
    · exact Nat.dvd_trans (ih hq) (Nat.dvd_lcm_left _ _)
    · rw [List.mem_singleton.mp
          hq]
      exact Nat.dvd_lcm_right _ _
theorem lcmN_8000 {ps : List (Int × Int)} (l : ps.length ≤ 16) (h : ∀ q ∈ ps, q.2.natAbs < 2 ^ 200) : lcmN ps < 2 ^ 3201 :=
  Nat.lt_of_lt_of_le (lcmN_lt _ ps rfl h) (Nat.pow_le_pow_right (by decide) (by omega))
section
variable {P : Program} {w : World} {K : PySem.W.Frag} {mg : Str → Option Value} {base : Heap} {c : Addr}
def sp_common_bottom (K : PySem.W.Frag) (c : Addr) : Sp := fun vs H Q _ => ∃ (l : Addr) (A : List Addr) (ps : List (Int × Int)), vs = [.ref l] ∧ Is K A H (.ref l) (.list (ps.map encQ)) ∧ ps.length ≤ 16 ∧ (∀ q ∈ ps, q.2.natAbs < 2 ^ 200) ∧
  Q (.int ((lcmN ps : Nat) : Int)) H
theorem cal_common_bottom (B : Bl mg) (DD : OwnDef K mg "common_bottom" s_common_bottom)  (T : Tx K mg c) : Cal P w K mg base 1 "common_bottom" (sp_common_bottom K c) [] := by
  obtain ⟨f, fd, F, hm⟩ := DD.ex
  refine ⟨f, fd, ["pairs"], [], F.ok sc_common_bottom (fun vs H Q E h => ?len) (fun cdv A outer s H vs Q E hr h => ?run), hm, F.kp, F.binds (fun _ _ _ _ _ _ us hl => match us, hl with | [_], _ => rfl), .nil⟩
  case len => first | (obtain ⟨_, rfl, _⟩ := h; rfl) | (obtain ⟨_, _, rfl, _⟩ := h; rfl) | (obtain ⟨_, _, _, rfl, _⟩ := h; rfl) | (obtain ⟨_, _, _, _, rfl, _⟩ := h; rfl) | (obtain ⟨_, _, _, _, _, rfl, _⟩ := h; rfl) | (obtain ⟨_, _, _, _, _, _, rfl, _⟩ := h; rfl) | (obtain ⟨_, _, _, _, _, _, _, rfl, _⟩ := h; rfl) | (obtain ⟨_, _, _, _, _, _, _, _, rfl, _⟩ := h; rfl) | (obtain ⟨_, _, _, _, _, _, _, _, _, rfl, _⟩ := h; rfl) | (obtain ⟨_, _, _, _, _, _, _, _, _, _, rfl, _⟩ := h; rfl) | (obtain ⟨_, _, _, _, _, _, _, _, _, _, _, rfl, _⟩ := h; rfl) | (obtain ⟨_, _, _, _, _, _, _, _, _, _, _, _, rfl, _⟩ := h; rfl) | (obtain ⟨_, _, _, _, _, _, _, _, _, _, _, _, _, rfl, _⟩ := h; rfl) | (obtain ⟨_, _, _, _, _, _, _, _, _, _, _, _, _, _, rfl, _⟩ := h; rfl)
  case run =>
    obtain ⟨l, A0, ps, rfl, hl, ln, sz, k⟩ := h
    refine ⟨_, (pss_cons (ps_set (i := 1) sc_common_bottom.nd rfl (Or.inl rfl) pe_int)
      (pss_cons (ps_for PassesOwn.never rfl (pi_list (pv 0)) (pg_tup (by rfl) (pgs_cons (pg_name (i := 2) sc_common_bottom.nd rfl (Or.inl rfl)) (pgs_cons (pg_name (i := 3) sc_common_bottom.nd rfl (Or.inl rfl)) pgs_nil))) (pss_one (ps_set (i := 1) sc_common_bottom.nd rfl (Or.inl rfl) (pe_callBfun cr_lcm (by rfl) T.g_lcm (pa_cons (pv 1) (pa_cons (pv 3) pa_nil))))))
      (pss_one (ps_ret (pv 1))))), ?_⟩
    obtain ⟨a, ws, e, sq, all⟩ := hl.full.list
    cases e
    have wl : ws.length = ps.length := by rw [all.len, List.length_map]
    refine ⟨_, rfl, _, rfl, ⟨_, sq⟩, ?_⟩
    refine for_list (K := K) (a := l) (xs := ws) (fun i σ H2 => H2 = H ∧ ∃ (x2 x3 : Option V), σ = [some (.ref l), some (.int ((lcmN (ps.take i) : Nat) : Int)), x2, x3])
      ⟨rfl, none, none, rfl⟩ (fun i σ H2 _ ⟨e, _⟩ => by rw [e]; exact sq) ?_ ?_
    · rintro i x σ H2 hx ⟨rfl, x2, x3, rfl⟩
      obtain ⟨d, hd, hxd⟩ := all.get' hx
      obtain ⟨q, hq, rfl⟩ := some_map hd
      have qm : q ∈ ps := List.mem_of_getElem? hq
      obtain ⟨b8, us8, rfl, sq8, all8⟩ := hxd.tuple
      obtain ⟨u1, us1, rfl, hu1, all8⟩ := dall_cons all8
      obtain ⟨u2, us2, rfl, hu2, all8⟩ := dall_cons all8
      obtain rfl : us2 = [] := List.length_eq_zero_iff.mp all8.len
      obtain rfl := hu1.int_eq
      obtain rfl := hu2.int_eq
      refine ⟨b8, _, rfl, sq8, rfl, _, _, rfl, _, [], rfl, rfl, ?_⟩
      have z1 : (((lcmN (ps.take i) : Nat) : Int)).natAbs < 2 ^ 8000 := by
        rw [Int.natAbs_natCast]
        exact Nat.lt_trans (lcmN_8000 (by rw [List.length_take]; omega) fun q hq => sz q (List.mem_of_mem_take hq)) (by decide +kernel)
      have z2 : q.2.natAbs < 2 ^ 8000 := Nat.lt_trans (sz q qm) (by decide +kernel)
      refine ⟨_, rfl, _, rfl, _, _, rfl, z1, z2, rfl, some (.int q.1), some (.int q.2), ?_⟩
      rw [List.take_add_one, hq, Option.toList, lcmN_app, Int.natAbs_natCast]
      rfl
    · rintro σ H2 ⟨rfl, x2, x3, rfl⟩
      rw [wl, List.take_length]
      exact ⟨_, rfl, k⟩
end

/-! ### the program: a rule is made -/
section
variable {P : Program} {w : World} {K : PySem.W.Frag} {mg : Str → Option Value} {base : Heap} {c : Addr}
/-- the fields of a rule -/
abbrev rFs (v0 v1 : V) (u : Int) (v3 : V) (x : Int) (v2 : V) : List (Str × V) := [("offset", v0), ("head", v1), ("unit", .int u), ("_whole_head", v3), ("whole_offset", .int x), ("_start", v2)]
/-- its unit -/
def unitQ (o : Int × Int) (hd : List (Int × Int)) : Int := ((lcmN (o :: hd) : Nat) : Int)
/-- a number times the unit -/
def timesQ (u : Int) (q : Int × Int) : Int := q.1 * (u / q.2)
/-- a rule stands at r -/
structure RuleAt (K : PySem.W.Frag) (c : Addr) (A : List Addr) (H : Hp) (r : Addr) (o : Int × Int) (hd : List (Int × Int)) : Prop where
  ex : ∃ (dx : Addr) (v0 v1 v2 v3 : V), H r = some (.ins c dx (rFs v0 v1 (unitQ o hd) v3 (timesQ (unitQ o hd) o) v2)) ∧ Is K A H v0 (encQ o) ∧ Is K A H v1 (.tuple (hd.map encQ)) ∧
    Is K A H v2 (.tuple ((List.range 8).map fun i => encQ (markQ o hd ((i : Nat) : Int)))) ∧ Is K A H v3 (.list (hd.map fun q => .int (timesQ (unitQ o hd) q)))
theorem RuleAt.same {A : List Addr} {H H' : Hp} {r : Addr} {o : Int × Int} {hd : List (Int × Int)} (R : RuleAt K c A H r o hd) (s : Same H H') : RuleAt K c A H' r o hd := by
  obtain ⟨dx, v0, v1, v2, v3, e, h0, h1, h2, h3⟩ := R.ex
  exact ⟨dx, v0, v1, v2, v3, s _ _ e, Is.mono (Go.of s) h0, Is.mono (Go.of s) h1, Is.mono (Go.of s) h2, Is.mono (Go.of s) h3⟩
theorem RuleAt.go {A : List Addr} {H H' : Hp} {r : Addr} {o : Int × Int} {hd : List (Int × Int)} (R : RuleAt K c A H r o hd) (hr : r ∉ A) (s : Go A H H') : RuleAt K c A H' r o hd := by
  obtain ⟨dx, v0, v1, v2, v3, e, h0, h1, h2, h3⟩ := R.ex
  exact ⟨dx, v0, v1, v2, v3, s.keep _ _ hr e, Is.mono s h0, Is.mono s h1, Is.mono s h2, Is.mono s h3⟩
theorem put1 (v0 : V) : putF "offset" v0 [] = ([("offset", v0)] : List (Str × V)) := rfl
theorem kOH : ¬ (("offset" : Str) = "head") := by decide +kernel
theorem kOU : ¬ (("offset" : Str) = "unit") := by decide +kernel
theorem kOW : ¬ (("offset" : Str) = "_whole_head") := by decide +kernel
theorem kOX : ¬ (("offset" : Str) = "whole_offset") := by decide +kernel
theorem kOS : ¬ (("offset" : Str) = "_start") := by decide +kernel
theorem kHU : ¬ (("head" : Str) = "unit") := by decide +kernel
theorem kHW : ¬ (("head" : Str) = "_whole_head") := by decide +kernel
theorem kHX : ¬ (("head" : Str) = "whole_offset") := by decide +kernel
theorem kHS : ¬ (("head" : Str) = "_start") := by decide +kernel
theorem kUW : ¬ (("unit" : Str) = "_whole_head") := by decide +kernel
theorem kUX : ¬ (("unit" : Str) = "whole_offset") := by decide +kernel
theorem kUS : ¬ (("unit" : Str) = "_start") := by decide +kernel
theorem kWX : ¬ (("_whole_head" : Str) = "whole_offset") := by decide +kernel
theorem kWS : ¬ (("_whole_head" : Str) = "_start") := by decide +kernel
theorem kXS : ¬ (("whole_offset" : Str) = "_start") := by decide +kernel
theorem kOM : ¬ (("mark" : Str) = "offset") := by decide +kernel
theorem kHM : ¬ (("mark" : Str) = "head") := by decide +kernel
theorem kUM : ¬ (("mark" : Str) = "unit") := by decide +kernel
theorem kWM : ¬ (("mark" : Str) = "_whole_head") := by decide +kernel
theorem kXM : ¬ (("mark" : Str) = "whole_offset") := by decide +kernel
theorem kSM : ¬ (("mark" : Str) = "_start") := by decide +kernel
theorem put_cons {f g : Str} {v u : V} {r : List (Str × V)} (h : ¬ (f = g)) : putF g v ((f, u) :: r) = (f, u) :: putF g v r := by
  show (if f = g then _ else _) = _
  rw [if_neg h]
theorem put2 (v0 v1 : V) : putF "head" v1 ([("offset", v0)] : List (Str × V)) = ([("offset", v0), ("head", v1)] : List (Str × V)) := by
  rw [put_cons kOH]
  rfl
theorem put3 (v0 v1 v2 : V) : putF "unit" v2 ([("offset", v0), ("head", v1)] : List (Str × V)) = ([("offset", v0), ("head", v1), ("unit", v2)] : List (Str × V)) := by
  rw [put_cons kOU, put_cons kHU]
  rfl
theorem put4 (v0 v1 v2 v3 : V) : putF "_whole_head" v3 ([("offset", v0), ("head", v1), ("unit", v2)] : List (Str × V)) = ([("offset", v0), ("head", v1), ("unit", v2), ("_whole_head", v3)] : List (Str × V)) := by
  rw [put_cons kOW, put_cons kHW, put_cons kUW]
  rfl
theorem put5 (v0 v1 v2 v3 v4 : V) : putF "whole_offset" v4 ([("offset", v0), ("head", v1), ("unit", v2), ("_whole_head", v3)] : List (Str × V)) = ([("offset", v0), ("head", v1), ("unit", v2), ("_whole_head", v3), ("whole_offset", v4)] : List (Str × V)) := by
  rw [put_cons kOX, put_cons kHX, put_cons kUX, put_cons kWX]
  rfl
theorem put6 (v0 v1 v2 v3 v4 v5 : V) : putF "_start" v5 ([("offset", v0), ("head", v1), ("unit", v2), ("_whole_head", v3), ("whole_offset", v4)] : List (Str × V)) = ([("offset", v0), ("head", v1), ("unit", v2), ("_whole_head", v3), ("whole_offset", v4), ("_start", v5)] : List (Str × V)) := by
  rw [put_cons kOS, put_cons kHS, put_cons kUS, put_cons kWS, put_cons kXS]
  rfl
theorem lk_cons {f g : Str} {v : V} {r : List (Str × V)} : ((g, v) :: r).lookup f = if f = g then some v else r.lookup f := by
  by_cases h : f = g
  · subst h; simp
  · rw [if_neg h]
    have : (f == g) = false := by simpa using h
    simp [List.lookup, this]
theorem lkO (v0 : V) (r : List (Str × V)) : ((("offset" : Str), v0) :: r).lookup ("offset" : Str) = some v0 := by
  rw [lk_cons, if_pos rfl]
theorem lkH (v0 v1 : V) (r : List (Str × V)) : ((("offset" : Str), v0) :: (("head" : Str), v1) :: r).lookup ("head" : Str) = some v1 := by
  rw [lk_cons, if_neg (fun z => kOH z.symm), lk_cons, if_pos rfl]
theorem lkU (v0 v1 v2 : V) (r : List (Str × V)) : ((("offset" : Str), v0) :: (("head" : Str), v1) :: (("unit" : Str), v2) :: r).lookup ("unit" : Str) = some v2 := by
  rw [lk_cons, if_neg (fun z => kOU z.symm), lk_cons, if_neg (fun z => kHU z.symm), lk_cons, if_pos rfl]
theorem lkW (v0 v1 v2 v3 : V) (r : List (Str × V)) : ((("offset" : Str), v0) :: (("head" : Str), v1) :: (("unit" : Str), v2) :: (("_whole_head" : Str), v3) :: r).lookup ("_whole_head" : Str) = some v3 := by
  rw [lk_cons, if_neg (fun z => kOW z.symm), lk_cons, if_neg (fun z => kHW z.symm), lk_cons, if_neg (fun z => kUW z.symm), lk_cons, if_pos rfl]
theorem lkX (v0 v1 v2 v3 v4 : V) (r : List (Str × V)) : ((("offset" : Str), v0) :: (("head" : Str), v1) :: (("unit" : Str), v2) :: (("_whole_head" : Str), v3) :: (("whole_offset" : Str), v4) :: r).lookup ("whole_offset" : Str) = some v4 := by
  rw [lk_cons, if_neg (fun z => kOX z.symm), lk_cons, if_neg (fun z => kHX z.symm), lk_cons, if_neg (fun z => kUX z.symm), lk_cons, if_neg (fun z => kWX z.symm), lk_cons, if_pos rfl]
theorem lkS (v0 v1 v2 v3 v4 v5 : V) (r : List (Str × V)) : ((("offset" : Str), v0) :: (("head" : Str), v1) :: (("unit" : Str), v2) :: (("_whole_head" : Str), v3) :: (("whole_offset" : Str), v4) :: (("_start" : Str), v5) :: r).lookup ("_start" : Str) = some v5 := by
  rw [lk_cons, if_neg (fun z => kOS z.symm), lk_cons, if_neg (fun z => kHS z.symm), lk_cons, if_neg (fun z => kUS z.symm), lk_cons, if_neg (fun z => kWS z.symm), lk_cons, if_neg (fun z => kXS z.symm), lk_cons, if_pos rfl]
theorem lkM {v0 v1 v3 v5 : V} {u x : Int} : (rFs v0 v1 u v3 x v5).lookup ("mark" : Str) = none := by
  show List.lookup _ [_, _, _, _, _, _] = _
  rw [lk_cons, if_neg kOM, lk_cons, if_neg kHM, lk_cons, if_neg kUM, lk_cons, if_neg kWM, lk_cons, if_neg kXM, lk_cons, if_neg kSM]
  rfl
/-- Rule.__init__(self, offset, *head), at good ones -/
def sp_Rule_init (K : PySem.W.Frag) (c : Addr) : Sp := fun vs H Q _ => ∃ (r dx : Addr) (v : V) (t : Addr) (A : List Addr) (d : PyData) (ds : List PyData), vs = [.ref r, v, .ref t] ∧ H r = some (.ins c dx []) ∧ r ∉ A ∧ Hd A H ∧ Is K (r :: A) H v d ∧
  Is K (r :: A) H (.ref t) (.tuple ds) ∧ isOffD d = true ∧ (∀ a b, d = encQ (a, b) → b.natAbs < 2 ^ 8000) ∧ VH (lowD d) ds ∧
  ∀ H', (∀ b o, b ≠ r → H b = some o → H' b = some o) → RuleAt K c A H' r (lowD d) (ds.map lowD) → Q .non H'
theorem rd_Rule_init {f : Addr} {cdv : Value} {Ar : Around} {outer : List Env} {s : Shared} {H : Hp} {vs : List V} {Q : VK} {E : XK} (B : Bl mg) (T : Tx K mg c)
    (C__is_offset : Cal P w K mg base 3 "_is_offset" (sp__is_offset K c) []) (C_lowest : Cal P w K mg base 2 "lowest" (sp_lowest K c) [])
    (C__lowest_head : Cal P w K mg base 4 "_lowest_head" (sp__lowest_head K c) []) (C_common_bottom : Cal P w K mg base 1 "common_bottom" (sp_common_bottom K c) []) (M_mark : Met P w K mg base 3 c "mark" (sp_Rule_mark K c))
    (hr : Room 6 (Ar.deeper (envOfC "Rule.__init__" (defScope s_Rule___init__) s.heap.objs.size f cdv))) (h : sp_Rule_init K c vs H Q E) :
    ∃ t, PSs (cxOf CX0 P w K mg base ["self", "offset", "head", "top", "bottom", "number"] "Rule.__init__" (defScope s_Rule___init__) f cdv Ar outer s H E).nox (defBody s_Rule___init__) t ∧
      t { nx := fun _ H' => Q .non H', rt := Q } (start ["self", "offset", "head", "top", "bottom", "number"] vs) H := by
  obtain ⟨r, dx, v, t, A, d, ds, rfl, er, rA, hA, hv, ht, ho, hsz, vh, k⟩ := h
  refine ⟨_, (pss_cons (ps_if (pt_not (pt_val (pe_c C__is_offset hr (by decide) (by rfl) (pa_cons (pv 1) pa_nil)))) (pss_one ps_never) pss_nil)
      (pss_cons (ps_fld (pv 0) (pe_c C_lowest hr (by decide) (by rfl) (pa_cons (pv 1) pa_nil)) rfl)
      (pss_cons (ps_fld (pv 0) (pe_c C__lowest_head hr (by decide) (by rfl) (pa_cons (pe_fld (pv 0) rfl) (pa_cons (pv 2) pa_nil))) rfl)
      (pss_cons (ps_fld (pv 0) (pe_c C_common_bottom hr (by decide) (by rfl) (pa_cons (pe_lst (pa_cons (pe_fld (pv 0) rfl) (pa_star (pe_fld (pv 0) rfl) pa_nil))) pa_nil)) rfl)
      (pss_cons (ps_fld (pv 0) (pe_lc (own := [("top", 3), ("bottom", 4)]) (by rfl) sc_Rule___init__.nd (pi_tup (pe_fld (pv 0) rfl)) (blkOk_by (own := [("top", 3), ("bottom", 4)]) (N := ["self", "offset", "head", "top", "bottom", "number"]) (sc := defScope s_Rule___init__) (by decide +kernel)) (fun _ _ _ _ _ => (show PG _ _ (gTup K 2 (gCons (gName 3) (gCons (gName 4) gNil))) from (pg_tup (by rfl) (pgs_cons (pg_name (i := 3) sc_Rule___init__.nd rfl (Or.inl rfl)) (pgs_cons (pg_name (i := 4) sc_Rule___init__.nd rfl (Or.inl rfl)) pgs_nil))))) (fun _ _ _ _ _ => pts_nil) (fun _ _ _ _ _ => (pe_op op_mulW (pv 3) (pe_op op_fdivW (show PE _ _ (tFld K (tVar 0) "unit") from pe_fld (pv 0) rfl) (pv 4))))) rfl)
      (pss_cons (ps_fld (pv 0) (pe_op op_mulW (pe_ix ix_seq (pe_fld (pv 0) rfl) pe_int (fun _ _ => rfl)) (pe_op op_fdivW (pe_fld (pv 0) rfl) (pe_ix ix_seq (pe_fld (pv 0) rfl) pe_int (fun _ _ => rfl)))) rfl)
      (pss_one (ps_fld (pv 0) (pe_callTy call_tuple_of (by rfl) B.tuple (by decide +kernel) (pa_cons (pe_lc (own := [("number", 5)]) (by rfl) sc_Rule___init__.nd (pi_range1 (by rfl) B.range (pa_cons (pe_gint (by rfl) T.g_MOST_HEAD) pa_nil)) (blkOk_by (own := [("number", 5)]) (N := ["self", "offset", "head", "top", "bottom", "number"]) (sc := defScope s_Rule___init__) (by decide +kernel)) (fun _ _ _ _ _ => (pg_name (i := 5) sc_Rule___init__.nd rfl (Or.inl rfl))) (fun _ _ _ _ _ => pts_nil) (fun _ _ _ _ _ => (pe_mt M_mark hr (by decide) (pv 0) (pa_cons (pv 5) pa_nil)))) pa_nil)) rfl)))))))), ?_⟩
  have hn : isNumD d = true := by
    unfold isOffD at ho
    rw [Bool.and_eq_true] at ho
    exact ho.1
  refine ⟨_, rfl, v, d, rfl, hv.full, hsz, fun H1 s1 => ⟨_, rfl, ?_⟩⟩
  rw [ho]
  refine ⟨_, rfl, v, d, rfl, D.same s1 hv.full, hn, hsz, fun p H2 s2 np ep => ?_⟩
  have s02 := s1.trans s2
  have er2 := s02 _ _ er
  have npr : p ≠ r := fun z => by rw [z, s1 _ _ er] at np; cases np
  refine ⟨_, rfl, r, c, dx, _, rfl, er2, T.cl, T.nO, (by show 0 < 1000; decide), ?_⟩
  rw [put1]
  -- self.head = _lowest_head(self.offset, head)
  have hA0 : Hd (r :: A) H := Hd.cons er hA
  have hA2 : Hd (r :: A) H2 := (Go.of s02).held hA0
  have pA : p ∉ A := fun z => by
    cases q : H p with
    | none => exact hA p z q
    | some u => rw [s1 _ _ q] at np; cases np
  have g3 : Go (r :: A) H2 (upd H2 r (.ins c dx [("offset", .ref p)])) := Go.chg (by simp)
  have hA3 := g3.held hA2
  have hp3 : Is K (r :: A) (upd H2 r (.ins c dx [("offset", .ref p)])) (.ref p) (encQ (lowD d)) := Is_Q (by simp [npr, pA]) (by rw [upd_ne npr]; exact ep)
  have ht3 : Is K (r :: A) (upd H2 r (.ins c dx [("offset", .ref p)])) (.ref t) (.tuple ds) := Is.mono ((Go.of s02).trans g3) ht
  refine ⟨_, rfl, r, c, dx, _, _, rfl, upd_same, T.cl, T.nO, lkO _ _, _, rfl, .ref p, .ref t, r :: A, lowD d, ds, rfl, hA3, hp3, ht3, vh, fun v1 H4 s4 hv1 => ?_⟩
  have er4 := s4 _ _ (upd_same (H := H2) (a := r) (o := .ins c dx [("offset", .ref p)]))
  refine ⟨_, rfl, r, c, dx, _, rfl, er4, T.cl, T.nH, (by show 1 < 1000; decide), ?_⟩
  rw [put2]
  have hA4 := (Go.of s4).held hA3
  have g5 : Go (r :: A) H4 (upd H4 r (.ins c dx [("offset", .ref p), ("head", v1)])) := Go.chg (by simp)
  have hA5 := g5.held hA4
  have hp5 := Is.mono ((Go.of s4).trans g5) hp3
  have hv5 := Is.mono g5 hv1
  have er5 : (upd H4 r (.ins c dx [("offset", .ref p), ("head", v1)])) r = some (.ins c dx [("offset", .ref p), ("head", v1)]) := upd_same
  have k5 : ∀ b ob, b ≠ r → H4 b = some ob → (upd H4 r (.ins c dx [("offset", .ref p), ("head", v1)])) b = some ob := fun b ob hb e => by rw [upd_ne hb]; exact e
  generalize (upd H4 r (.ins c dx [("offset", .ref p), ("head", v1)])) = H5 at g5 hA5 hp5 hv5 er5 k5 ⊢
  -- self.unit = common_bottom([self.offset, *self.head])
  obtain ⟨a1, ws1, rfl, sq1, all1⟩ := is_tup hv5
  have wl1 : ws1.length = ds.length := by rw [all1.len, List.length_map, List.length_map]
  have v8 := vh.len
  have numB : ∀ q ∈ lowD d :: ds.map lowD, 0 < q.2 ∧ q.1.natAbs < 2 ^ 200 ∧ q.2.natAbs < 2 ^ 200 := fun q hq => by
    rcases List.mem_cons.mp hq with e | hq
    · subst e
      exact ⟨lowD_pos hn, vh.o2.1, vh.o2.2⟩
    · obtain ⟨d', hd', rfl⟩ := List.mem_map.mp hq
      obtain ⟨nu, _, z1, z2⟩ := vh.num d' hd'
      exact ⟨lowD_pos nu, z1, z2⟩
  have hU : unitQ (lowD d) (ds.map lowD) = ((lcmN (lowD d :: ds.map lowD) : Nat) : Int) := rfl
  have U1 : (unitQ (lowD d) (ds.map lowD)).natAbs < 2 ^ 3201 := by
    rw [hU, Int.natAbs_natCast]
    exact lcmN_8000 (by rw [List.length_cons, List.length_map]; omega) fun q hq => (numB q hq).2.2
  have U0 : 0 ≤ unitQ (lowD d) (ds.map lowD) := by rw [hU]; exact Int.natCast_nonneg _
  have wq : ∀ q ∈ lowD d :: ds.map lowD, CDivW (unitQ (lowD d) (ds.map lowD)) q.2 ∧ CMulW q.1 (unitQ (lowD d) (ds.map lowD) / q.2) := fun q hq => by
    obtain ⟨b0, b1, b2⟩ := numB q hq
    refine ⟨wide_div b0 b2 (by decide) (by decide), wide_mul (b := 3201) b1 ?_ (by decide) (by decide) (by decide)⟩
    exact Nat.lt_of_le_of_lt (by
      have z0 : 0 ≤ unitQ (lowD d) (ds.map lowD) / q.2 := Int.ediv_nonneg U0 (by omega)
      have z1 : unitQ (lowD d) (ds.map lowD) / q.2 ≤ unitQ (lowD d) (ds.map lowD) := Int.ediv_le_self _ U0
      omega) U1
  generalize hUU : unitQ (lowD d) (ds.map lowD) = U at hU U1 U0 wq
  refine ⟨_, rfl, r, c, dx, _, _, rfl, er5, T.cl, T.nO, lkO _ _, _, rfl, r, c, dx, _, _, rfl, er5, T.cl, T.nH, lkH _ _ _, a1, ws1, rfl, .inl (sqT_full sq1), ⟨?_, fun l6 nl6 => ?_⟩⟩
  · rw [List.append_nil, List.length_cons]
    exact Nat.le_of_lt (small1000 (by omega))
  rw [List.append_nil]
  have g6 : Go (r :: A) H5 (upd H5 l6 (.lst (.ref p :: ws1))) := Go.new nl6
  have hl6 : Is K (r :: A) (upd H5 l6 (.lst (.ref p :: ws1))) (.ref l6) (.list ((lowD d :: ds.map lowD).map encQ)) := is_new_lst hA5 nl6 (DAll.cons hp5 all1)
  have s6 : Same H5 (upd H5 l6 (.lst (.ref p :: ws1))) := same_new nl6
  refine ⟨l6, r :: A, lowD d :: ds.map lowD, rfl, hl6, by rw [List.length_cons, List.length_map]; omega, fun q hq => (numB q hq).2.2, ?_⟩
  rw [← hU]
  have er6 := s6 _ _ er5
  have hA6 := g6.held hA5
  have hp6 := Is.mono g6 hp5
  have hv6 := Is.mono g6 hv5
  generalize (upd H5 l6 (.lst (.ref p :: ws1))) = H6 at g6 hl6 s6 er6 hA6 hp6 hv6 ⊢
  refine ⟨_, rfl, r, c, dx, _, rfl, er6, T.cl, T.nU, (by show 2 < 1000; decide), ?_⟩
  rw [put3]
  have g7 : Go (r :: A) H6 (upd H6 r (.ins c dx [("offset", .ref p), ("head", .ref a1), ("unit", .int U)])) := Go.chg (by simp)
  have hA7 := g7.held hA6
  have hp7 := Is.mono g7 hp6
  have hv7 := Is.mono g7 hv6
  have er7 : (upd H6 r (.ins c dx [("offset", .ref p), ("head", .ref a1), ("unit", .int U)])) r = some (.ins c dx [("offset", .ref p), ("head", .ref a1), ("unit", .int U)]) := upd_same
  have k7 : ∀ b ob, b ≠ r → H6 b = some ob → (upd H6 r (.ins c dx [("offset", .ref p), ("head", .ref a1), ("unit", .int U)])) b = some ob := fun b ob hb e => by rw [upd_ne hb]; exact e
  generalize (upd H6 r (.ins c dx [("offset", .ref p), ("head", .ref a1), ("unit", .int U)])) = H7 at g7 hA7 hp7 hv7 er7 k7 ⊢
  -- self._whole_head = [..]
  obtain ⟨a1', ws7, e7, sq7, all7⟩ := is_tup hv7
  cases e7
  have sq7f := sqT_full sq7
  have wl7 : ws7.length = ds.length := by rw [all7.len, List.length_map, List.length_map]
  refine ⟨_, rfl, r, c, dx, _, _, rfl, er7, T.cl, T.nH, lkH _ _ _, a1, rfl, ⟨_, sq7f⟩, fun D0 nD => ?_⟩
  refine lc_tup (K := K) (a := a1) (xs := ws7) (fun i H8 => Same H7 H8 ∧ H8 D0 = some (.lst (((ds.map lowD).take i).map fun q => V.int (timesQ U q)))) ⟨same_new nD, upd_same⟩ (fun i H8 _ ⟨s8, _⟩ => seqT_same s8 sq7f) ?_ ?_
  · rintro i y H8 hi ⟨s8, eD⟩
    obtain ⟨d', hd', hy⟩ := iss_get' all7 hi
    obtain ⟨q, hq, rfl⟩ := some_map hd'
    have qm : q ∈ lowD d :: ds.map lowD := List.mem_cons_of_mem _ (List.mem_of_getElem? hq)
    have hy8 := D.same s8 hy.full
    have er8 := s8 _ _ er7
    obtain ⟨wdq, wmq⟩ := wq q qm
    obtain ⟨b8, us8, rfl, sq8, all8⟩ := hy8.tuple
    obtain ⟨u1, us1, rfl, hu1, all8⟩ := dall_cons all8
    obtain ⟨u2, us2, rfl, hu2, all8⟩ := dall_cons all8
    obtain rfl : us2 = [] := List.length_eq_zero_iff.mp all8.len
    obtain rfl := hu1.int_eq
    obtain rfl := hu2.int_eq
    refine ⟨b8, _, rfl, sq8, rfl, _, _, rfl, _, [], rfl, rfl, ?_⟩
    refine ⟨rfl, _, rfl, _, rfl, r, c, dx, _, _, rfl, er8, T.cl, T.nU, lkU _ _ _ _, _, rfl, _, _, rfl, rfl, wdq, _, _, rfl, rfl, wmq, _, eD, ?_, fun b' o e => ?_, ?_⟩
    · rw [List.length_map, List.length_take, List.length_map]
      exact small1000 (by omega)
    · rw [upd_ne (ne_of_none e nD)]
      exact s8 _ _ e
    · rw [upd_same, List.take_add_one, hq, List.map_append]
      rfl
  rintro H8 ⟨s8, eD⟩
  rw [wl7, ← List.length_map (as := ds) (f := lowD), List.take_length] at eD
  have er8 := s8 _ _ er7
  refine ⟨_, rfl, r, c, dx, _, rfl, er8, T.cl, T.nW, (by show 3 < 1000; decide), ?_⟩
  rw [put4]
  have nDr : D0 ≠ r := fun z => by rw [z, er7] at nD; cases nD
  have D0A : D0 ∉ r :: A := hA7.out nD
  have g9 : Go (r :: A) H8 (upd H8 r (.ins c dx [("offset", .ref p), ("head", .ref a1), ("unit", .int U), ("_whole_head", .ref D0)])) := Go.chg (by simp)
  have hA8 := (Go.of s8).held hA7
  have hA9 := g9.held hA8
  have hp9 := Is.mono ((Go.of s8).trans g9) hp7
  have hv9 := Is.mono ((Go.of s8).trans g9) hv7
  have er9 : (upd H8 r (.ins c dx [("offset", .ref p), ("head", .ref a1), ("unit", .int U), ("_whole_head", .ref D0)])) r = some (.ins c dx [("offset", .ref p), ("head", .ref a1), ("unit", .int U), ("_whole_head", .ref D0)]) := upd_same
  have hw9 : Is K (r :: A) (upd H8 r (.ins c dx [("offset", .ref p), ("head", .ref a1), ("unit", .int U), ("_whole_head", .ref D0)])) (.ref D0) (.list ((ds.map lowD).map fun q => PyData.int (timesQ U q))) := by
    refine is_own_lst (vs := (ds.map lowD).map fun q => V.int (timesQ U q)) (by rw [upd_ne nDr]; exact eD) D0A ?_
    have z : Iss K (D0 :: r :: A) (upd H8 r (.ins c dx [("offset", .ref p), ("head", .ref a1), ("unit", .int U), ("_whole_head", .ref D0)])) (((ds.map lowD).map (timesQ U)).map V.int) (((ds.map lowD).map (timesQ U)).map PyData.int) := iss_ints _
    simp only [List.map_map, Function.comp_def] at z ⊢
    exact z
  have k9 : ∀ b ob, b ≠ r → H8 b = some ob → (upd H8 r (.ins c dx [("offset", .ref p), ("head", .ref a1), ("unit", .int U), ("_whole_head", .ref D0)])) b = some ob := fun b ob hb e => by rw [upd_ne hb]; exact e
  generalize (upd H8 r (.ins c dx [("offset", .ref p), ("head", .ref a1), ("unit", .int U), ("_whole_head", .ref D0)])) = H9 at g9 hA9 hp9 hv9 er9 hw9 k9 ⊢
  -- self.whole_offset = ..
  obtain ⟨wd, wm⟩ := wq _ (List.mem_cons_self)
  refine ⟨_, rfl, r, c, dx, _, _, rfl, er9, T.cl, T.nO, lkO _ _, ix_di hp9.full (by decide) rfl ?_⟩
  refine ⟨_, rfl, r, c, dx, _, _, rfl, er9, T.cl, T.nU, lkU _ _ _ _, _, rfl, r, c, dx, _, _, rfl, er9, T.cl, T.nO, lkO _ _, ix_di hp9.full (by decide) rfl ?_⟩
  refine ⟨_, _, rfl, rfl, wd, _, _, rfl, rfl, wm, ?_⟩
  refine ⟨_, rfl, r, c, dx, _, rfl, er9, T.cl, T.nX, (by show 4 < 1000; decide), ?_⟩
  rw [put5]
  dsimp only
  have ho : (lowD d).1 * (U / (lowD d).2) = timesQ U (lowD d) := rfl
  rw [ho]
  generalize hx : timesQ U (lowD d) = x
  have g11 : Go (r :: A) H9 (upd H9 r (.ins c dx [("offset", .ref p), ("head", .ref a1), ("unit", .int U), ("_whole_head", .ref D0), ("whole_offset", .int x)])) := Go.chg (by simp)
  have hA11 := g11.held hA9
  have hp11 := Is.mono g11 hp9
  have hv11 := Is.mono g11 hv9
  have hw11 := Is.mono g11 hw9
  have er11 : (upd H9 r (.ins c dx [("offset", .ref p), ("head", .ref a1), ("unit", .int U), ("_whole_head", .ref D0), ("whole_offset", .int x)])) r = some (.ins c dx [("offset", .ref p), ("head", .ref a1), ("unit", .int U), ("_whole_head", .ref D0), ("whole_offset", .int x)]) := upd_same
  have k11 : ∀ b ob, b ≠ r → H5 b = some ob → (upd H9 r (.ins c dx [("offset", .ref p), ("head", .ref a1), ("unit", .int U), ("_whole_head", .ref D0), ("whole_offset", .int x)])) b = some ob := fun b ob hb e => by
    rw [upd_ne hb]
    exact k9 b ob hb (s8 b ob (k7 b ob hb (s6 b ob e)))
  have k5' : ∀ b ob, b ≠ r → H4 b = some ob → (upd H9 r (.ins c dx [("offset", .ref p), ("head", .ref a1), ("unit", .int U), ("_whole_head", .ref D0), ("whole_offset", .int x)])) b = some ob := fun b ob hb e => k11 b ob hb (k5 b ob hb e)
  generalize (upd H9 r (.ins c dx [("offset", .ref p), ("head", .ref a1), ("unit", .int U), ("_whole_head", .ref D0), ("whole_offset", .int x)])) = H11 at g11 hA11 hp11 hv11 hw11 er11 k11 k5' ⊢
  -- self._start = tuple([..])
  refine ⟨8, rfl, by decide, by decide, fun E0 nE => ?_⟩
  have nEr : E0 ≠ r := fun z => by rw [z, er11] at nE; cases nE
  have nEA : E0 ∉ A := fun z => hA11 E0 (List.mem_cons_of_mem _ z) nE
  have oz : (lowD d).2.natAbs < 2 ^ 8000 := Nat.lt_trans vh.o2.2 (by decide +kernel)
  refine lc_range (lo := 0) (fun i H6 => Same H11 H6 ∧ Hd (E0 :: r :: A) H6 ∧ ∃ ws, H6 E0 = some (.lst ws) ∧ Iss K (E0 :: r :: A) H6 ws ((List.range i).map fun i => encQ (markQ (lowD d) (ds.map lowD) ((i : Nat) : Int))))
    ⟨same_new nE, Hd.cons upd_same (hd_new hA11 nE), [], upd_same, DAll.nil⟩ ?_ ?_
  · rintro i H6 hi ⟨s6, hA6, ws, eD, hws⟩
    have er6 := s6 _ _ er11
    have hi8 : i < 8 := by simpa using hi
    refine ⟨rfl, _, rfl, r, dx, _, rfl, er6, ?_, _, rfl, ?_⟩
    · rw [lk_cons, if_neg kOM, lk_cons, if_neg kHM, lk_cons, if_neg kUM, lk_cons, if_neg kWM, lk_cons, if_neg kXM]
      rfl
    refine ⟨r, dx, _, .ref p, .ref a1, E0 :: r :: A, lowD d, ds.map lowD, _, rfl, er6, lkO _ _, lkH _ _ _, hA6, Is.mono (Go.of s6) (Is.more nE hp11), Is.mono (Go.of s6) (Is.more nE hv11), by omega, ?_, oz, fun y H7 s7 hy => ?_⟩
    · exact Nat.lt_of_le_of_lt (show (0 + ((i : Nat) : Int)).natAbs ≤ 8 by omega) (by decide +kernel)
    · have wl : ws.length = i := by rw [hws.len]; simp
      refine ⟨ws, s7 _ _ eD, small1000 (by omega), fun b ob e => ?_, ?_, ws ++ [y], upd_same, ?_⟩
      · rw [upd_ne (ne_of_none e nE)]
        exact s7 _ _ (s6 _ _ e)
      · exact (Go.chg (A := E0 :: r :: A) (by simp)).held ((Go.of s7).held hA6)
      · have g8 : Go (E0 :: r :: A) H7 (upd H7 E0 (.lst (ws ++ [y]))) := Go.chg (by simp)
        rw [List.range_succ, List.map_append]
        refine iss_app (Iss.mono ((Go.of s7).trans g8) hws) (DAll.cons ?_ DAll.nil)
        have e0 : (0 + ((i : Nat) : Int)) = ((i : Nat) : Int) := by omega
        rw [e0] at hy
        exact Is.mono g8 hy
  · rintro H6 ⟨s6, hA6, ws, eD, hws⟩
    refine ⟨E0, ws, rfl, .inl ⟨.inl (.inl eD), fun l nl => ?_⟩⟩
    have er7 := (same_new nl (o := .tup ws)) _ _ (s6 _ _ er11)
    refine ⟨_, rfl, r, c, dx, _, rfl, er7, T.cl, T.nS, (by show 5 < 1000; decide), ?_⟩
    rw [put6]
    have lA : l ∉ E0 :: r :: A := hA6.out nl
    have g9 : Go (r :: A) H11 (upd (upd H6 l (.tup ws)) r (.ins c dx [("offset", .ref p), ("head", .ref a1), ("unit", .int U), ("_whole_head", .ref D0), ("whole_offset", .int x), ("_start", .ref l)])) := ((Go.of s6).trans (Go.new nl)).trans (Go.chg (by simp))
    have g10 : Go (E0 :: r :: A) H6 (upd (upd H6 l (.tup ws)) r (.ins c dx [("offset", .ref p), ("head", .ref a1), ("unit", .int U), ("_whole_head", .ref D0), ("whole_offset", .int x), ("_start", .ref l)])) := (Go.new nl).trans (Go.chg (by simp))
    refine k _ (fun b ob hb e => ?_) ⟨dx, .ref p, .ref a1, .ref l, .ref D0, ?_, Is.less (Is.mono g9 hp11), Is.less (Is.mono g9 hv11), ?_, ?_⟩
    · have a2 := s02 _ _ e
      rw [upd_ne hb]
      have a4 := s4 b ob (by rw [upd_ne hb]; exact a2)
      have a5 : H11 b = some ob := k5' b ob hb a4
      exact (same_new nl) _ _ (s6 _ _ a5)
    · rw [hUU, hx]
      exact upd_same
    · have z : Is K (E0 :: r :: A) (upd H6 l (.tup ws)) (.ref l) (.tuple ((List.range 8).map fun i => encQ (markQ (lowD d) (ds.map lowD) ((i : Nat) : Int)))) := is_new_tup hA6 nl hws
      exact Is.less (Is.less (Is.mono (Go.chg (by simp)) z))
    · rw [hUU]
      exact Is.less (Is.mono g9 hw11)
end

/-! ### the program: Rule(..) and Rule.read(text) -/
theorem atI_neg {α : Type} {xs : List α} {k : Nat} {v : α} (hk : 0 < k) (h : k ≤ xs.length) (e : xs[xs.length - k]? = some v) : atI xs (-(k : Int)) = some v := by
  unfold atI ixN
  rw [if_neg (by omega), if_pos (by omega), Option.bind_some, show (-(k : Int) + (xs.length : Int)).toNat = xs.length - k by omega]
  exact e
theorem cut_neg (xs : List V) {k : Nat} (hk : 0 < k) (h : k ≤ xs.length) : cutV xs none (some (-(k : Int))) = xs.take (xs.length - k) := by
  show (xs.drop 0).take ((if (-(k : Int)) < 0 then (-(k : Int) + (xs.length : Int)).toNat else min (-(k : Int)).toNat xs.length) - 0) = _
  rw [if_pos (by omega), show (-(k : Int) + (xs.length : Int)).toNat = xs.length - k by omega]
  rfl
/-- a rule's numbers as the document has them: lowest terms, not too long for texts -/
structure VR (o : Int × Int) (hd : List (Int × Int)) : Prop where
  ok : OkW o
  low : lowQ o.1 o.2 = o
  le1 : o.1 ≤ o.2
  len : hd.length ≤ 8
  oks : ∀ q ∈ hd, OkW q ∧ lowQ q.1 q.2 = q
  inc : ∀ (i : Nat) (p q : Int × Int), hd[i]? = some p → hd[i + 1]? = some q → ltQ p q
  last : ∀ m, hd.getLast? = some m → ltQ m (plainQ o hd.length)
theorem enc_low {q : Int × Int} (low : lowQ q.1 q.2 = q) : lowD (encQ q) = q := low
theorem map_low {hd : List (Int × Int)} (h : ∀ q ∈ hd, OkW q ∧ lowQ q.1 q.2 = q) : (hd.map encQ).map lowD = hd := by
  rw [List.map_map]
  conv => rhs; rw [← List.map_id hd]
  exact List.map_congr_left fun q hq => (h q hq).2
theorem enc_sz {q : Int × Int} (ok : OkW q) : ∀ a b, encQ q = encQ (a, b) → b.natAbs < 2 ^ 8000 := by
  intro a b z
  have z1 : PyData.tuple [.int q.1, .int q.2] = PyData.tuple [.int a, .int b] := z
  injection z1 with z1
  injection z1 with _ z1
  injection z1 with z1
  injection z1 with z1
  rw [← z1]
  exact Nat.lt_trans (show q.2.natAbs < 2 ^ 200 by have := ok.b; have := ok.b2; omega) (by decide +kernel)
theorem VR.vh {o : Int × Int} {hd : List (Int × Int)} (r : VR o hd) : VH o (hd.map encQ) where
  len := by rw [List.length_map]; exact r.len
  o2 := by have := r.ok.a; have := r.ok.b; have := r.ok.a2; have := r.ok.b2; constructor <;> omega
  num := by
    intro d hd'
    obtain ⟨q, hq, rfl⟩ := List.mem_map.mp hd'
    obtain ⟨ok, low⟩ := r.oks q hq
    refine ⟨enc_num ok.b, enc_sz ok, ?_, ?_⟩
    · rw [enc_low low]; have := ok.a; have := ok.a2; omega
    · rw [enc_low low]; have := ok.b; have := ok.b2; omega
  next := by
    intro i d e
    rw [List.getElem?_map] at e
    cases hq : hd[i]? with
    | none => rw [hq] at e; cases e
    | some q =>
      rw [hq] at e
      have e' : encQ q = d := Option.some.inj e
      subst e'
      have hm : q ∈ hd := List.mem_of_getElem? hq
      obtain ⟨ok, low⟩ := r.oks q hm
      have hil : i < hd.length := (List.getElem?_eq_some_iff.mp hq).1
      rw [← List.map_take, map_low (fun q hq => r.oks q (List.mem_of_mem_take hq))]
      unfold nextD
      rw [enc_num ok.b, enc_low low, Bool.true_and]
      cases i with
      | zero => exact decide_eq_true ok.a
      | succ i =>
        have hi : i < hd.length := by omega
        have e1 : (hd.take (i + 1)).getLast? = some hd[i] := by
          rw [List.getLast?_eq_getElem?, List.length_take, Nat.min_eq_left (by omega)]
          rw [List.getElem?_take_of_lt
                (by omega)]
          simp [hi]
        rw [e1]
        exact decide_eq_true (r.inc i _ _ (List.getElem?_eq_getElem hi) hq)
  last := by
    rw [map_low r.oks, List.length_map]
    exact r.last
theorem VR.off {o : Int × Int} {hd : List (Int × Int)} (r : VR o hd) : isOffD (encQ o) = true := by
  unfold isOffD
  rw [enc_num r.ok.b, enc_low r.low, decide_eq_true r.ok.a, decide_eq_true r.le1]
  rfl
def ruleParts (o : Int × Int) (hd : List (Int × Int)) : List (List Nat) := hd.map qL ++ [[124], qL o]
def ruleL (o : Int × Int) (hd : List (Int × Int)) : List Nat := TL.joinL [32] (ruleParts o hd)
theorem qL_free (q : Int × Int) {s : Nat} (h : s < 47 ∨ 57 < s) : s ∉ qL q := by
  unfold qL
  split
  · exact TL.numL_free (by omega)
  · intro z
    rcases List.mem_append.mp z with z | z
    · exact TL.numL_free (by omega) z
    · rcases List.mem_cons.mp
          z with z | z
      · omega
      · exact TL.numL_free (by omega) z
theorem rSplit (o : Int × Int) (hd : List (Int × Int)) : Txt.split (SX.S (ruleL o hd)) (SX.S [32]) = (ruleParts o hd).map SX.S := by
  refine split_join (by decide) (by unfold ruleParts; simp) ?_
  intro p hp
  unfold ruleParts at hp
  rcases List.mem_append.mp hp
        with hp | hp
  · obtain ⟨q, _, rfl⟩ := List.mem_map.mp hp
    exact qL_free q (.inl (by decide))
  · rcases List.mem_cons.mp hp
        with rfl | hp
    · decide
    · rw [List.mem_singleton] at hp
      subst hp
      exact qL_free o (.inl (by decide))
theorem joinL_len (S : List Nat) : ∀ ps : List (List Nat), (TL.joinL S ps).length ≤ (ps.map (·.length)).sum + ps.length * S.length
  | [] => by simp [TL.joinL]
  | [p] => by simp [TL.joinL]
  | p :: q :: r => by
    have ih := joinL_len S (q :: r)
    show (p ++ (S ++ TL.joinL S (q :: r))).length ≤ _
    rw [List.length_append, List.length_append, List.map_cons, List.sum_cons, List.length_cons (a := p), Nat.succ_mul]
    omega
theorem sum_le {ps : List (List Nat)} {k : Nat} (h : ∀ p ∈ ps, p.length ≤ k) : (ps.map (·.length)).sum ≤ ps.length * k := by
  induction ps with
  | nil => simp
  | cons p r ih =>
    rw [List.map_cons, List.sum_cons, List.length_cons,
          Nat.succ_mul]
    have h1 := h p (by simp)
    have h2 := ih fun q hq => h q (by simp [hq])
    omega
theorem ruleL_len {o : Int × Int} {hd : List (Int × Int)} (r : VR o hd) : (ruleL o hd).length ≤ 2000 := by
  have h1 := joinL_len [32] (ruleParts o hd)
  have h2 : ∀ p ∈ ruleParts o hd, p.length ≤ 101 := by
    intro p hp
    unfold ruleParts at hp
    rcases List.mem_append.mp hp
          with hp | hp
    · obtain ⟨q, hq, rfl⟩ := List.mem_map.mp hp
      exact qL_len (r.oks q hq).1
    · rcases List.mem_cons.mp hp
          with rfl | hp
      · decide
      · rw [List.mem_singleton] at hp
        subst hp
        exact qL_len r.ok
  have h3 := sum_le h2
  have h4 : (ruleParts o hd).length = hd.length + 2 := by unfold ruleParts; simp
  have h5 := r.len
  have h6 : ([32] : List Nat).length = 1 := rfl
  unfold ruleL
  rw [h4] at h1 h3
  rw [h6] at h1
  omega
section
variable {P : Program} {w : World} {K : PySem.W.Frag} {mg : Str → Option Value} {base : Heap} {c : Addr}
/-- Rule(offset, mark, ..), at good ones -/
def sp_Rule_new (K : PySem.W.Frag) (c : Addr) : Sp := fun vs H Q _ => ∃ (r dx : Addr) (v : V) (rest : List V) (A : List Addr) (d : PyData) (ds : List PyData), vs = .ref r :: v :: rest ∧ H r = some (.ins c dx []) ∧ r ∉ A ∧ Hd A H ∧ Is K (r :: A) H v d ∧
  Iss K (r :: A) H rest ds ∧ isOffD d = true ∧ (∀ a b, d = encQ (a, b) → b.natAbs < 2 ^ 8000) ∧ VH (lowD d) ds ∧
  ∀ H', (∀ b o, b ≠ r → H b = some o → H' b = some o) → RuleAt K c A H' r (lowD d) (ds.map lowD) → Q .non H'
theorem mak_Rule {f : Addr} {fd : FuncData} (B : Bl mg) (T : Tx K mg c) (F : Fun K "__init__" "Rule.__init__" s_Rule___init__ f fd) (M : Mk K c f)
    (C__is_offset : Cal P w K mg base 3 "_is_offset" (sp__is_offset K c) []) (C_lowest : Cal P w K mg base 2 "lowest" (sp_lowest K c) [])
    (C__lowest_head : Cal P w K mg base 4 "_lowest_head" (sp__lowest_head K c) []) (C_common_bottom : Cal P w K mg base 1 "common_bottom" (sp_common_bottom K c) []) (M_mark : Met P w K mg base 3 c "mark" (sp_Rule_mark K c)) :
    MakR P w K mg base 7 "Rule" c (sp_Rule_new K c) := by
  refine ⟨f, M, ?_, T.g_Rule⟩
  obtain ⟨oc, od, kV, doc, pm, an, cdv, ct, osl,
        rfl, lk, hcd⟩ := F.ex
  refine FnR.imp (fn_star (ps := ["self", "offset"]) (pv := "head") (N := ["self", "offset", "head", "top", "bottom", "number"]) (sp := sp_Rule_init K c) (k := 6) lk hcd sc_Rule___init__ cxUp_none (fun us rest hl => match us, rest, hl with | [a, b], [], _ => rfl | [a, b], r :: rs, _ => rfl) ?_) ?_
  · intro A outer s H vs Q E hr h
    obtain ⟨t, der, rd⟩ := rd_Rule_init B T C__is_offset C_lowest C__lowest_head C_common_bottom M_mark hr h
    exact ⟨t, der.nox, rd⟩
  · rintro vs H Q E ⟨r, dx, v, rest, A, d, ds, rfl, er, rA, hA, hv, hr, ho, hsz, vh, k⟩
    have rl : rest.length ≤ 8 := by rw [hr.len]; exact vh.len
    refine ⟨[.ref r, v], rest, rfl, rfl, Nat.le_of_lt (small1000 (by omega)), fun p np => ?_⟩
    have hA0 : Hd (r :: A) H := Hd.cons er hA
    refine ⟨r, dx, v, p, A, d, ds, rfl, same_new np _ _ er, rA, hd_new hA np, Is.mono (Go.new np) hv, is_new_tup hA0 np hr, ho, hsz, vh, fun H' keep R => k H' (fun b o hb e => keep b o hb (same_new np _ _ e)) R⟩
def sp_Rule_read (K : PySem.W.Frag) (c : Addr) : Sp := fun vs H Q _ => ∃ (o : Int × Int) (hd : List (Int × Int)) (A : List Addr), vs = [.str (SX.S (ruleL o hd))] ∧ VR o hd ∧ Hd A H ∧
  ∀ r H', Same H H' → r ∉ A → RuleAt K c A H' r o hd → Q (.ref r) H'
theorem sta_read {mc : Value} {p f : Addr} {fd : FuncData} (B : Bl mg) (T : Tx K mg c) (F : Fun K "read" "Rule.read" s_Rule_read f fd) (sm : SMet K c mc "read" p f)
    (C_read_number : Cal P w K mg base 3 "read_number" (sp_read_number K c) []) (M_Rule : MakR P w K mg base 7 "Rule" c (sp_Rule_new K c)) :
    Sta P w K mg base 9 "Rule" "read" (sp_Rule_read K c) := by
  refine ⟨c, mc, p, f, fd, ["text"], T.g_Rule, sm, F.ok sc_Rule_read (fun vs H Q E h => ?_) (fun cdv A outer s H vs Q E hr h => ?_), F.binds (fun _ _ _ _ _ _ us hl => match us, hl with | [_], _ => rfl)⟩
  · obtain ⟨_, _, _, rfl, _⟩ := h
    rfl
  obtain ⟨o, hd, A0, rfl, vr, hA, k⟩ := h
  refine ⟨_, (pss_cons (ps_if (pt_not (pt_val (pe_callB call_isi (by rfl) B.isinstance (by decide +kernel) (pa_cons (pv 0) (pa_cons (pe_bltn (v := .ty "str") (by rfl) B.str (by decide +kernel) rfl) pa_nil))))) (pss_one ps_never) pss_nil)
      (pss_cons (ps_set (i := 1) sc_Rule_read.nd rfl (Or.inl rfl) (pe_split (pv 0) pe_str))
      (pss_cons (ps_if (PW.pt (pw_or (pt_cmpR op_lt (pe_callB call_len_seq (by rfl) B.len (by decide +kernel) (pa_cons (pv 1) pa_nil)) pe_int (nomark _)) (pw_or1 (pt_cmpR op_ne (pe_ix ix_seq (pv 1) (pe_un un_neg pe_int) (fun _ _ => rfl)) pe_str (nomark _))))) (pss_one ps_never) pss_nil)
      (pss_cons (ps_set (i := 2) sc_Rule_read.nd rfl (Or.inl rfl) (pe_c C_read_number hr (by decide) (by rfl) (pa_cons (pe_ix ix_seq (pv 1) (pe_un un_neg pe_int) (fun _ _ => rfl)) pa_nil)))
      (pss_cons (ps_setLc (i := 3) (own := [("word", 4)]) (by rfl) sc_Rule_read.nd rfl rfl (sw_true rfl rfl rfl (by decide +kernel)) (pi_list (pe_slice sl_list (pv 1) po_none (po_some (pe_un un_neg pe_int)))) (blkOk_by (own := [("word", 4)]) (N := ["text", "words", "offset", "head", "word"]) (sc := defScope s_Rule_read) (by decide +kernel)) (fun _ _ _ _ _ => (pg_name (i := 4) sc_Rule_read.nd rfl (Or.inl rfl))) (fun _ _ _ _ _ => pts_nil) (fun _ _ _ _ _ => (pe_c C_read_number hr (by decide) (by rfl) (pa_cons (pv 4) pa_nil))))
      (pss_one (ps_try_thru0 (pss_one (ps_ret (pe_mkS M_Rule hr (by decide) (by rfl) (pv 2) (pv 3))))))))))), ?_⟩
  have rl := ruleL_len vr
  have sl : sizeLine = 16777216 := sizeLine_eq
  have c32 : (" " : Str) = SX.S [32] := by decide +kernel
  have c124 : ("|" : Str) = SX.S [124] := by decide +kernel
  refine ⟨_, rfl, _, _, _, _, _, rfl, .ty _, (D.str (K := K) (H := H) (SX.S (ruleL o hd))).ty, kit_ty (kit_str _), _, rfl, ?_⟩
  refine ⟨_, rfl, ⟨_, rfl⟩, _, _, rfl, rfl, by decide +kernel, by rw [SX.S_len]; omega, fun l nl => ?_⟩
  have es : Txt.split (SX.S (ruleL o hd)) (" " : Str) = (ruleParts o hd).map SX.S := by rw [c32]; exact rSplit o hd
  rw [es]
  have s1 : Same H (upd H l (.lst (((ruleParts o hd).map SX.S).map V.str))) := same_new nl
  have hS : SqL K (upd H l (.lst (((ruleParts o hd).map SX.S).map V.str))) l (((ruleParts o hd).map SX.S).map V.str) := .inl (.inl upd_same)
  generalize (upd H l (.lst (((ruleParts o hd).map SX.S).map V.str))) = H1 at s1 hS ⊢
  have wl : (((ruleParts o hd).map SX.S).map V.str).length = hd.length + 2 := by unfold ruleParts; simp
  have e2 : (((ruleParts o hd).map SX.S).map V.str)[(((ruleParts o hd).map SX.S).map V.str).length - 2]? = some (V.str (SX.S [124])) := by
    rw [wl]
    unfold ruleParts
    simp
  have e1 : (((ruleParts o hd).map SX.S).map V.str)[(((ruleParts o hd).map SX.S).map V.str).length - 1]? = some (V.str (SX.S (qL o))) := by
    rw [wl]
    unfold ruleParts
    simp
  have et : (((ruleParts o hd).map SX.S).map V.str).take ((((ruleParts o hd).map SX.S).map V.str).length - 2) = (hd.map fun q => V.str (SX.S (qL q))) := by
    rw [wl]
    unfold ruleParts
    simp
  generalize hW : (((ruleParts o hd).map SX.S).map V.str) = W at hS wl e2 e1 et
  -- if len(words) < 2 or words[-2] != "|"
  refine ⟨_, rfl, l, W, rfl, .inl hS, _, _, rfl, rfl, _, rfl, ite2 (fun e => ?_) (fun _ => ?_)⟩
  · have e0 : ((W.length : Nat) : Int) < 2 := of_decide_eq_true e
    omega
  refine ⟨_, rfl, _, rfl, .inl ⟨l, W, -2, _, rfl, rfl, hS, atI_neg (k := 2) (by decide) (by omega) e2, ?_⟩⟩
  rw [c124]
  refine ⟨rfl, _, rfl, iteNS rfl ?_⟩
  -- offset = read_number(words[-1])
  refine ⟨_, rfl, _, rfl, .inl ⟨l, W, -1, _, rfl, rfl, hS, atI_neg (k := 1) (by decide) (by omega) e1, ?_⟩⟩
  refine ⟨o, rfl, vr.ok, vr.low, fun po H2 s2 npo epo => ?_⟩
  have s02 := s1.trans s2
  have hA2 : Hd A0 H2 := (Go.of s02).held hA
  have poA : po ∉ A0 := ((Go.of s1).held hA).out npo
  have ho2 : Is K A0 H2 (.ref po) (encQ o) := Is_Q poA epo
  -- head = [..]
  refine ⟨_, rfl, _, rfl, _, rfl, l, W, rfl, s2.seq hS, fun l2 nl2 => ?_⟩
  have ec : cutV W none (some (-2)) = hd.map fun q => V.str (SX.S (qL q)) := by
    rw [← et]
    exact cut_neg W (k := 2) (by decide) (by omega)
  rw [ec]
  have s3 : Same H2 (upd H2 l2 (.lst (hd.map fun q => V.str (SX.S (qL q))))) := same_new nl2
  have hS3 : SqL K (upd H2 l2 (.lst (hd.map fun q => V.str (SX.S (qL q))))) l2 (hd.map fun q => V.str (SX.S (qL q))) := .inl (.inl upd_same)
  generalize (upd H2 l2 (.lst (hd.map fun q => V.str (SX.S (qL q))))) = H3 at s3 hS3 ⊢
  have hA3 : Hd A0 H3 := (Go.of s3).held hA2
  refine ⟨l2, rfl, ⟨_, hS3⟩, fun D0 nD => ?_⟩
  refine lc_list (K := K) (a := l2) (xs := hd.map fun q => V.str (SX.S (qL q))) (fun i H4 => Same H3 H4 ∧ Hd (D0 :: A0) H4 ∧ ∃ ws, H4 D0 = some (.lst ws) ∧ Iss K (D0 :: A0) H4 ws ((hd.take i).map encQ))
    ⟨same_new nD, Hd.cons upd_same (hd_new hA3 nD), [], upd_same, DAll.nil⟩ (fun i H4 _ ⟨s4, _⟩ => s4.seq hS3) ?_ ?_
  · rintro i y H4 hi ⟨s4, hA4, ws, eD, hws⟩
    obtain ⟨q, hq, rfl⟩ := some_map hi
    have hm : q ∈ hd := List.mem_of_getElem? hq
    obtain ⟨okq, lowq⟩ := vr.oks q hm
    refine ⟨rfl, _, rfl, q, rfl, okq, lowq, fun p H5 s5 np ep => ?_⟩
    have npD : p ≠ D0 := fun z => by rw [z, eD] at np; cases np
    have pA : p ∉ D0 :: A0 := hA4.out np
    refine ⟨ws, s5 _ _ eD, ?_, fun b ob e => ?_, ?_, ws ++ [.ref p], upd_same, ?_⟩
    · have e1 := hws.len
      rw [List.length_map, List.length_take] at e1
      have := vr.len
      exact small1000 (by omega)
    · rw [upd_ne (ne_of_none e nD)]
      exact s5 _ _ (s4 _ _ e)
    · exact (Go.chg (A := D0 :: A0) (by simp)).held ((Go.of s5).held hA4)
    · have g6 : Go (D0 :: A0) H5 (upd H5 D0 (.lst (ws ++ [.ref p]))) := Go.chg (by simp)
      rw [List.take_add_one, hq]
      simp only [List.map_append, Option.toList, List.map_cons, List.map_nil]
      exact iss_app (Iss.mono ((Go.of s5).trans g6) hws) (DAll.cons (Is.mono g6 (Is_Q pA ep)) DAll.nil)
  · rintro H4 ⟨s4, hA4, ws, eD, hws⟩
    rw [List.length_map, List.take_length] at hws
    have hA4' : Hd A0 H4 := fun b hb => hA4 b (List.mem_cons_of_mem _ hb)
    have ho4 : Is K A0 H4 (.ref po) (encQ o) := Is.mono (Go.of (s3.trans s4)) ho2
    -- return Rule(offset, *head)
    refine ⟨_, rfl, _, rfl, D0, ws, rfl, .inr (.inl (.inl eD)), ?_⟩
    intro r dx nr ndx ne
    have rA : r ∉ A0 := hA4'.out nr
    have nDr : D0 ≠ r := ne_of_none eD nr
    have g5 : Go (r :: A0) H4 (upd (upd H4 dx (.own r)) r (.ins c dx [])) := (Go.new ndx).trans (Go.chg (by simp))
    have sH : ∀ b o, b ≠ r → H4 b = some o → (upd (upd H4 dx (.own r)) r (.ins c dx [])) b = some o := fun b ob hb e => by
      rw [upd_ne hb, upd_ne (ne_of_none e ndx)]
      exact e
    have hA5 : Hd A0 (upd (upd H4 dx (.own r)) r (.ins c dx [])) := fun b hb z => by
      have nb : b ≠ r := fun y => rA (by rw [← y]; exact hb)
      cases q : H4 b with
      | none => exact hA4' b hb q
      | some u => rw [sH b u nb q] at z; cases z
    refine ⟨r, dx, .ref po, ws, A0, encQ o, hd.map encQ, by rw [List.append_nil], upd_same, rA, hA5, Is.mono g5 (Is.more nr ho4), ?_, vr.off, enc_sz vr.ok, ?_, fun H6 keep R => ⟨rfl, ?_⟩⟩
    · have z : Iss K A0 H4 ws (hd.map encQ) := Iss.less hws
      exact ⟨z.len, fun i v d h1 h2 => Is.mono g5 (Is.more nr (z.all i v d h1 h2))⟩
    · rw [enc_low vr.low]
      exact vr.vh
    · rw [enc_low vr.low, map_low vr.oks] at R
      refine k r H6 (fun b ob e => ?_) rA R
      have e4 := s4 _ _ (s3 _ _ (s02 _ _ e))
      have nb : b ≠ r := ne_of_none e4 nr
      exact keep b ob nb (sH b ob nb e4)
end

end LW

set_option Elab.async false
set_option linter.all false
set_option maxRecDepth 100000
set_option maxHeartbeats 4000100
set_option exponentiation.threshold 9000

namespace LW
open L2 PySem.Spec PyProof.Rows PySem
abbrev s_Rule___eq__ : Stmt := inClass (topS 34) 4
theorem sc_Rule___eq__ : FnScope ["self", "other"] ["self", "other"] (defScope s_Rule___eq__) := ⟨rfl, rfl, rfl, by decide +kernel, rfl, by decide +kernel, by decide +kernel⟩
abbrev s_quotient : Stmt := topS 18
theorem sc_quotient : FnScope ["pair", "other_pair"] ["pair", "other_pair"] (defScope s_quotient) := ⟨rfl, rfl, rfl, by decide +kernel, rfl, by decide +kernel, by decide +kernel⟩
abbrev s_check_rule : Stmt := topS 36
theorem sc_check_rule : FnScope ["value"] ["value"] (defScope s_check_rule) := ⟨rfl, rfl, rfl, by decide +kernel, rfl, by decide +kernel, by decide +kernel⟩
abbrev s__check_rules : Stmt := topS 42
theorem sc__check_rules : FnScope ["rule", "other_rule"] ["rule", "other_rule"] (defScope s__check_rules) := ⟨rfl, rfl, rfl, by decide +kernel, rfl, by decide +kernel, by decide +kernel⟩
abbrev s__ratio : Stmt := topS 43
theorem sc__ratio : FnScope ["rule", "number", "other_number"] ["rule", "number", "other_number"] (defScope s__ratio) := ⟨rfl, rfl, rfl, by decide +kernel, rfl, by decide +kernel, by decide +kernel⟩
abbrev s_Rule_whole_mark : Stmt := inClass (topS 34) 3
theorem sc_Rule_whole_mark : FnScope ["self", "number"] ["self", "number"] (defScope s_Rule_whole_mark) := ⟨rfl, rfl, rfl, by decide +kernel, rfl, by decide +kernel, by decide +kernel⟩
abbrev s_items_at_0 : Stmt := topS 40
theorem sc_items_at_0 : FnScope ["rule"] ["rule"] (defScope s_items_at_0) := ⟨rfl, rfl, rfl, by decide +kernel, rfl, by decide +kernel, by decide +kernel⟩
abbrev s__difference : Stmt := topS 44
theorem sc__difference : FnScope ["rule", "other_rule", "items", "small", "large", "ratio", "other_ratio"] ["rule", "other_rule", "items"] (defScope s__difference) := ⟨rfl, rfl, rfl, by decide +kernel, rfl, by decide +kernel, by decide +kernel⟩
abbrev s_first_difference : Stmt := topS 45
theorem sc_first_difference : FnScope ["rule", "other_rule", "items", "found"] ["rule", "other_rule"] (defScope s_first_difference) := ⟨rfl, rfl, rfl, by decide +kernel, rfl, by decide +kernel, by decide +kernel⟩
abbrev s_same_divisions : Stmt := topS 46
theorem sc_same_divisions : FnScope ["rule", "other_rule"] ["rule", "other_rule"] (defScope s_same_divisions) := ⟨rfl, rfl, rfl, by decide +kernel, rfl, by decide +kernel, by decide +kernel⟩
abbrev s_first_unkind : Stmt := topS 47
theorem sc_first_unkind : FnScope ["rule", "other_rule", "large", "small"] ["rule", "other_rule"] (defScope s_first_unkind) := ⟨rfl, rfl, rfl, by decide +kernel, rfl, by decide +kernel, by decide +kernel⟩
abbrev s_check_count : Stmt := topS 37
theorem sc_check_count : FnScope ["value"] ["value"] (defScope s_check_count) := ⟨rfl, rfl, rfl, by decide +kernel, rfl, by decide +kernel, by decide +kernel⟩
abbrev s_check_at_most : Stmt := topS 38
theorem sc_check_at_most : FnScope ["items", "limit"] ["items", "limit"] (defScope s_check_at_most) := ⟨rfl, rfl, rfl, by decide +kernel, rfl, by decide +kernel, by decide +kernel⟩
abbrev s__borders : Stmt := topS 48
theorem sc__borders : FnScope ["rule", "items", "number"] ["rule", "items"] (defScope s__borders) := ⟨rfl, rfl, rfl, by decide +kernel, rfl, by decide +kernel, by decide +kernel⟩
abbrev s__greatest_lead : Stmt := topS 49
theorem sc__greatest_lead : FnScope ["borders", "other_borders", "most", "passed", "count", "border"] ["borders", "other_borders"] (defScope s__greatest_lead) := ⟨rfl, rfl, rfl, by decide +kernel, rfl, by decide +kernel, by decide +kernel⟩
abbrev s_most_apart : Stmt := topS 50
theorem sc_most_apart : FnScope ["rule", "other_rule", "items"] ["rule", "other_rule", "items"] (defScope s_most_apart) := ⟨rfl, rfl, rfl, by decide +kernel, rfl, by decide +kernel, by decide +kernel⟩
/-! ### the program: two rules compared -/
/-- what isinstance asks of the class Rule -/
structure ClsI (K : PySem.W.Frag) (c : Addr) : Prop where
  ca : PySem.W.findIn K (.ref c) "__class__" = some (some (.builtin "object.__class__"))
  sp : PySem.W.specialIn K (.builtin "object.__class__") "__get__" = some (some (.builtin "getset_descriptor.__get__"))
  tk : PySem.W.takesIn K (.builtin "object.__class__") = some true
  mr : PySem.W.mroIn K c (.type "object") = some true

def ratioQ (p q : Int × Int) : Int × Int := (p.1 * q.2, p.2 * q.1)
def mid (q : Int × Int) : Prop := q.1.natAbs < 2 ^ 300 ∧ q.2.natAbs < 2 ^ 300
section
variable {P : Program} {w : World} {K : PySem.W.Frag} {mg : Str → Option Value} {base : Heap} {c : Addr}
def sp_quotient (K : PySem.W.Frag) (c : Addr) : Sp := fun vs H Q _ => ∃ (v u : V) (p q : Int × Int), vs = [v, u] ∧ D K H v (encQ p) ∧ D K H u (encQ q) ∧ smallQ p ∧ smallQ q ∧
  ∀ t, H t = none → Q (.ref t) (upd H t (.tup [.int (ratioQ p q).1, .int (ratioQ p q).2]))
theorem cal_quotient (B : Bl mg) (DD : OwnDef K mg "quotient" s_quotient)   : Cal P w K mg base 1 "quotient" (sp_quotient K c) [] := by
  obtain ⟨f, fd, F, hm⟩ := DD.ex
  refine ⟨f, fd, ["pair", "other_pair"], [], F.ok sc_quotient (fun vs H Q E h => ?len) (fun cdv A outer s H vs Q E hr h => ?run), hm, F.kp, F.binds (fun _ _ _ _ _ _ us hl => match us, hl with | [_, _], _ => rfl), .nil⟩
  case len => first | (obtain ⟨_, rfl, _⟩ := h; rfl) | (obtain ⟨_, _, rfl, _⟩ := h; rfl) | (obtain ⟨_, _, _, rfl, _⟩ := h; rfl) | (obtain ⟨_, _, _, _, rfl, _⟩ := h; rfl) | (obtain ⟨_, _, _, _, _, rfl, _⟩ := h; rfl) | (obtain ⟨_, _, _, _, _, _, rfl, _⟩ := h; rfl) | (obtain ⟨_, _, _, _, _, _, _, rfl, _⟩ := h; rfl) | (obtain ⟨_, _, _, _, _, _, _, _, rfl, _⟩ := h; rfl) | (obtain ⟨_, _, _, _, _, _, _, _, _, rfl, _⟩ := h; rfl) | (obtain ⟨_, _, _, _, _, _, _, _, _, _, rfl, _⟩ := h; rfl) | (obtain ⟨_, _, _, _, _, _, _, _, _, _, _, rfl, _⟩ := h; rfl) | (obtain ⟨_, _, _, _, _, _, _, _, _, _, _, _, rfl, _⟩ := h; rfl) | (obtain ⟨_, _, _, _, _, _, _, _, _, _, _, _, _, rfl, _⟩ := h; rfl) | (obtain ⟨_, _, _, _, _, _, _, _, _, _, _, _, _, _, rfl, _⟩ := h; rfl)
  case run =>
    obtain ⟨v, u, p, q, rfl, hv, hu, sp, sq, k⟩ := h
    refine ⟨_, (pss_one (ps_ret (pe_tup (pa_cons (pe_op op_mulW (pe_ix ix_seq (pv 0) pe_int (fun _ _ => rfl)) (pe_ix ix_seq (pv 1) pe_int (fun _ _ => rfl))) (pa_cons (pe_op op_mulW (pe_ix ix_seq (pv 0) pe_int (fun _ _ => rfl)) (pe_ix ix_seq (pv 1) pe_int (fun _ _ => rfl))) pa_nil))))), ?_⟩
    refine ⟨_, rfl, ix_di hv (by decide) rfl ?_⟩
    refine ⟨_, rfl, ix_di hu (by decide) rfl ?_⟩
    refine ⟨_, _, rfl, rfl, wide_mul sp.1 sq.2 (by decide) (by decide) (by decide), ?_⟩
    refine ⟨_, rfl, ix_di hv (by decide) rfl ?_⟩
    refine ⟨_, rfl, ix_di hu (by decide) rfl ?_⟩
    exact ⟨_, _, rfl, rfl, wide_mul sp.2 sq.1 (by decide) (by decide) (by decide), by show 2 ≤ sizeLine; decide, fun t nt => k t nt⟩
def sp_check_rule (K : PySem.W.Frag) (c : Addr) : Sp := fun vs H Q _ => ∃ (r dx : Addr) (fs : List (Str × V)), vs = [.ref r] ∧ H r = some (.ins c dx fs) ∧ Q .non H
theorem cal_check_rule (B : Bl mg) (DD : OwnDef K mg "check_rule" s_check_rule)  (T : Tx K mg c) (CI : ClsI K c) : Cal P w K mg base 1 "check_rule" (sp_check_rule K c) [] := by
  obtain ⟨f, fd, F, hm⟩ := DD.ex
  refine ⟨f, fd, ["value"], [], F.ok sc_check_rule (fun vs H Q E h => ?len) (fun cdv A outer s H vs Q E hr h => ?run), hm, F.kp, F.binds (fun _ _ _ _ _ _ us hl => match us, hl with | [_], _ => rfl), .nil⟩
  case len => first | (obtain ⟨_, rfl, _⟩ := h; rfl) | (obtain ⟨_, _, rfl, _⟩ := h; rfl) | (obtain ⟨_, _, _, rfl, _⟩ := h; rfl) | (obtain ⟨_, _, _, _, rfl, _⟩ := h; rfl) | (obtain ⟨_, _, _, _, _, rfl, _⟩ := h; rfl) | (obtain ⟨_, _, _, _, _, _, rfl, _⟩ := h; rfl) | (obtain ⟨_, _, _, _, _, _, _, rfl, _⟩ := h; rfl) | (obtain ⟨_, _, _, _, _, _, _, _, rfl, _⟩ := h; rfl) | (obtain ⟨_, _, _, _, _, _, _, _, _, rfl, _⟩ := h; rfl) | (obtain ⟨_, _, _, _, _, _, _, _, _, _, rfl, _⟩ := h; rfl) | (obtain ⟨_, _, _, _, _, _, _, _, _, _, _, rfl, _⟩ := h; rfl) | (obtain ⟨_, _, _, _, _, _, _, _, _, _, _, _, rfl, _⟩ := h; rfl) | (obtain ⟨_, _, _, _, _, _, _, _, _, _, _, _, _, rfl, _⟩ := h; rfl) | (obtain ⟨_, _, _, _, _, _, _, _, _, _, _, _, _, _, rfl, _⟩ := h; rfl)
  case run =>
    obtain ⟨r, dx, fs, rfl, e, k⟩ := h
    refine ⟨_, (pss_one (ps_if (pt_not (pt_val (pe_callB call_isi (by rfl) B.isinstance (by decide +kernel) (pa_cons (pv 0) (pa_cons (pe_glob (v := .ref c) (by rfl) T.g_Rule rfl) pa_nil))))) (pss_one ps_never) pss_nil)), ?_⟩
    have kt : PySem.W.kitOne K (.ref c) (.ref c) = some true := by
      unfold PySem.W.kitOne
      rw [if_pos (by simp)]
    refine ⟨_, rfl, _, _, _, _, _, rfl, .own c, .base (.ins e T.cl CI.ca CI.sp CI.tk CI.mr), kt, ?_⟩
    exact ⟨_, rfl, k⟩
def sp__check_rules (K : PySem.W.Frag) (c : Addr) : Sp := fun vs H Q _ => ∃ (r dx r2 dx2 : Addr) (fs fs2 : List (Str × V)), vs = [.ref r, .ref r2] ∧ H r = some (.ins c dx fs) ∧ H r2 = some (.ins c dx2 fs2) ∧ Q .non H
theorem cal__check_rules (B : Bl mg) (DD : OwnDef K mg "_check_rules" s__check_rules) (C_check_rule : Cal P w K mg base 1 "check_rule" (sp_check_rule K c) [])  : Cal P w K mg base 2 "_check_rules" (sp__check_rules K c) [] := by
  obtain ⟨f, fd, F, hm⟩ := DD.ex
  refine ⟨f, fd, ["rule", "other_rule"], [], F.ok sc__check_rules (fun vs H Q E h => ?len) (fun cdv A outer s H vs Q E hr h => ?run), hm, F.kp, F.binds (fun _ _ _ _ _ _ us hl => match us, hl with | [_, _], _ => rfl), .nil⟩
  case len => first | (obtain ⟨_, rfl, _⟩ := h; rfl) | (obtain ⟨_, _, rfl, _⟩ := h; rfl) | (obtain ⟨_, _, _, rfl, _⟩ := h; rfl) | (obtain ⟨_, _, _, _, rfl, _⟩ := h; rfl) | (obtain ⟨_, _, _, _, _, rfl, _⟩ := h; rfl) | (obtain ⟨_, _, _, _, _, _, rfl, _⟩ := h; rfl) | (obtain ⟨_, _, _, _, _, _, _, rfl, _⟩ := h; rfl) | (obtain ⟨_, _, _, _, _, _, _, _, rfl, _⟩ := h; rfl) | (obtain ⟨_, _, _, _, _, _, _, _, _, rfl, _⟩ := h; rfl) | (obtain ⟨_, _, _, _, _, _, _, _, _, _, rfl, _⟩ := h; rfl) | (obtain ⟨_, _, _, _, _, _, _, _, _, _, _, rfl, _⟩ := h; rfl) | (obtain ⟨_, _, _, _, _, _, _, _, _, _, _, _, rfl, _⟩ := h; rfl) | (obtain ⟨_, _, _, _, _, _, _, _, _, _, _, _, _, rfl, _⟩ := h; rfl) | (obtain ⟨_, _, _, _, _, _, _, _, _, _, _, _, _, _, rfl, _⟩ := h; rfl)
  case run =>
    obtain ⟨r, dx, r2, dx2, fs, fs2, rfl, e, e2, k⟩ := h
    refine ⟨_, (pss_cons (ps_expr (pe_c C_check_rule hr (by decide) (by rfl) (pa_cons (pv 0) pa_nil)))
      (pss_one (ps_expr (pe_c C_check_rule hr (by decide) (by rfl) (pa_cons (pv 1) pa_nil))))), ?_⟩
    exact ⟨_, rfl, r, dx, fs, rfl, e, _, rfl, r2, dx2, fs2, rfl, e2, k⟩
/-- the marks of a rule up to a million -/
theorem VR.mid {o : Int × Int} {hd : List (Int × Int)} (r : VR o hd) {n : Int} (h0 : 0 ≤ n) (h1 : n < 1000000) : LW.mid (markQ o hd n) := by
  have okm : ∀ q : Int × Int, OkW q → LW.mid q := fun q ok => by
    have := ok.a; have := ok.b; have := ok.a2; have := ok.b2
    exact ⟨by omega, by omega⟩
  unfold markQ
  split
  · rename_i h
    rw [ List.getD_eq_getElem?_getD ]
    cases q : hd[n.toNat]? with
    | none => exact okm _ ⟨by decide, by decide, by decide, by decide⟩
    | some m => exact okm _ (r.oks m (List.mem_of_getElem? q)).1
  · have ok := r.ok
    have := ok.a; have := ok.b; have := ok.a2; have b2 := ok.b2
    have h2 : n * o.2 ≤ 1000000 * o.2 := Int.mul_le_mul_of_nonneg_right (by omega) (by omega)
    have h3 : 0 ≤ n * o.2 := Int.mul_nonneg h0 (by omega)
    refine ⟨?_, ?_⟩
    · show (o.1 + n * o.2).natAbs < 2 ^ 300
      omega
    · show o.2.natAbs < 2 ^ 300
      omega
theorem mid_small {q : Int × Int} (h : LW.mid q) : smallQ q := ⟨Nat.lt_trans h.1 (by decide +kernel), Nat.lt_trans h.2 (by decide +kernel)⟩
theorem mid_ratio {p q : Int × Int} (h : LW.mid p) (g : LW.mid q) : smallQ (ratioQ p q) := by
  have m : ∀ {a b : Int}, a.natAbs < 2 ^ 300 → b.natAbs < 2 ^ 300 → (a * b).natAbs < 2 ^ 8000 := fun {a b} h1 h2 => by
    rw [Int.natAbs_mul]
    exact Nat.lt_trans (Nat.mul_lt_mul_of_lt_of_le h1 (Nat.le_of_lt h2) (by decide +kernel)) (by decide +kernel)
  exact ⟨m h.1 g.2, m h.2 g.1⟩
def sp__ratio (K : PySem.W.Frag) (c : Addr) : Sp := fun vs H Q _ => ∃ (r : Addr) (A : List Addr) (o : Int × Int) (hd : List (Int × Int)) (n m : Int), vs = [.ref r, .int n, .int m] ∧
  RuleAt K c A H r o hd ∧ VR o hd ∧ Hd A H ∧ 0 ≤ n ∧ n < 1000000 ∧ 0 ≤ m ∧ m < 1000000 ∧
  ∀ t H', Same H H' → Is K A H' (.ref t) (encQ (ratioQ (markQ o hd n) (markQ o hd m))) → Q (.ref t) H'
theorem cal__ratio (B : Bl mg) (DD : OwnDef K mg "_ratio" s__ratio) (C_quotient : Cal P w K mg base 1 "quotient" (sp_quotient K c) []) (M_mark : Met P w K mg base 3 c "mark" (sp_Rule_mark K c)) : Cal P w K mg base 4 "_ratio" (sp__ratio K c) [] := by
  obtain ⟨f, fd, F, hm⟩ := DD.ex
  refine ⟨f, fd, ["rule", "number", "other_number"], [], F.ok sc__ratio (fun vs H Q E h => ?len) (fun cdv A outer s H vs Q E hr h => ?run), hm, F.kp, F.binds (fun _ _ _ _ _ _ us hl => match us, hl with | [_, _, _], _ => rfl), .nil⟩
  case len => first | (obtain ⟨_, rfl, _⟩ := h; rfl) | (obtain ⟨_, _, rfl, _⟩ := h; rfl) | (obtain ⟨_, _, _, rfl, _⟩ := h; rfl) | (obtain ⟨_, _, _, _, rfl, _⟩ := h; rfl) | (obtain ⟨_, _, _, _, _, rfl, _⟩ := h; rfl) | (obtain ⟨_, _, _, _, _, _, rfl, _⟩ := h; rfl) | (obtain ⟨_, _, _, _, _, _, _, rfl, _⟩ := h; rfl) | (obtain ⟨_, _, _, _, _, _, _, _, rfl, _⟩ := h; rfl) | (obtain ⟨_, _, _, _, _, _, _, _, _, rfl, _⟩ := h; rfl) | (obtain ⟨_, _, _, _, _, _, _, _, _, _, rfl, _⟩ := h; rfl) | (obtain ⟨_, _, _, _, _, _, _, _, _, _, _, rfl, _⟩ := h; rfl) | (obtain ⟨_, _, _, _, _, _, _, _, _, _, _, _, rfl, _⟩ := h; rfl) | (obtain ⟨_, _, _, _, _, _, _, _, _, _, _, _, _, rfl, _⟩ := h; rfl) | (obtain ⟨_, _, _, _, _, _, _, _, _, _, _, _, _, _, rfl, _⟩ := h; rfl)
  case run =>
    obtain ⟨r, A0, o, hd, n, m, rfl, R, vr, hA, n0, n1, m0, m1, k⟩ := h
    refine ⟨_, (pss_one (ps_ret (pe_c C_quotient hr (by decide) (by rfl) (pa_cons (pe_mt M_mark hr (by decide) (pv 0) (pa_cons (pv 1) pa_nil)) (pa_cons (pe_mt M_mark hr (by decide) (pv 0) (pa_cons (pv 2) pa_nil)) pa_nil))))), ?_⟩
    obtain ⟨dx, v0, v1, v2, v3, e, h0, h1, h2, h3⟩ := R.ex
    have lk := lkM (v0 := v0) (v1 := v1) (v3 := v3) (v5 := v2) (u := unitQ o hd) (x := timesQ (unitQ o hd) o)
    have big : ∀ x : Int, 0 ≤ x → x < 1000000 → x.natAbs < 2 ^ 8000 := fun x a b => Nat.lt_trans (show x.natAbs < 2 ^ 20 by omega) (by decide +kernel)
    have oz : o.2.natAbs < 2 ^ 8000 := Nat.lt_trans (show o.2.natAbs < 2 ^ 200 by have := vr.ok.b; have := vr.ok.b2; omega) (by decide +kernel)
    refine ⟨_, rfl, r, dx, _, rfl, e, lk, _, rfl, ?_⟩
    refine ⟨r, dx, _, v0, v1, A0, o, hd, n, rfl, e, lkO _ _, lkH _ _ _, hA, h0, h1, n0, big n n0 n1, oz, fun v H1 s1 hv => ?_⟩
    refine ⟨_, rfl, r, dx, _, rfl, s1 _ _ e, lk, _, rfl, ?_⟩
    refine ⟨r, dx, _, v0, v1, A0, o, hd, m, rfl, s1 _ _ e, lkO _ _, lkH _ _ _, (Go.of s1).held hA, Is.mono (Go.of s1) h0, Is.mono (Go.of s1) h1, m0, big m m0 m1, oz, fun u H2 s2 hu => ?_⟩
    refine ⟨v, u, _, _, rfl, D.same s2 hv.full, hu.full, mid_small (vr.mid n0 n1), mid_small (vr.mid m0 m1), fun t nt => ?_⟩
    have hA2 := (Go.of (s1.trans s2)).held hA
    exact k t _ ((s1.trans s2).trans (same_new nt)) (Is_Q (hA2.out nt) upd_same)
/-- the first pair of numbers where P holds, by the greater one first -/
def IsFirst (P : Nat → Nat → Bool) (N : Nat) : Option (Nat × Nat) → Prop
  | none => ∀ l, l < N → ∀ k, k < l → P k l = false
  | some (k, l) => k < l ∧ l < N ∧ P k l = true ∧ (∀ l', l' < l → ∀ k', k' < l' → P k' l' = false) ∧ ∀ k', k' < k → P k' l = false
def pairD2 : Option (Nat × Nat) → PyData
  | none => .none
  | some (k, l) => .tuple [.int (k : Nat), .int (l : Nat)]
def unk (o1 : Int × Int) (hd1 : List (Int × Int)) (o2 : Int × Int) (hd2 : List (Int × Int)) (k l : Nat) : Bool :=
  decide (ltQ (ratioQ (markQ o2 hd2 ((k : Nat) : Int)) (markQ o2 hd2 ((l : Nat) : Int))) (ratioQ (markQ o1 hd1 ((k : Nat) : Int)) (markQ o1 hd1 ((l : Nat) : Int))))
end

/-! ### the program: marks as integers -/
section
variable {P : Program} {w : World} {K : PySem.W.Frag} {mg : Str → Option Value} {base : Heap} {c : Addr}
/-- the mark with a number, times the unit -/
def wholeQ (o : Int × Int) (hd : List (Int × Int)) (n : Int) : Int := timesQ (unitQ o hd) (markQ o hd n)
theorem VR.bots {o : Int × Int} {hd : List (Int × Int)} (r : VR o hd) : ∀ q ∈ o :: hd, 0 < q.2 ∧ q.2.natAbs < 2 ^ 200 := fun q hq => by
  rcases List.mem_cons.mp hq with e | hq
  · subst e
    have := r.ok.b; have := r.ok.b2
    constructor <;> omega
  · have := (r.oks q hq).1.b; have := (r.oks q hq).1.b2
    constructor <;> omega
theorem VR.unit {o : Int × Int} {hd : List (Int × Int)} (r : VR o hd) : 0 < unitQ o hd ∧ (unitQ o hd).natAbs < 2 ^ 3201 ∧ ∀ q ∈ o :: hd, q.2 ∣ unitQ o hd := by
  refine ⟨?_, ?_, fun q hq => ?_⟩
  · have := lcmN_pos _ (o :: hd) rfl fun q hq => (r.bots q hq).1
    show (0 : Int) < ((lcmN (o :: hd) : Nat) : Int)
    omega
  · show (((lcmN (o :: hd) : Nat) : Int)).natAbs < _
    rw [Int.natAbs_natCast]
    refine lcmN_8000 ?_ fun q hq => (r.bots q hq).2
    have := r.len
    rw [List.length_cons]
    omega
  · have z := lcmN_dvd _ (o :: hd) rfl q hq
    exact Int.natAbs_dvd_natAbs.mp (show q.2.natAbs ∣ (((lcmN (o :: hd) : Nat) : Int)).natAbs by rw [Int.natAbs_natCast]; exact z)
theorem wholeQ_plain {o : Int × Int} {hd : List (Int × Int)} (r : VR o hd) (n : Int) : timesQ (unitQ o hd) (plainQ o n) = timesQ (unitQ o hd) o + n * unitQ o hd := by
  obtain ⟨x, hx⟩ := r.unit.2.2 o List.mem_cons_self
  have b := (r.bots o List.mem_cons_self).1
  show (o.1 + n * o.2) * (unitQ o hd / o.2) = o.1 * (unitQ o hd / o.2) + n * unitQ o hd
  rw [hx, Int.mul_ediv_cancel_left _ (by omega), Int.add_mul, Int.mul_assoc]
def sp_Rule_whole_mark (K : PySem.W.Frag) (c : Addr) : Sp := fun vs H Q _ => ∃ (r : Addr) (A : List Addr) (o : Int × Int) (hd : List (Int × Int)) (n : Int), vs = [.ref r, .int n] ∧ RuleAt K c A H r o hd ∧ VR o hd ∧ 0 ≤ n ∧ n.natAbs < 2 ^ 8000 ∧
  Q (.int (wholeQ o hd n)) H
theorem met_Rule_whole_mark {f : Addr} {fd : FuncData} (B : Bl mg) (T : Tx K mg c) (F : Fun K "whole_mark" "Rule.whole_mark" s_Rule_whole_mark f fd) (me : Meth K c "whole_mark" f)   : Met P w K mg base 1 c "whole_mark" (sp_Rule_whole_mark K c) ∧ FnOk P w K mg base CX0 1 f fd ["self", "number"] (sp_Rule_whole_mark K c) := by
  refine (fun Ok => ⟨⟨f, fd, ["self", "number"], T.cl, me, Ok, F.binds (fun _ _ _ _ _ _ us hl => match us, hl with | [_, _], _ => rfl)⟩, Ok⟩) (F.ok sc_Rule_whole_mark (fun vs H Q E h => ?len) (fun cdv A outer s H vs Q E hr h => ?run))
  case len => first | (obtain ⟨_, rfl, _⟩ := h; rfl) | (obtain ⟨_, _, rfl, _⟩ := h; rfl) | (obtain ⟨_, _, _, rfl, _⟩ := h; rfl) | (obtain ⟨_, _, _, _, rfl, _⟩ := h; rfl) | (obtain ⟨_, _, _, _, _, rfl, _⟩ := h; rfl) | (obtain ⟨_, _, _, _, _, _, rfl, _⟩ := h; rfl) | (obtain ⟨_, _, _, _, _, _, _, rfl, _⟩ := h; rfl) | (obtain ⟨_, _, _, _, _, _, _, _, rfl, _⟩ := h; rfl) | (obtain ⟨_, _, _, _, _, _, _, _, _, rfl, _⟩ := h; rfl) | (obtain ⟨_, _, _, _, _, _, _, _, _, _, rfl, _⟩ := h; rfl) | (obtain ⟨_, _, _, _, _, _, _, _, _, _, _, rfl, _⟩ := h; rfl) | (obtain ⟨_, _, _, _, _, _, _, _, _, _, _, _, rfl, _⟩ := h; rfl) | (obtain ⟨_, _, _, _, _, _, _, _, _, _, _, _, _, rfl, _⟩ := h; rfl) | (obtain ⟨_, _, _, _, _, _, _, _, _, _, _, _, _, _, rfl, _⟩ := h; rfl)
  case run =>
    obtain ⟨r, A0, o, hd, n, rfl, R, vr, n0, nz, k⟩ := h
    refine ⟨_, (pss_cons (ps_if (pt_cmpR op_lt (pv 1) (pe_callB call_len_seq (by rfl) B.len (by decide +kernel) (pa_cons (pe_fld (pv 0) rfl) pa_nil)) (nomark _)) (pss_one (ps_ret (pe_ix ix_seq (pe_fld (pv 0) rfl) (pv 1) (fun _ _ => rfl)))) pss_nil)
      (pss_one (ps_ret (pe_op op_add (pe_fld (pv 0) rfl) (pe_op op_mulW (pv 1) (pe_fld (pv 0) rfl)))))), ?_⟩
    obtain ⟨dx, v0, v1, v2, v3, er, h0, h1, h2, h3⟩ := R.ex
    obtain ⟨a, ws, rfl, sq, all⟩ := is_lst h3
    have wl : ws.length = hd.length := by rw [all.len, List.length_map]
    refine ⟨_, rfl, _, rfl, r, c, dx, _, _, rfl, er, T.cl, T.nW, lkW _ _ _ _ _, a, ws, rfl, .inl (sqL_full sq), _, _, rfl, rfl, _, rfl, ite2 (fun e => ?_) (fun e => ?_)⟩
    · have e1 : n < ((ws.length : Nat) : Int) := of_decide_eq_true e
      have hi : n.toNat < hd.length := by omega
      have z : markQ o hd n = hd[n.toNat] := by
        unfold markQ
        rw [if_pos (by omega)]
        simp [List.getD, hi]
      refine ⟨_, rfl, r, c, dx, _, _, rfl, er, T.cl, T.nW, lkW _ _ _ _ _, _, rfl, ?_⟩
      refine rd_lst h3 n0 (d := .int (wholeQ o hd n)) ?_ fun u hu => ?_
      · rw [List.getElem?_map, List.getElem?_eq_getElem hi]
        unfold wholeQ
        rw [z]
        rfl
      · rw [is_int hu]
        exact k
    · have e1 : ¬ n < ((ws.length : Nat) : Int) := fun z => e (decide_eq_true z)
      have z : markQ o hd n = plainQ o n := by
        unfold markQ
        rw [if_neg (by omega)]
      refine ⟨_, rfl, r, c, dx, _, _, rfl, er, T.cl, T.nX, lkX _ _ _ _ _ _, _, rfl, _, rfl, r, c, dx, _, _, rfl, er, T.cl, T.nU, lkU _ _ _ _, ?_⟩
      refine ⟨_, _, rfl, rfl, wide_mul nz vr.unit.2.1 (by decide) (by decide) (by decide), _, _, rfl, rfl, ?_⟩
      show Q (.int (timesQ (unitQ o hd) o + n * unitQ o hd)) H
      rw [← wholeQ_plain vr n, ← z]
      exact k
end

/-! ### the program: items at the time 0 -/
section
variable {P : Program} {w : World} {K : PySem.W.Frag} {mg : Str → Option Value} {base : Heap} {c : Addr}
theorem dec_of_if {P Q : Prop} [Decidable P] [Decidable Q] (h : (if P then (1 : Int) else 0) = if Q then 1 else 0) : decide P = decide Q := by
  by_cases p : P <;> by_cases q : Q <;> simp_all
theorem whole_zero {o : Int × Int} {hd : List (Int × Int)} (r : VR o hd) {n : Int} (h : ∃ q ∈ o :: hd, (markQ o hd n).2 = q.2) : wholeQ o hd n = 0 ↔ (markQ o hd n).1 = 0 := by
  obtain ⟨q, hq, e⟩ := h
  obtain ⟨x, hx⟩ := r.unit.2.2 q hq
  have b := (r.bots q hq).1
  have u := r.unit.1
  have xp : 0 < x := by
    rcases Int.lt_trichotomy x 0 with y | y | y
    · have := Int.mul_neg_of_pos_of_neg b y; omega
    · rw [y] at hx; omega
    · exact y
  unfold wholeQ timesQ
  rw [e, hx, Int.mul_ediv_cancel_left _ (by omega)]
  refine ⟨fun z => ?_, fun z => by rw [z, Int.zero_mul]⟩
  rcases Int.mul_eq_zero.mp z with z | z
  · exact z
  · omega
theorem mark_bot {o : Int × Int} {hd : List (Int × Int)} {n : Int} (n0 : 0 ≤ n) : ∃ q ∈ o :: hd, (markQ o hd n).2 = q.2 := by
  unfold markQ
  by_cases h : n < ((hd.length : Nat) : Int)
  · rw [if_pos h]
    have hi : n.toNat < hd.length := by omega
    refine ⟨hd[n.toNat], List.mem_cons_of_mem _ (List.getElem_mem hi), ?_⟩
    simp [List.getD, hi]
  · rw [if_neg h]
    exact ⟨o, List.mem_cons_self, rfl⟩
def sp_items_at_0 (K : PySem.W.Frag) (c : Addr) : Sp := fun vs H Q _ => ∃ (r : Addr) (A : List Addr) (o : Int × Int) (hd : List (Int × Int)), vs = [.ref r] ∧ RuleAt K c A H r o hd ∧ VR o hd ∧
  Q (.int (if (markQ o hd 0).1 = 0 then 1 else 0)) H
theorem cal_items_at_0 (B : Bl mg) (DD : OwnDef K mg "items_at_0" s_items_at_0)  (M_whole : Met P w K mg base 1 c "whole_mark" (sp_Rule_whole_mark K c)) : Cal P w K mg base 2 "items_at_0" (sp_items_at_0 K c) [] := by
  obtain ⟨f, fd, F, hm⟩ := DD.ex
  refine ⟨f, fd, ["rule"], [], F.ok sc_items_at_0 (fun vs H Q E h => ?len) (fun cdv A outer s H vs Q E hr h => ?run), hm, F.kp, F.binds (fun _ _ _ _ _ _ us hl => match us, hl with | [_], _ => rfl), .nil⟩
  case len => first | (obtain ⟨_, rfl, _⟩ := h; rfl) | (obtain ⟨_, _, rfl, _⟩ := h; rfl) | (obtain ⟨_, _, _, rfl, _⟩ := h; rfl) | (obtain ⟨_, _, _, _, rfl, _⟩ := h; rfl) | (obtain ⟨_, _, _, _, _, rfl, _⟩ := h; rfl) | (obtain ⟨_, _, _, _, _, _, rfl, _⟩ := h; rfl) | (obtain ⟨_, _, _, _, _, _, _, rfl, _⟩ := h; rfl) | (obtain ⟨_, _, _, _, _, _, _, _, rfl, _⟩ := h; rfl) | (obtain ⟨_, _, _, _, _, _, _, _, _, rfl, _⟩ := h; rfl) | (obtain ⟨_, _, _, _, _, _, _, _, _, _, rfl, _⟩ := h; rfl) | (obtain ⟨_, _, _, _, _, _, _, _, _, _, _, rfl, _⟩ := h; rfl) | (obtain ⟨_, _, _, _, _, _, _, _, _, _, _, _, rfl, _⟩ := h; rfl) | (obtain ⟨_, _, _, _, _, _, _, _, _, _, _, _, _, rfl, _⟩ := h; rfl) | (obtain ⟨_, _, _, _, _, _, _, _, _, _, _, _, _, _, rfl, _⟩ := h; rfl)
  case run =>
    obtain ⟨r, A0, o, hd, rfl, R, vr, k⟩ := h
    refine ⟨_, (pss_one (ps_ret (pe_ifExp (pt_cmpR op_eq (pe_mt M_whole hr (by decide) (pv 0) (pa_cons pe_int pa_nil)) pe_int (nomark _)) pe_int pe_int))), ?_⟩
    obtain ⟨dx, v0, v1, v2, v3, e, h0, h1, h2, h3⟩ := R.ex
    have lk : (rFs v0 v1 (unitQ o hd) v3 (timesQ (unitQ o hd) o) v2).lookup ("whole_mark" : Str) = none := by
      show List.lookup _ [_, _, _, _, _, _] = _
      rw [lk_cons, if_neg (by decide +kernel), lk_cons, if_neg (by decide +kernel), lk_cons, if_neg (by decide +kernel), lk_cons, if_neg (by decide +kernel), lk_cons, if_neg (by decide +kernel), lk_cons, if_neg (by decide +kernel)]
      rfl
    refine ⟨_, rfl, r, dx, _, rfl, e, lk, ?_⟩
    refine ⟨r, A0, o, hd, 0, rfl, R, vr, by omega, by decide +kernel, ?_⟩
    refine ⟨rfl, _, rfl, ite2 (fun z => ?_) (fun z => ?_)⟩
    · rw [if_pos ((whole_zero vr (mark_bot (by omega))).mp (V.int.inj (of_decide_eq_true z)))] at k
      exact k
    · rw [if_neg (fun y => z (decide_eq_true (congrArg V.int ((whole_zero vr (mark_bot (by omega))).mpr y))))] at k
      exact k
end

/-! ### first_difference, same_divisions -/
/-- what is found at so many items, at one place -/
abbrev Dif := Nat × ((Int × Int) × (Int × Int)) × (Nat × Nat)
def pickD (M N : Nat → Int × Int) (n i : Nat) : Option Dif :=
  if ltQ (ratioQ (M i) (M (n - 1 - i))) (ratioQ (N i) (N (n - 1 - i))) then some (n, (N i, N (n - 1 - i)), (i, n - 1 - i + 1))
  else if ltQ (ratioQ (N i) (N (n - 1 - i))) (ratioQ (M i) (M (n - 1 - i))) then some (n, (M i, M (n - 1 - i)), (i, n - 1 - i + 1))
  else none
def diffN (M N : Nat → Int × Int) (n : Nat) : Option Dif := (List.range (n / 2)).findSome? (pickD M N n)
def fdiff (M N : Nat → Int × Int) : Option Dif :=
  if decide ((M 0).1 = 0) ≠ decide ((N 0).1 = 0) then some (1, ((1, 1), (2, 1)), (1, 0)) else (List.range 17).findSome? fun i => diffN M N (2 + i)
def diffD : Option Dif → PyData
  | none => .none
  | some (n, (p, q), (a, b)) => .tuple [.int (n : Nat), .tuple [encQ p, encQ q], .tuple [.int (a : Nat), .int (b : Nat)]]
theorem isInt {K : PySem.W.Frag} {A : List Addr} {H : Hp} {i j : Int} (e : i = j) : Is K A H (.int i) (.int j) := by rw [e]; exact .int j
theorem find_some {α : Type} {f : Nat → Option α} {x : α} : ∀ {n i : Nat}, i < n → (∀ j, j < i → f j = none) → f i = some x → (List.range n).findSome? f = some x := by
  intro n i hi h0 h1
  rw [List.findSome?_eq_some_iff]
  refine ⟨List.range i, i, (List.range' (i + 1) (n - i - 1)), ?_, h1, fun y hy => h0 y (List.mem_range.mp hy)⟩
  rw [List.range_eq_range', List.range_eq_range', show (i :: List.range' (i + 1) (n - i - 1)) = List.range' i (n - i) from by
    rw [show n - i = (n - i - 1) + 1 by omega, List.range'_succ]; rfl]
  have := List.range'_append (s := 0) (m := i) (n := n - i) (step := 1)
  rw [Nat.one_mul, Nat.zero_add] at this
  rw [this]
  congr 1
  omega
theorem find_none {α : Type} {f : Nat → Option α} {n : Nat} (h : ∀ j, j < n → f j = none) : (List.range n).findSome? f = none := by
  rw [List.findSome?_eq_none_iff]
  exact fun x hx => h x (List.mem_range.mp hx)
/-- the marks by number -/
abbrev MQ (o : Int × Int) (hd : List (Int × Int)) : Nat → Int × Int := fun k => markQ o hd ((k : Nat) : Int)
section
variable {P : Program} {w : World} {K : PySem.W.Frag} {mg : Str → Option Value} {base : Heap} {c : Addr}
theorem VR.wide {o : Int × Int} {hd : List (Int × Int)} (vr : VR o hd) : o.2.natAbs < 2 ^ 8000 := Nat.lt_trans (show o.2.natAbs < 2 ^ 200 by have := vr.ok.b; have := vr.ok.b2; omega) (by decide +kernel)
theorem nat8000 {x : Nat} (h : x < 1000000) : ((x : Nat) : Int).natAbs < 2 ^ 8000 := Nat.lt_trans (show ((x : Nat) : Int).natAbs < 2 ^ 20 by omega) (by decide +kernel)
def sp__difference (K : PySem.W.Frag) (c : Addr) : Sp := fun vs H Q _ => ∃ (r r2 : Addr) (A : List Addr) (o o2 : Int × Int) (hd hd2 : List (Int × Int)) (n : Nat), vs = [.ref r, .ref r2, .int (n : Nat)] ∧
  RuleAt K c A H r o hd ∧ VR o hd ∧ RuleAt K c A H r2 o2 hd2 ∧ VR o2 hd2 ∧ Hd A H ∧ n ≤ 1000 ∧
  ∀ v H', Same H H' → Is K A H' v (diffD (diffN (MQ o hd) (MQ o2 hd2) n)) → Q v H'
theorem cal__difference (B : Bl mg) (DD : OwnDef K mg "_difference" s__difference) (C_is_less : Cal P w K mg base 1 "is_less" (sp_is_less K c) []) (C__ratio : Cal P w K mg base 4 "_ratio" (sp__ratio K c) []) (M_mark : Met P w K mg base 3 c "mark" (sp_Rule_mark K c)) : Cal P w K mg base 5 "_difference" (sp__difference K c) [] := by
  obtain ⟨f, fd, F, hm⟩ := DD.ex
  refine ⟨f, fd, ["rule", "other_rule", "items"], [], F.ok sc__difference (fun vs H Q E h => ?len) (fun cdv A outer s H vs Q E hr h => ?run), hm, F.kp, F.binds (fun _ _ _ _ _ _ us hl => match us, hl with | [_, _, _], _ => rfl), .nil⟩
  case len => first | (obtain ⟨_, rfl, _⟩ := h; rfl) | (obtain ⟨_, _, rfl, _⟩ := h; rfl) | (obtain ⟨_, _, _, rfl, _⟩ := h; rfl) | (obtain ⟨_, _, _, _, rfl, _⟩ := h; rfl) | (obtain ⟨_, _, _, _, _, rfl, _⟩ := h; rfl) | (obtain ⟨_, _, _, _, _, _, rfl, _⟩ := h; rfl) | (obtain ⟨_, _, _, _, _, _, _, rfl, _⟩ := h; rfl) | (obtain ⟨_, _, _, _, _, _, _, _, rfl, _⟩ := h; rfl) | (obtain ⟨_, _, _, _, _, _, _, _, _, rfl, _⟩ := h; rfl) | (obtain ⟨_, _, _, _, _, _, _, _, _, _, rfl, _⟩ := h; rfl) | (obtain ⟨_, _, _, _, _, _, _, _, _, _, _, rfl, _⟩ := h; rfl) | (obtain ⟨_, _, _, _, _, _, _, _, _, _, _, _, rfl, _⟩ := h; rfl) | (obtain ⟨_, _, _, _, _, _, _, _, _, _, _, _, _, rfl, _⟩ := h; rfl) | (obtain ⟨_, _, _, _, _, _, _, _, _, _, _, _, _, _, rfl, _⟩ := h; rfl)
  case run =>
    obtain ⟨r, r2, A0, o, o2, hd, hd2, n, rfl, R, vr, R2, vr2, hA, hn, k⟩ := h
    refine ⟨_, (pss_cons (ps_for PassesOwn.never rfl (pi_range1 (by rfl) B.range (pa_cons (pe_op op_fdiv (pv 2) pe_int) pa_nil)) (pg_name (i := 3) sc__difference.nd rfl (Or.inl rfl)) (pss_cons (ps_set (i := 4) sc__difference.nd rfl (Or.inl rfl) (pe_op op_sub (pe_op op_sub (pv 2) pe_int) (pv 3)))
      (pss_cons (ps_par (i := 5) (j := 6) (by rfl) sc__difference.nd rfl rfl (by decide) rfl rfl (pa_cons (pe_c C__ratio hr (by decide) (by rfl) (pa_cons (pv 0) (pa_cons (pv 3) (pa_cons (pv 4) pa_nil)))) (pa_cons (pe_c C__ratio hr (by decide) (by rfl) (pa_cons (pv 1) (pa_cons (pv 3) (pa_cons (pv 4) pa_nil)))) pa_nil)) (by rfl))
      (pss_cons (ps_if (pt_val (pe_c C_is_less hr (by decide) (by rfl) (pa_cons (pv 5) (pa_cons (pv 6) pa_nil)))) (pss_one (ps_ret (pe_tup (pa_cons (pv 2) (pa_cons (pe_tup (pa_cons (pe_mt M_mark hr (by decide) (pv 1) (pa_cons (pv 3) pa_nil)) (pa_cons (pe_mt M_mark hr (by decide) (pv 1) (pa_cons (pv 4) pa_nil)) pa_nil))) (pa_cons (pe_tup (pa_cons (pv 3) (pa_cons (pe_op op_add (pv 4) pe_int) pa_nil))) pa_nil)))))) pss_nil)
      (pss_one (ps_if (pt_val (pe_c C_is_less hr (by decide) (by rfl) (pa_cons (pv 6) (pa_cons (pv 5) pa_nil)))) (pss_one (ps_ret (pe_tup (pa_cons (pv 2) (pa_cons (pe_tup (pa_cons (pe_mt M_mark hr (by decide) (pv 0) (pa_cons (pv 3) pa_nil)) (pa_cons (pe_mt M_mark hr (by decide) (pv 0) (pa_cons (pv 4) pa_nil)) pa_nil))) (pa_cons (pe_tup (pa_cons (pv 3) (pa_cons (pe_op op_add (pv 4) pe_int) pa_nil))) pa_nil)))))) pss_nil))))))
      (pss_one (ps_ret pe_non))), ?_⟩
    obtain ⟨dx, v0, v1, v2, v3, e, h0, h1, h2, h3⟩ := R.ex
    obtain ⟨dx2, w0, w1, w2, w3, e2, g0, g1, g2, g3⟩ := R2.ex
    refine ⟨_, rfl, _, _, rfl, rfl, ⟨by decide, by decide⟩, _, rfl, by omega, by omega, ?_⟩
    have eN : (((n : Nat) : Int) / 2).toNat = n / 2 := by omega
    refine for_range (lo := 0) (n := (((n : Nat) : Int) / 2).toNat) (fun i σ H3 => ∃ x3 x4 x5 x6 : Option V, σ = [some (.ref r), some (.ref r2), some (.int (n : Nat)), x3, x4, x5, x6] ∧ Same H H3 ∧ ∀ j, j < i → pickD (MQ o hd) (MQ o2 hd2) n j = none)
      ⟨none, none, none, none, rfl, Same.refl H, fun j hj => by omega⟩ ?_ ?_
    · rintro i σ H3 hi ⟨x3, x4, x5, x6, rfl, s3, none1⟩
      rw [eN] at hi
      have eI : (0 + ((i : Nat) : Int)) = ((i : Nat) : Int) := by omega
      have eL : ((n : Nat) : Int) - 1 - (0 + ((i : Nat) : Int)) = ((n - 1 - i : Nat) : Int) := by omega
      have hA3 := (Go.of (A := A0) s3).held hA
      have eM : ((n : Nat) : Int) - 1 - (0 + ((i : Nat) : Int)) + 1 = ((n - 1 - i + 1 : Nat) : Int) := by omega
      refine ⟨_, rfl, _, _, rfl, rfl, _, rfl, _, _, rfl, rfl, ?_⟩
      refine ⟨_, rfl, _, rfl, _, rfl, r, A0, o, hd, _, _, rfl, R.same s3, vr, hA3, by omega, by omega, by omega, by omega, fun t H4 s4 ht => ?_⟩
      refine ⟨_, rfl, _, rfl, _, rfl, r2, A0, o2, hd2, _, _, rfl, R2.same (s3.trans s4), vr2, (Go.of s4).held hA3, by omega, by omega, by omega, by omega, fun u H5 s5 hu => ⟨_, _, rfl, ?_⟩⟩
      rw [eL, eI] at ht hu
      have s05 := (s3.trans s4).trans s5
      have hA5 := (Go.of (A := A0) s05).held hA
      have sm1 : smallQ (ratioQ (MQ o hd i) (MQ o hd (n - 1 - i))) := mid_ratio (vr.mid (by omega) (by omega)) (vr.mid (by omega) (by omega))
      have sm2 : smallQ (ratioQ (MQ o2 hd2 i) (MQ o2 hd2 (n - 1 - i))) := mid_ratio (vr2.mid (by omega) (by omega)) (vr2.mid (by omega) (by omega))
      refine ⟨_, rfl, _, rfl, _, _, _, _, rfl, D.same s5 ht.full, hu.full, sm1, sm2, ?_⟩
      have big1 : ((i : Nat) : Int).natAbs < 2 ^ 8000 := nat8000 (by omega)
      have big2 : ((n - 1 - i : Nat) : Int).natAbs < 2 ^ 8000 := nat8000 (by omega)
      have two : 2 ≤ sizeLine := by rw [sizeLine_eq]; decide
      have three : 3 ≤ sizeLine := by rw [sizeLine_eq]; decide
      refine ⟨_, rfl, ite2 (fun c1 => ?_) (fun c1 => ?_)⟩
      · have hp : pickD (MQ o hd) (MQ o2 hd2) n i = some (n, (MQ o2 hd2 i, MQ o2 hd2 (n - 1 - i)), (i, n - 1 - i + 1)) := if_pos (of_decide_eq_true c1)
        have hf : diffN (MQ o hd) (MQ o2 hd2) n = some (n, (MQ o2 hd2 i, MQ o2 hd2 (n - 1 - i)), (i, n - 1 - i + 1)) := find_some hi none1 hp
        rw [hf] at k
        refine ⟨_, rfl, _, rfl, r2, dx2, _, rfl, s05 _ _ e2, lkM, _, rfl, ?_⟩
        refine ⟨r2, dx2, _, w0, w1, A0, o2, hd2, _, rfl, s05 _ _ e2, lkO _ _, lkH _ _ _, hA5, Is.mono (Go.of s05) g0, Is.mono (Go.of s05) g1, by omega, by rw [eI]; exact big1, vr2.wide, fun a1 H6 s6 ha1 => ?_⟩
        have s06 := s05.trans s6
        refine ⟨_, rfl, r2, dx2, _, rfl, s06 _ _ e2, lkM, _, rfl, ?_⟩
        refine ⟨r2, dx2, _, w0, w1, A0, o2, hd2, _, rfl, s06 _ _ e2, lkO _ _, lkH _ _ _, (Go.of s06).held hA, Is.mono (Go.of s06) g0, Is.mono (Go.of s06) g1, by omega, by rw [eL]; exact big2, vr2.wide, fun a2 H7 s7 ha2 => ?_⟩
        rw [eI] at ha1
        rw [eL] at ha2
        have s07 := s06.trans s7
        have hA7 := (Go.of (A := A0) s07).held hA
        refine ⟨two, fun p1 n1 => ?_⟩
        have d1 : Is K A0 (upd H7 p1 (.tup [a1, a2])) (.ref p1) (.tuple [encQ (MQ o2 hd2 i), encQ (MQ o2 hd2 (n - 1 - i))]) := is_new_tup hA7 n1 (DAll.cons (Is.mono (Go.of s7) ha1) (DAll.cons ha2 DAll.nil))
        refine ⟨_, rfl, _, rfl, _, _, rfl, rfl, two, fun p2 n2 => ?_⟩
        have hA8 := hd_new hA7 n1 (o := .tup [a1, a2])
        refine ⟨three, fun p3 n3 => ?_⟩
        refine k _ _ (((s07.trans (same_new n1)).trans (same_new n2)).trans (same_new n3)) ?_
        exact is_new_tup (hd_new hA8 n2) n3 (DAll.cons (.int _) (DAll.cons (Is.mono (Go.new n2) d1) (DAll.cons (is_new_tup hA8 n2 (DAll.cons (isInt eI) (DAll.cons (isInt eM) DAll.nil))) DAll.nil)))
      · refine ⟨_, rfl, _, rfl, _, _, _, _, rfl, hu.full, D.same s5 ht.full, sm2, sm1, ?_⟩
        refine ⟨_, rfl, ite2 (fun c2 => ?_) (fun c2 => ?_)⟩
        · have hp : pickD (MQ o hd) (MQ o2 hd2) n i = some (n, (MQ o hd i, MQ o hd (n - 1 - i)), (i, n - 1 - i + 1)) := (if_neg (fun z => c1 (decide_eq_true z))).trans (if_pos (of_decide_eq_true c2))
          have hf : diffN (MQ o hd) (MQ o2 hd2) n = some (n, (MQ o hd i, MQ o hd (n - 1 - i)), (i, n - 1 - i + 1)) := find_some hi none1 hp
          rw [hf] at k
          refine ⟨_, rfl, _, rfl, r, dx, _, rfl, s05 _ _ e, lkM, _, rfl, ?_⟩
          refine ⟨r, dx, _, v0, v1, A0, o, hd, _, rfl, s05 _ _ e, lkO _ _, lkH _ _ _, hA5, Is.mono (Go.of s05) h0, Is.mono (Go.of s05) h1, by omega, by rw [eI]; exact big1, vr.wide, fun a1 H6 s6 ha1 => ?_⟩
          have s06 := s05.trans s6
          refine ⟨_, rfl, r, dx, _, rfl, s06 _ _ e, lkM, _, rfl, ?_⟩
          refine ⟨r, dx, _, v0, v1, A0, o, hd, _, rfl, s06 _ _ e, lkO _ _, lkH _ _ _, (Go.of s06).held hA, Is.mono (Go.of s06) h0, Is.mono (Go.of s06) h1, by omega, by rw [eL]; exact big2, vr.wide, fun a2 H7 s7 ha2 => ?_⟩
          rw [eI] at ha1
          rw [eL] at ha2
          have s07 := s06.trans s7
          have hA7 := (Go.of (A := A0) s07).held hA
          refine ⟨two, fun p1 n1 => ?_⟩
          have d1 : Is K A0 (upd H7 p1 (.tup [a1, a2])) (.ref p1) (.tuple [encQ (MQ o hd i), encQ (MQ o hd (n - 1 - i))]) := is_new_tup hA7 n1 (DAll.cons (Is.mono (Go.of s7) ha1) (DAll.cons ha2 DAll.nil))
          refine ⟨_, rfl, _, rfl, _, _, rfl, rfl, two, fun p2 n2 => ?_⟩
          have hA8 := hd_new hA7 n1 (o := .tup [a1, a2])
          refine ⟨three, fun p3 n3 => ?_⟩
          refine k _ _ (((s07.trans (same_new n1)).trans (same_new n2)).trans (same_new n3)) ?_
          exact is_new_tup (hd_new hA8 n2) n3 (DAll.cons (.int _) (DAll.cons (Is.mono (Go.new n2) d1) (DAll.cons (is_new_tup hA8 n2 (DAll.cons (isInt eI) (DAll.cons (isInt eM) DAll.nil))) DAll.nil)))
        · have hp : pickD (MQ o hd) (MQ o2 hd2) n i = none := (if_neg (fun z => c1 (decide_eq_true z))).trans (if_neg (fun z => c2 (decide_eq_true z)))
          refine ⟨_, _, _, _, rfl, s05, fun j hj => ?_⟩
          rcases Nat.lt_or_ge j i with z | z
          · exact none1 j z
          · have : j = i := by omega
            subst this
            exact hp
    · rintro σ H3 ⟨x3, x4, x5, x6, rfl, s3, none1⟩
      have hf : diffN (MQ o hd) (MQ o2 hd2) n = none := find_none (fun j hj => none1 j (by rw [eN]; exact hj))
      rw [hf] at k
      exact k _ _ s3 .non
def sp_first_difference (K : PySem.W.Frag) (c : Addr) : Sp := fun vs H Q _ => ∃ (r r2 : Addr) (A : List Addr) (o o2 : Int × Int) (hd hd2 : List (Int × Int)), vs = [.ref r, .ref r2] ∧
  RuleAt K c A H r o hd ∧ VR o hd ∧ RuleAt K c A H r2 o2 hd2 ∧ VR o2 hd2 ∧ Hd A H ∧
  ∀ v H', Same H H' → Is K A H' v (diffD (fdiff (MQ o hd) (MQ o2 hd2))) → Q v H'
theorem diffD_none {x : Option Dif} {K : PySem.W.Frag} {A : List Addr} {H : Hp} {v : V} (h : Is K A H v (diffD x)) : decide (v = V.non) = x.isNone := by
  match x, h with
  | none, h => rw [is_non h]; rfl
  | some (n, (p, q), (a, b)), h =>
    obtain ⟨t, vs, rfl, _⟩ := is_tup h
    rfl
theorem okf_first_difference (B : Bl mg) (DD : OwnDef K mg "first_difference" s_first_difference) (C__check_rules : Cal P w K mg base 2 "_check_rules" (sp__check_rules K c) []) (C_items_at_0 : Cal P w K mg base 2 "items_at_0" (sp_items_at_0 K c) []) (C__difference : Cal P w K mg base 5 "_difference" (sp__difference K c) []) (T : Tx K mg c) : ∃ (f : Addr) (fd : FuncData), Fun K "first_difference" "first_difference" s_first_difference f fd ∧ mg "first_difference" = some (.ref f) ∧
    FnOk P w K mg base CX0 6 f fd ["rule", "other_rule"] (sp_first_difference K c) := by
  obtain ⟨f, fd, F, hm⟩ := DD.ex
  refine ⟨f, fd, F, hm, F.ok sc_first_difference (fun vs H Q E h => ?len) (fun cdv A outer s H vs Q E hr h => ?run)⟩
  case len => obtain ⟨_, _, _, _, _, _, _, rfl, _⟩ := h; rfl
  case run =>
    obtain ⟨r, r2, A0, o, o2, hd, hd2, rfl, R, vr, R2, vr2, hA, k⟩ := h
    refine ⟨_, (pss_cons (ps_expr (pe_c C__check_rules hr (by decide) (by rfl) (pa_cons (pv 0) (pa_cons (pv 1) pa_nil))))
      (pss_cons (ps_if (pt_cmpR op_ne (pe_c C_items_at_0 hr (by decide) (by rfl) (pa_cons (pv 0) pa_nil)) (pe_c C_items_at_0 hr (by decide) (by rfl) (pa_cons (pv 1) pa_nil)) (nomark _)) (pss_one (ps_ret (pe_tup (pa_cons pe_int (pa_cons (pe_tup (pa_cons (pe_tup (pa_cons pe_int (pa_cons pe_int pa_nil))) (pa_cons (pe_tup (pa_cons pe_int (pa_cons pe_int pa_nil))) pa_nil))) (pa_cons (pe_tup (pa_cons pe_int (pa_cons pe_int pa_nil))) pa_nil)))))) pss_nil)
      (pss_cons (ps_for PassesOwn.never rfl (pi_range2 (by rfl) B.range (pa_cons pe_int (pa_cons (pe_op op_add (pe_op op_mul pe_int (pe_gint (by rfl) T.g_MOST_HEAD)) pe_int) pa_nil))) (pg_name (i := 2) sc_first_difference.nd rfl (Or.inl rfl)) (pss_cons (ps_set (i := 3) sc_first_difference.nd rfl (Or.inl rfl) (pe_c C__difference hr (by decide) (by rfl) (pa_cons (pv 0) (pa_cons (pv 1) (pa_cons (pv 2) pa_nil)))))
      (pss_one (ps_if (pt_cmpR op_notN (pv 3) pe_non (nomark _)) (pss_one (ps_ret (pv 3))) pss_nil))))
      (pss_one (ps_ret pe_non))))), ?_⟩
    obtain ⟨dx, v0, v1, v2, v3, e, _⟩ := R.ex
    obtain ⟨dx2, w0, w1, w2, w3, e2, _⟩ := R2.ex
    have two : 2 ≤ sizeLine := by rw [sizeLine_eq]; decide
    have three : 3 ≤ sizeLine := by rw [sizeLine_eq]; decide
    refine ⟨_, rfl, _, rfl, r, dx, r2, dx2, _, _, rfl, e, e2, ?_⟩
    refine ⟨_, rfl, r, A0, o, hd, rfl, R, vr, ?_⟩
    refine ⟨_, rfl, r2, A0, o2, hd2, rfl, R2, vr2, ?_⟩
    have s02 := Same.refl H
    have hA2 := hA
    refine ⟨rfl, _, rfl, ite2 (fun c1 => ?_) (fun c1 => ?_)⟩
    · have c1' : decide ((MQ o hd 0).1 = 0) ≠ decide ((MQ o2 hd2 0).1 = 0) := fun z => by
        have z' : ((markQ o hd 0).1 = 0) ↔ ((markQ o2 hd2 0).1 = 0) := decide_eq_decide.mp z
        simp only [z'] at c1
        simp at c1
      have hf : fdiff (MQ o hd) (MQ o2 hd2) = some (1, ((1, 1), (2, 1)), (1, 0)) := if_pos c1'
      rw [hf] at k
      refine ⟨two, fun p1 n1 => ⟨two, fun p2 n2 => ⟨two, fun p3 n3 => ⟨two, fun p4 n4 => ⟨three, fun p5 n5 => ?_⟩⟩⟩⟩⟩
      refine k _ _ (((((s02.trans (same_new n1)).trans (same_new n2)).trans (same_new n3)).trans (same_new n4)).trans (same_new n5)) ?_
      have a1 := hd_new hA2 n1 (o := .tup [.int 1, .int 1])
      have a2 := hd_new a1 n2 (o := .tup [.int 2, .int 1])
      have a3 := hd_new a2 n3 (o := .tup [.ref p1, .ref p2])
      have a4 := hd_new a3 n4 (o := .tup [.int 1, .int 0])
      have d1 : Is K A0 _ (.ref p1) (encQ (1, 1)) := is_new_tup hA2 n1 (iss_Q (1, 1))
      have d2 : Is K A0 _ (.ref p2) (encQ (2, 1)) := is_new_tup a1 n2 (iss_Q (2, 1))
      have d3 : Is K A0 _ (.ref p3) (.tuple [encQ (1, 1), encQ (2, 1)]) := is_new_tup a2 n3 (DAll.cons (Is.mono (Go.new n2) d1) (DAll.cons d2 DAll.nil))
      have d4 : Is K A0 _ (.ref p4) (.tuple [.int 1, .int 0]) := is_new_tup a3 n4 (DAll.cons (.int _) (DAll.cons (.int _) DAll.nil))
      exact is_new_tup a4 n5 (DAll.cons (.int _) (DAll.cons (Is.mono (Go.new n4) d3) (DAll.cons d4 DAll.nil)))
    · have c1' : ¬ (decide ((MQ o hd 0).1 = 0) ≠ decide ((MQ o2 hd2 0).1 = 0)) := fun z => c1 (by
        rw [Bool.not_eq_true', decide_eq_false_iff_not]
        exact fun y => z (dec_of_if (V.int.inj y)))
      have hF : fdiff (MQ o hd) (MQ o2 hd2) = (List.range 17).findSome? fun i => diffN (MQ o hd) (MQ o2 hd2) (2 + i) := if_neg c1'
      rw [hF] at k
      refine ⟨_, _, rfl, rfl, .inl ⟨by decide, by decide⟩, _, _, rfl, rfl, 2, 19, rfl, by decide, ?_⟩
      refine for_range (lo := 2) (n := 17) (fun i σ H3 => ∃ x2 x3 : Option V, σ = [some (.ref r), some (.ref r2), x2, x3] ∧ Same H H3 ∧ ∀ j, j < i → diffN (MQ o hd) (MQ o2 hd2) (2 + j) = none)
        ⟨none, none, rfl, s02, fun j hj => by omega⟩ ?_ ?_
      · rintro i σ H3 hi ⟨x2, x3, rfl, s3, none1⟩
        have eI : (2 + ((i : Nat) : Int)) = ((2 + i : Nat) : Int) := by omega
        have hA3 := (Go.of (A := A0) s3).held hA
        refine ⟨_, rfl, _, rfl, _, rfl, r, r2, A0, o, o2, hd, hd2, 2 + i, by rw [eI]; rfl, R.same s3, vr, R2.same s3, vr2, hA3, by omega, fun v H4 s4 hv => ?_⟩
        have s04 := s3.trans s4
        refine ⟨_, rfl, rfl, _, rfl, ite2 (fun c2 => ?_) (fun c2 => ?_)⟩
        · rw [diffD_none hv] at c2
          cases hx : diffN (MQ o hd) (MQ o2 hd2) (2 + i) with
          | none => rw [hx] at c2; simp at c2
          | some x =>
            have hf : (List.range 17).findSome? (fun i => diffN (MQ o hd) (MQ o2 hd2) (2 + i)) = some x := find_some hi none1 hx
            rw [hf] at k
            rw [hx] at hv
            exact ⟨_, rfl, k _ _ s04 hv⟩
        · rw [diffD_none hv] at c2
          refine ⟨_, _, rfl, s04, fun j hj => ?_⟩
          rcases Nat.lt_or_ge j i with z | z
          · exact none1 j z
          · have : j = i := by omega
            subst this
            cases hx : diffN (MQ o hd) (MQ o2 hd2) (2 + j) with
            | none => rfl
            | some x => rw [hx] at c2; simp at c2
      · rintro σ H3 ⟨x2, x3, rfl, s3, none1⟩
        have hf : (List.range 17).findSome? (fun i => diffN (MQ o hd) (MQ o2 hd2) (2 + i)) = none := find_none none1
        rw [hf] at k
        exact k _ _ s3 .non
theorem cal_first_difference (B : Bl mg) (DD : OwnDef K mg "first_difference" s_first_difference) (C__check_rules : Cal P w K mg base 2 "_check_rules" (sp__check_rules K c) []) (C_items_at_0 : Cal P w K mg base 2 "items_at_0" (sp_items_at_0 K c) []) (C__difference : Cal P w K mg base 5 "_difference" (sp__difference K c) []) (T : Tx K mg c) : Cal P w K mg base 6 "first_difference" (sp_first_difference K c) [] := by
  obtain ⟨f, fd, F, hm, ok⟩ := okf_first_difference B DD C__check_rules C_items_at_0 C__difference T
  exact ⟨f, fd, _, [], ok, hm, F.kp, F.binds (fun _ _ _ _ _ _ us hl => match us, hl with | [_, _], _ => rfl), .nil⟩
theorem calR_first_difference (B : Bl mg) (DD : OwnDef K mg "first_difference" s_first_difference) (C__check_rules : Cal P w K mg base 2 "_check_rules" (sp__check_rules K c) []) (C_items_at_0 : Cal P w K mg base 2 "items_at_0" (sp_items_at_0 K c) []) (C__difference : Cal P w K mg base 5 "_difference" (sp__difference K c) []) (T : Tx K mg c) : CalR P w K mg base 6 "first_difference" ["other_rule", "rule"] (sp_first_difference K c) := by
  obtain ⟨f, fd, F, hm, ok⟩ := okf_first_difference B DD C__check_rules C_items_at_0 C__difference T
  refine ⟨f, fd, _, ok, hm, F.kp, ?_⟩
  obtain ⟨oc, od, kV, doc, pm, an, cdv, ct, osl,
        rfl, lk, hcd⟩ := F.ex
  intro s ws _ hl
  match ws, hl with
  | [x, y], _ => exact .of_eq rfl
def sp_same_divisions (K : PySem.W.Frag) (c : Addr) : Sp := fun vs H Q _ => ∃ (r r2 : Addr) (A : List Addr) (o o2 : Int × Int) (hd hd2 : List (Int × Int)), vs = [.ref r, .ref r2] ∧
  RuleAt K c A H r o hd ∧ VR o hd ∧ RuleAt K c A H r2 o2 hd2 ∧ VR o2 hd2 ∧ Hd A H ∧
  ∀ H', Same H H' → Q (.bl (fdiff (MQ o hd) (MQ o2 hd2)).isNone) H'
theorem cal_same_divisions (B : Bl mg) (DD : OwnDef K mg "same_divisions" s_same_divisions) (C_first_difference : Cal P w K mg base 6 "first_difference" (sp_first_difference K c) [])  : Cal P w K mg base 7 "same_divisions" (sp_same_divisions K c) [] := by
  obtain ⟨f, fd, F, hm⟩ := DD.ex
  refine ⟨f, fd, ["rule", "other_rule"], [], F.ok sc_same_divisions (fun vs H Q E h => ?len) (fun cdv A outer s H vs Q E hr h => ?run), hm, F.kp, F.binds (fun _ _ _ _ _ _ us hl => match us, hl with | [_, _], _ => rfl), .nil⟩
  case len => first | (obtain ⟨_, rfl, _⟩ := h; rfl) | (obtain ⟨_, _, rfl, _⟩ := h; rfl) | (obtain ⟨_, _, _, rfl, _⟩ := h; rfl) | (obtain ⟨_, _, _, _, rfl, _⟩ := h; rfl) | (obtain ⟨_, _, _, _, _, rfl, _⟩ := h; rfl) | (obtain ⟨_, _, _, _, _, _, rfl, _⟩ := h; rfl) | (obtain ⟨_, _, _, _, _, _, _, rfl, _⟩ := h; rfl) | (obtain ⟨_, _, _, _, _, _, _, _, rfl, _⟩ := h; rfl) | (obtain ⟨_, _, _, _, _, _, _, _, _, rfl, _⟩ := h; rfl) | (obtain ⟨_, _, _, _, _, _, _, _, _, _, rfl, _⟩ := h; rfl) | (obtain ⟨_, _, _, _, _, _, _, _, _, _, _, rfl, _⟩ := h; rfl) | (obtain ⟨_, _, _, _, _, _, _, _, _, _, _, _, rfl, _⟩ := h; rfl) | (obtain ⟨_, _, _, _, _, _, _, _, _, _, _, _, _, rfl, _⟩ := h; rfl) | (obtain ⟨_, _, _, _, _, _, _, _, _, _, _, _, _, _, rfl, _⟩ := h; rfl)
  case run =>
    obtain ⟨r, r2, A0, o, o2, hd, hd2, rfl, R, vr, R2, vr2, hA, k⟩ := h
    refine ⟨_, (pss_one (ps_ret (pe_cmpR op_isN (pe_c C_first_difference hr (by decide) (by rfl) (pa_cons (pv 0) (pa_cons (pv 1) pa_nil))) pe_non (nomark _)))), ?_⟩
    refine ⟨_, rfl, _, rfl, r, r2, A0, o, o2, hd, hd2, rfl, R, vr, R2, vr2, hA, fun v H1 s1 hv => ⟨rfl, ?_⟩⟩
    rw [diffD_none hv]
    exact k H1 s1
end

/-! ### first_unkind -/
section
variable {P : Program} {w : World} {K : PySem.W.Frag} {mg : Str → Option Value} {base : Heap} {c : Addr}
def sp_first_unkind (K : PySem.W.Frag) (c : Addr) : Sp := fun vs H Q _ => ∃ (r r2 : Addr) (A : List Addr) (o o2 : Int × Int) (hd hd2 : List (Int × Int)), vs = [.ref r, .ref r2] ∧
  RuleAt K c A H r o hd ∧ VR o hd ∧ RuleAt K c A H r2 o2 hd2 ∧ VR o2 hd2 ∧ Hd A H ∧
  ∀ v H' x, Same H H' → IsFirst (unk o hd o2 hd2) 10 x → Is K A H' v (pairD2 x) → Q v H'
theorem okf_first_unkind (B : Bl mg) (DD : OwnDef K mg "first_unkind" s_first_unkind) (C__check_rules : Cal P w K mg base 2 "_check_rules" (sp__check_rules K c) []) (C_is_less : Cal P w K mg base 1 "is_less" (sp_is_less K c) []) (C__ratio : Cal P w K mg base 4 "_ratio" (sp__ratio K c) []) (T : Tx K mg c) : ∃ (f : Addr) (fd : FuncData), Fun K "first_unkind" "first_unkind" s_first_unkind f fd ∧ mg "first_unkind" = some (.ref f) ∧
    FnOk P w K mg base CX0 5 f fd ["rule", "other_rule"] (sp_first_unkind K c) := by
  obtain ⟨f, fd, F, hm⟩ := DD.ex
  refine ⟨f, fd, F, hm, F.ok sc_first_unkind (fun vs H Q E h => ?len) (fun cdv A outer s H vs Q E hr h => ?run)⟩
  case len => obtain ⟨_, _, _, _, _, _, _, rfl, _⟩ := h; rfl
  case run =>
    obtain ⟨r, r2, A0, o, o2, hd, hd2, rfl, R, vr, R2, vr2, hA, k⟩ := h
    refine ⟨_, (pss_cons (ps_expr (pe_c C__check_rules hr (by decide) (by rfl) (pa_cons (pv 0) (pa_cons (pv 1) pa_nil))))
      (pss_cons (ps_for PassesOwn.never rfl (pi_range2 (by rfl) B.range (pa_cons pe_int (pa_cons (pe_op op_add (pe_gint (by rfl) T.g_MOST_HEAD) pe_int) pa_nil))) (pg_name (i := 2) sc_first_unkind.nd rfl (Or.inl rfl)) (pss_one (ps_for PassesOwn.never rfl (pi_range1 (by rfl) B.range (pa_cons (pv 2) pa_nil)) (pg_name (i := 3) sc_first_unkind.nd rfl (Or.inl rfl)) (pss_one (ps_if (pt_val (pe_c C_is_less hr (by decide) (by rfl) (pa_cons (pe_c C__ratio hr (by decide) (by rfl) (pa_cons (pv 1) (pa_cons (pv 3) (pa_cons (pv 2) pa_nil)))) (pa_cons (pe_c C__ratio hr (by decide) (by rfl) (pa_cons (pv 0) (pa_cons (pv 3) (pa_cons (pv 2) pa_nil)))) pa_nil)))) (pss_one (ps_ret (pe_tup (pa_cons (pv 3) (pa_cons (pv 2) pa_nil))))) pss_nil)))))
      (pss_one (ps_ret pe_non)))), ?_⟩
    obtain ⟨dx, v0, v1, v2, v3, e, _⟩ := R.ex
    obtain ⟨dx2, w0, w1, w2, w3, e2, _⟩ := R2.ex
    refine ⟨_, rfl, _, rfl, r, dx, r2, dx2, _, _, rfl, e, e2, ?_⟩
    refine ⟨_, _, rfl, rfl, 1, 10, rfl, by decide, ?_⟩
    refine for_range (lo := 1) (n := 9) (fun i σ H2 => ∃ x2 x3 : Option V, σ = [some (.ref r), some (.ref r2), x2, x3] ∧ Same H H2 ∧ ∀ l, l < i + 1 → ∀ k, k < l → unk o hd o2 hd2 k l = false)
      ⟨none, none, rfl, Same.refl H, fun l hl k hk => by omega⟩ ?_ ?_
    · rintro i σ H2 hi ⟨x2, x3, rfl, s2, none1⟩
      refine ⟨_, rfl, 1 + ((i : Nat) : Int), rfl, by omega, by omega, ?_⟩
      have eN : (1 + ((i : Nat) : Int)).toNat = i + 1 := by omega
      refine for_range (lo := 0) (n := (1 + ((i : Nat) : Int)).toNat) (fun j σ H3 => ∃ x3 : Option V, σ = [some (.ref r), some (.ref r2), some (.int (1 + ((i : Nat) : Int))), x3] ∧ Same H H3 ∧ ∀ k, k < j → unk o hd o2 hd2 k (i + 1) = false)
        ⟨x3, rfl, s2, fun k hk => by omega⟩ ?_ ?_
      · rintro j σ H3 hj ⟨x3, rfl, s3, none2⟩
        rw [eN] at hj
        have hA3 := (Go.of (A := A0) s3).held hA
        have e0 : (0 + ((j : Nat) : Int)) = ((j : Nat) : Int) := by omega
        have e1 : (1 + ((i : Nat) : Int)) = (((i + 1 : Nat)) : Int) := by omega
        refine ⟨_, rfl, _, rfl, _, rfl, r2, A0, o2, hd2, ((j : Nat) : Int), (((i + 1 : Nat)) : Int), by rw [e0, e1]; rfl, R2.same s3, vr2, hA3, by omega, by omega, by omega, by omega, fun t H4 s4 ht => ?_⟩
        refine ⟨_, rfl, _, rfl, _, rfl, r, A0, o, hd, ((j : Nat) : Int), (((i + 1 : Nat)) : Int), by rw [e0, e1]; rfl, R.same (s3.trans s4), vr, (Go.of s4).held hA3, by omega, by omega, by omega, by omega, fun u H5 s5 hu => ?_⟩
        refine ⟨_, _, _, _, rfl, D.same s5 ht.full, hu.full, mid_ratio (vr2.mid (by omega) (by omega)) (vr2.mid (by omega) (by omega)), mid_ratio (vr.mid (by omega) (by omega)) (vr.mid (by omega) (by omega)), ?_⟩
        have s05 := (s3.trans s4).trans s5
        refine ⟨_, rfl, ite2 (fun e => ?_) (fun e => ?_)⟩
        · refine ⟨_, rfl, _, rfl, by show 2 ≤ sizeLine; decide, fun t2 nt => ?_⟩
          have hA5 := (Go.of (A := A0) s05).held hA
          refine k _ _ (some (j, i + 1)) (s05.trans (same_new nt)) ⟨hj, by omega, e, none1, none2⟩ ?_
          rw [e0, e1]
          exact is_new_tup hA5 nt (DAll.cons (.int _) (DAll.cons (.int _) DAll.nil))
        · refine ⟨_, rfl, s05, fun k hk => ?_⟩
          rcases Nat.lt_or_ge k j with z | z
          · exact none2 k z
          · have : k = j := by omega
            subst this
            exact (Bool.not_eq_true _).mp e
      · rintro σ H3 ⟨x3, rfl, s3, none2⟩
        refine ⟨_, _, rfl, s3, fun l hl k hk => ?_⟩
        rcases Nat.lt_or_ge l (i + 1) with z | z
        · exact none1 l z k hk
        · have : l = i + 1 := by omega
          subst this
          exact none2 k (by rw [eN]; exact hk)
    · rintro σ H2 ⟨x2, x3, rfl, s2, none1⟩
      exact k _ _ none s2 none1 .non
theorem cal_first_unkind (B : Bl mg) (DD : OwnDef K mg "first_unkind" s_first_unkind) (C__check_rules : Cal P w K mg base 2 "_check_rules" (sp__check_rules K c) []) (C_is_less : Cal P w K mg base 1 "is_less" (sp_is_less K c) []) (C__ratio : Cal P w K mg base 4 "_ratio" (sp__ratio K c) []) (T : Tx K mg c) : Cal P w K mg base 5 "first_unkind" (sp_first_unkind K c) [] := by
  obtain ⟨f, fd, F, hm, ok⟩ := okf_first_unkind B DD C__check_rules C_is_less C__ratio T
  exact ⟨f, fd, _, [], ok, hm, F.kp, F.binds (fun _ _ _ _ _ _ us hl => match us, hl with | [_, _], _ => rfl), .nil⟩
theorem calR_first_unkind (B : Bl mg) (DD : OwnDef K mg "first_unkind" s_first_unkind) (C__check_rules : Cal P w K mg base 2 "_check_rules" (sp__check_rules K c) []) (C_is_less : Cal P w K mg base 1 "is_less" (sp_is_less K c) []) (C__ratio : Cal P w K mg base 4 "_ratio" (sp__ratio K c) []) (T : Tx K mg c) : CalR P w K mg base 5 "first_unkind" ["other_rule", "rule"] (sp_first_unkind K c) := by
  obtain ⟨f, fd, F, hm, ok⟩ := okf_first_unkind B DD C__check_rules C_is_less C__ratio T
  refine ⟨f, fd, _, ok, hm, F.kp, ?_⟩
  obtain ⟨oc, od, kV, doc, pm, an, cdv, ct, osl,
        rfl, lk, hcd⟩ := F.ex
  intro s ws _ hl
  match ws, hl with
  | [x, y], _ => exact .of_eq rfl
end

/-! ### most_apart -/
structure TxM (mg : Str → Option Value) : Prop where
  g_MOST_COMPARED : ∃ t, mg "MOST_COMPARED" = some (.int 200 t)
/-- how many of the borders from p on are not above q, up to the first that is -/
def advQ (q : Int × Int) (os : List (Int × Int)) (p : Nat) : Nat := p + ((os.drop p).takeWhile fun o => !decide (ltQ q o)).length
def leadG (os : List (Int × Int)) : List (Int × Int) → Nat → Int → Nat → Int
  | [], _, m, _ => m
  | q :: r, k, m, p => leadG os r (k + 1) (max m (((k + 1 : Nat) : Int) - ((advQ q os p : Nat) : Int))) (advQ q os p)
def leadF (bs os : List (Int × Int)) : Int := leadG os bs 0 0 0
def bordersF (M : Nat → Int × Int) (n : Nat) : List (Int × Int) := (List.range n).map fun k => ratioQ (M k) (M (n - 1 - k))
theorem rIx_mono {K : PySem.W.Frag} {x y : V} {H : Hp} {Q1 Q2 : VK} (h : rIx K x y H Q1) (f : ∀ v H', Q1 v H' → Q2 v H') : rIx K x y H Q2 := by
  rcases h with ⟨a, b, c, d, e1, e2, e3, e4, k⟩ | ⟨a, b, c, d, e1, e2, e3, e4, k⟩ | ⟨a, b, c, e1, e2, e3, e4, k⟩
  · exact .inl ⟨a, b, c, d, e1, e2, e3, e4, f _ _ k⟩
  · exact .inr (.inl ⟨a, b, c, d, e1, e2, e3, e4, f _ _ k⟩)
  · exact .inr (.inr ⟨a, b, c, e1, e2, e3, e4, f _ _ k⟩)
theorem adv_on {q : Int × Int} {os : List (Int × Int)} {p : Nat} {o : Int × Int} (h : os[p]? = some o) (l : ¬ ltQ q o) : advQ q os p = advQ q os (p + 1) := by
  unfold advQ
  obtain ⟨hp, e⟩ := List.getElem?_eq_some_iff.mp h
  rw [List.drop_eq_getElem_cons hp, e, List.takeWhile_cons, if_pos (by rw [decide_eq_false l]; rfl), List.length_cons]
  omega
theorem adv_off {q : Int × Int} {os : List (Int × Int)} {p : Nat} {o : Int × Int} (h : os[p]? = some o) (l : ltQ q o) : advQ q os p = p := by
  unfold advQ
  obtain ⟨hp, e⟩ := List.getElem?_eq_some_iff.mp h
  rw [List.drop_eq_getElem_cons hp, e, List.takeWhile_cons, if_neg (by rw [decide_eq_true l]; decide)]
  rfl
theorem adv_end {q : Int × Int} {os : List (Int × Int)} {p : Nat} (h : os.length ≤ p) : advQ q os p = p := by
  unfold advQ
  rw [List.drop_eq_nil_of_le h]
  rfl
theorem adv_le {q : Int × Int} {os : List (Int × Int)} {p : Nat} (h : p ≤ os.length) : advQ q os p ≤ os.length := by
  unfold advQ
  have := (List.takeWhile_sublist (p := fun o => !decide (ltQ q o)) (l := os.drop p)).length_le
  rw [List.length_drop] at this
  omega
section
variable {P : Program} {w : World} {K : PySem.W.Frag} {mg : Str → Option Value} {base : Heap} {c : Addr}
def sp_check_count (K : PySem.W.Frag) (c : Addr) : Sp := fun vs H Q _ => ∃ n : Int, vs = [.int n] ∧ 0 ≤ n ∧ Q .non H
theorem cal_check_count (B : Bl mg) (DD : OwnDef K mg "check_count" s_check_count) (C_is_count : Cal P w K mg base 2 "is_count" (sp_is_count K c) [])  : Cal P w K mg base 3 "check_count" (sp_check_count K c) [] := by
  obtain ⟨f, fd, F, hm⟩ := DD.ex
  refine ⟨f, fd, ["value"], [], F.ok sc_check_count (fun vs H Q E h => ?len) (fun cdv A outer s H vs Q E hr h => ?run), hm, F.kp, F.binds (fun _ _ _ _ _ _ us hl => match us, hl with | [_], _ => rfl), .nil⟩
  case len => first | (obtain ⟨_, rfl, _⟩ := h; rfl) | (obtain ⟨_, _, rfl, _⟩ := h; rfl) | (obtain ⟨_, _, _, rfl, _⟩ := h; rfl) | (obtain ⟨_, _, _, _, rfl, _⟩ := h; rfl) | (obtain ⟨_, _, _, _, _, rfl, _⟩ := h; rfl) | (obtain ⟨_, _, _, _, _, _, rfl, _⟩ := h; rfl) | (obtain ⟨_, _, _, _, _, _, _, rfl, _⟩ := h; rfl) | (obtain ⟨_, _, _, _, _, _, _, _, rfl, _⟩ := h; rfl) | (obtain ⟨_, _, _, _, _, _, _, _, _, rfl, _⟩ := h; rfl) | (obtain ⟨_, _, _, _, _, _, _, _, _, _, rfl, _⟩ := h; rfl) | (obtain ⟨_, _, _, _, _, _, _, _, _, _, _, rfl, _⟩ := h; rfl) | (obtain ⟨_, _, _, _, _, _, _, _, _, _, _, _, rfl, _⟩ := h; rfl) | (obtain ⟨_, _, _, _, _, _, _, _, _, _, _, _, _, rfl, _⟩ := h; rfl) | (obtain ⟨_, _, _, _, _, _, _, _, _, _, _, _, _, _, rfl, _⟩ := h; rfl)
  case run =>
    obtain ⟨n, rfl, n0, k⟩ := h
    refine ⟨_, (pss_one (ps_if (pt_not (pt_val (pe_c C_is_count hr (by decide) (by rfl) (pa_cons (pv 0) pa_nil)))) (pss_one ps_never) pss_nil)), ?_⟩
    have hc : isCountD (.int n) = true := decide_eq_true (show n ≥ 0 from n0)
    refine ⟨_, rfl, .int n, .int n, rfl, .int n, ?_⟩
    rw [hc]
    exact ⟨_, rfl, k⟩
def sp_check_at_most (K : PySem.W.Frag) (c : Addr) : Sp := fun vs H Q _ => ∃ n m : Int, vs = [.int n, .int m] ∧ n ≤ m ∧ Q .non H
theorem cal_check_at_most (B : Bl mg) (DD : OwnDef K mg "check_at_most" s_check_at_most)   : Cal P w K mg base 1 "check_at_most" (sp_check_at_most K c) [] := by
  obtain ⟨f, fd, F, hm⟩ := DD.ex
  refine ⟨f, fd, ["items", "limit"], [], F.ok sc_check_at_most (fun vs H Q E h => ?len) (fun cdv A outer s H vs Q E hr h => ?run), hm, F.kp, F.binds (fun _ _ _ _ _ _ us hl => match us, hl with | [_, _], _ => rfl), .nil⟩
  case len => first | (obtain ⟨_, rfl, _⟩ := h; rfl) | (obtain ⟨_, _, rfl, _⟩ := h; rfl) | (obtain ⟨_, _, _, rfl, _⟩ := h; rfl) | (obtain ⟨_, _, _, _, rfl, _⟩ := h; rfl) | (obtain ⟨_, _, _, _, _, rfl, _⟩ := h; rfl) | (obtain ⟨_, _, _, _, _, _, rfl, _⟩ := h; rfl) | (obtain ⟨_, _, _, _, _, _, _, rfl, _⟩ := h; rfl) | (obtain ⟨_, _, _, _, _, _, _, _, rfl, _⟩ := h; rfl) | (obtain ⟨_, _, _, _, _, _, _, _, _, rfl, _⟩ := h; rfl) | (obtain ⟨_, _, _, _, _, _, _, _, _, _, rfl, _⟩ := h; rfl) | (obtain ⟨_, _, _, _, _, _, _, _, _, _, _, rfl, _⟩ := h; rfl) | (obtain ⟨_, _, _, _, _, _, _, _, _, _, _, _, rfl, _⟩ := h; rfl) | (obtain ⟨_, _, _, _, _, _, _, _, _, _, _, _, _, rfl, _⟩ := h; rfl) | (obtain ⟨_, _, _, _, _, _, _, _, _, _, _, _, _, _, rfl, _⟩ := h; rfl)
  case run =>
    obtain ⟨n, m, rfl, h, k⟩ := h
    refine ⟨_, (pss_one (ps_if (pt_cmpR op_gt (pv 0) (pv 1) (nomark _)) (pss_one ps_never) pss_nil)), ?_⟩
    exact ⟨_, rfl, _, rfl, _, _, rfl, rfl, _, rfl, ite2 (fun e => absurd (of_decide_eq_true e) (show ¬ n > m by omega)) (fun _ => k)⟩
def sp__borders (K : PySem.W.Frag) (c : Addr) : Sp := fun vs H Q _ => ∃ (r : Addr) (A : List Addr) (o : Int × Int) (hd : List (Int × Int)) (n : Nat), vs = [.ref r, .int (n : Nat)] ∧
  RuleAt K c A H r o hd ∧ VR o hd ∧ Hd A H ∧ n ≤ 1000 ∧ ∀ l H', Same H H' → Is K A H' (.ref l) (.list ((bordersF (MQ o hd) n).map encQ)) → Q (.ref l) H'
theorem cal__borders (B : Bl mg) (DD : OwnDef K mg "_borders" s__borders) (C__ratio : Cal P w K mg base 4 "_ratio" (sp__ratio K c) [])  : Cal P w K mg base 5 "_borders" (sp__borders K c) [] := by
  obtain ⟨f, fd, F, hm⟩ := DD.ex
  refine ⟨f, fd, ["rule", "items"], [], F.ok sc__borders (fun vs H Q E h => ?len) (fun cdv A outer s H vs Q E hr h => ?run), hm, F.kp, F.binds (fun _ _ _ _ _ _ us hl => match us, hl with | [_, _], _ => rfl), .nil⟩
  case len => first | (obtain ⟨_, rfl, _⟩ := h; rfl) | (obtain ⟨_, _, rfl, _⟩ := h; rfl) | (obtain ⟨_, _, _, rfl, _⟩ := h; rfl) | (obtain ⟨_, _, _, _, rfl, _⟩ := h; rfl) | (obtain ⟨_, _, _, _, _, rfl, _⟩ := h; rfl) | (obtain ⟨_, _, _, _, _, _, rfl, _⟩ := h; rfl) | (obtain ⟨_, _, _, _, _, _, _, rfl, _⟩ := h; rfl) | (obtain ⟨_, _, _, _, _, _, _, _, rfl, _⟩ := h; rfl) | (obtain ⟨_, _, _, _, _, _, _, _, _, rfl, _⟩ := h; rfl) | (obtain ⟨_, _, _, _, _, _, _, _, _, _, rfl, _⟩ := h; rfl) | (obtain ⟨_, _, _, _, _, _, _, _, _, _, _, rfl, _⟩ := h; rfl) | (obtain ⟨_, _, _, _, _, _, _, _, _, _, _, _, rfl, _⟩ := h; rfl) | (obtain ⟨_, _, _, _, _, _, _, _, _, _, _, _, _, rfl, _⟩ := h; rfl) | (obtain ⟨_, _, _, _, _, _, _, _, _, _, _, _, _, _, rfl, _⟩ := h; rfl)
  case run =>
    obtain ⟨r, A0, o, hd, n, rfl, R, vr, hA, hn, k⟩ := h
    refine ⟨_, (pss_one (ps_ret (pe_lc (own := [("number", 2)]) (by rfl) sc__borders.nd (pi_range1 (by rfl) B.range (pa_cons (pv 1) pa_nil)) (blkOk_by (own := [("number", 2)]) (N := ["rule", "items", "number"]) (sc := defScope s__borders) (by decide +kernel)) (fun _ _ _ _ _ => (pg_name (i := 2) sc__borders.nd rfl (Or.inl rfl))) (fun _ _ _ _ _ => pts_nil) (fun _ _ _ _ _ => (pe_c C__ratio hr (by decide) (by rfl) (pa_cons (pv 0) (pa_cons (pv 2) (pa_cons (pe_op op_sub (pe_op op_sub (pv 1) pe_int) (pv 2)) pa_nil)))))))), ?_⟩
    refine ⟨_, rfl, _, rfl, by omega, by omega, fun D0 nD => ?_⟩
    have nDA : D0 ∉ A0 := hA.out nD
    refine lc_range (lo := 0) (n := (((n : Nat) : Int)).toNat) (fun i H4 => Same H H4 ∧ Hd (D0 :: A0) H4 ∧ ∃ ws, H4 D0 = some (.lst ws) ∧ Iss K (D0 :: A0) H4 ws (((List.range i).map fun k => ratioQ (MQ o hd k) (MQ o hd (n - 1 - k))).map encQ))
      ⟨same_new nD, Hd.cons upd_same (hd_new hA nD), [], upd_same, DAll.nil⟩ ?_ ?_
    · rintro i H4 hi ⟨s4, hA4, ws, eD, hws⟩
      have hi' : i < n := by omega
      have eI : (0 + ((i : Nat) : Int)) = ((i : Nat) : Int) := by omega
      have eL : ((n : Nat) : Int) - 1 - (0 + ((i : Nat) : Int)) = ((n - 1 - i : Nat) : Int) := by omega
      have R4 : RuleAt K c (D0 :: A0) H4 r o hd := by
        obtain ⟨dx, v0, v1, v2, v3, e, h0, h1, h2, h3⟩ := R.ex
        exact ⟨dx, v0, v1, v2, v3, s4 _ _ e, Is.mono (Go.of s4) (Is.more nD h0), Is.mono (Go.of s4) (Is.more nD h1), Is.mono (Go.of s4) (Is.more nD h2), Is.mono (Go.of s4) (Is.more nD h3)⟩
      refine ⟨rfl, _, rfl, _, rfl, _, rfl, _, _, rfl, rfl, _, rfl, _, _, rfl, rfl, r, D0 :: A0, o, hd, _, _, rfl, R4, vr, hA4, by omega, by omega, by omega, by omega, fun t H5 s5 ht => ?_⟩
      rw [eL, eI] at ht
      have wl : ws.length = i := by rw [hws.len, List.length_map, List.length_map, List.length_range]
      refine ⟨ws, s5 _ _ eD, small1000 (by omega), fun b ob e => ?_, (Go.chg (by simp)).held ((Go.of s5).held hA4), ws ++ [.ref t], upd_same, ?_⟩
      · rw [upd_ne (ne_of_none e nD)]
        exact s5 _ _ (s4 _ _ e)
      · have g : Go (D0 :: A0) H5 (upd H5 D0 (.lst (ws ++ [.ref t]))) := Go.chg (by simp)
        rw [List.range_succ, List.map_append, List.map_append]
        exact iss_app (Iss.mono ((Go.of s5).trans g) hws) (DAll.cons (Is.mono g ht) DAll.nil)
    · rintro H4 ⟨s4, hA4, ws, eD, hws⟩
      rw [Int.toNat_natCast] at hws
      exact k D0 H4 s4 (is_own_lst eD nDA hws)
def sp__greatest_lead (K : PySem.W.Frag) (c : Addr) : Sp := fun vs H Q _ => ∃ (v u : V) (bs os : List (Int × Int)), vs = [v, u] ∧ LW.D K H v (.list (bs.map encQ)) ∧ LW.D K H u (.list (os.map encQ)) ∧
  (∀ q ∈ bs, smallQ q) ∧ (∀ q ∈ os, smallQ q) ∧ ∀ H', Same H H' → Q (.int (leadF bs os)) H'
theorem cal__greatest_lead (B : Bl mg) (DD : OwnDef K mg "_greatest_lead" s__greatest_lead) (C_is_less : Cal P w K mg base 1 "is_less" (sp_is_less K c) [])  : Cal P w K mg base 2 "_greatest_lead" (sp__greatest_lead K c) [] := by
  obtain ⟨f, fd, F, hm⟩ := DD.ex
  refine ⟨f, fd, ["borders", "other_borders"], [], F.ok sc__greatest_lead (fun vs H Q E h => ?len) (fun cdv A outer s H vs Q E hr h => ?run), hm, F.kp, F.binds (fun _ _ _ _ _ _ us hl => match us, hl with | [_, _], _ => rfl), .nil⟩
  case len => first | (obtain ⟨_, rfl, _⟩ := h; rfl) | (obtain ⟨_, _, rfl, _⟩ := h; rfl) | (obtain ⟨_, _, _, rfl, _⟩ := h; rfl) | (obtain ⟨_, _, _, _, rfl, _⟩ := h; rfl) | (obtain ⟨_, _, _, _, _, rfl, _⟩ := h; rfl) | (obtain ⟨_, _, _, _, _, _, rfl, _⟩ := h; rfl) | (obtain ⟨_, _, _, _, _, _, _, rfl, _⟩ := h; rfl) | (obtain ⟨_, _, _, _, _, _, _, _, rfl, _⟩ := h; rfl) | (obtain ⟨_, _, _, _, _, _, _, _, _, rfl, _⟩ := h; rfl) | (obtain ⟨_, _, _, _, _, _, _, _, _, _, rfl, _⟩ := h; rfl) | (obtain ⟨_, _, _, _, _, _, _, _, _, _, _, rfl, _⟩ := h; rfl) | (obtain ⟨_, _, _, _, _, _, _, _, _, _, _, _, rfl, _⟩ := h; rfl) | (obtain ⟨_, _, _, _, _, _, _, _, _, _, _, _, _, rfl, _⟩ := h; rfl) | (obtain ⟨_, _, _, _, _, _, _, _, _, _, _, _, _, _, rfl, _⟩ := h; rfl)
  case run =>
    obtain ⟨v, u, bs, os, rfl, hv, hu, sb, so, k⟩ := h
    refine ⟨_, (pss_cons (ps_asg2 pe_int (pg_name (i := 2) sc__greatest_lead.nd rfl (Or.inl rfl)) (pg_name (i := 3) sc__greatest_lead.nd rfl (Or.inl rfl)))
      (pss_cons (ps_for PassesOwn.never rfl (pi_enumS (by rfl) B.enumerate (pa_cons (pv 0) pa_nil) (pk_cons pe_int pk_nil)) (pg_tup (by rfl) (pgs_cons (pg_name (i := 4) sc__greatest_lead.nd rfl (Or.inl rfl)) (pgs_cons (pg_name (i := 5) sc__greatest_lead.nd rfl (Or.inl rfl)) pgs_nil))) (pss_cons (ps_while PassesOwn.never (PW.pt (pw_and (pt_cmpR op_lt (pv 3) (pe_callB call_len_seq (by rfl) B.len (by decide +kernel) (pa_cons (pv 1) pa_nil)) (nomark _)) (pw_and1 (pt_not (pt_val (pe_c C_is_less hr (by decide) (by rfl) (pa_cons (pv 5) (pa_cons (pe_ix ix_seq (pv 1) (pv 3) (fun _ _ => rfl)) pa_nil)))))))) (pss_one (ps_aug (i := 3) sc__greatest_lead.nd rfl (Or.inl rfl) pe_int ip_add)))
      (pss_one (ps_set (i := 2) sc__greatest_lead.nd rfl (Or.inl rfl) (pe_callB (call_max2 rfl) (by rfl) B.max (by decide +kernel) (pa_cons (pv 2) (pa_cons (pe_op op_sub (pv 4) (pv 3)) pa_nil)))))))
      (pss_one (ps_ret (pv 2))))), ?_⟩
    obtain ⟨a, ws, rfl, sq, all⟩ := hv.list
    obtain ⟨a2, ws2, rfl, sq2, all2⟩ := hu.list
    have wl : ws.length = bs.length := by rw [all.len, List.length_map]
    have wl2 : ws2.length = os.length := by rw [all2.len, List.length_map]
    refine ⟨_, rfl, a, ws, 1, rfl, rfl, by decide, by decide, sq, for_enumS (K := K) (a := a) (n := 1) (xs := ws) (fun i σ H2 => ∃ (p : Nat) (m : Int) (x4 x5 : Option V), σ = [some (.ref a), some (.ref a2), some (.int m), some (.int (p : Nat)), x4, x5] ∧ Same H H2 ∧ p ≤ os.length ∧ leadG os (bs.drop i) i m p = leadF bs os)
      ⟨0, 0, none, none, rfl, Same.refl _, Nat.zero_le _, rfl⟩ (fun i σ H2 _ ⟨_, _, _, _, _, s2, _⟩ => s2.seq sq) ?_ ?_⟩
    · rintro i x σ H2 T0 hx ⟨p, m, x4, x5, rfl, s2, hp, hl⟩ nT
      obtain ⟨d, hd, hxd⟩ := all.get' hx
      obtain ⟨q, hq, rfl⟩ := some_map hd
      have hil : i < bs.length := (List.getElem?_eq_some_iff.mp hq).1
      have sq' := sb q (List.mem_of_getElem? hq)
      refine ⟨T0, _, rfl, .inl (.inl upd_same), rfl, _, _, rfl, _, [], rfl, rfl, ?_⟩
      have s3 : Same H (upd H2 T0 (.tup [.int (1 + (i : Nat)), x])) := s2.trans (same_new nT)
      generalize (upd H2 T0 (.tup [.int (1 + (i : Nat)), x])) = H3 at s3 ⊢
      have hx3 := D.same s3 hxd
      have hu3 := D.same s3 hu
      have sq23 := s3.seq sq2
      refine while_by (fun σ H4 => ∃ p' : Nat, σ = [some (.ref a), some (.ref a2), some (.int m), some (.int (p' : Nat)), some (.int (1 + (i : Nat))), some x] ∧ H4 = H3 ∧ p' ≤ os.length ∧ advQ q os p' = advQ q os p)
        (fun σ _ => match σ with | [_, _, _, some (.int n), _, _] => os.length - n.toNat | _ => 0) ⟨p, rfl, rfl, hp, rfl⟩ ?_ ?_
      · rintro σ H4 ⟨p', rfl, rfl, hp', ha⟩
        refine ⟨_, rfl, _, rfl, a2, ws2, rfl, .inl sq23, _, _, rfl, rfl, _, rfl, ?_⟩
        rw [wl2]
        refine ite2 (fun e => ?_) (fun e => ?_)
        · have hp2 : p' < os.length := by have := of_decide_eq_true e; omega
          have ho : os[p']? = some os[p'] := List.getElem?_eq_getElem hp2
          refine ⟨_, rfl, _, rfl, _, rfl, ix_dl hu3 (by omega) (map_some (by rw [Int.toNat_natCast]; exact ho)) fun w hw => ?_⟩
          refine ⟨x, w, q, os[p'], rfl, hx3, hw, sq', so _ (List.getElem_mem hp2), _, rfl, ?_⟩
          by_cases l : ltQ q os[p']
          · rw [decide_eq_true l]
            have ea : advQ q os p = p' := by rw [← ha]; exact adv_off ho l
            refine ite2 (fun e => nomatch e) (fun _ => ?_)
            refine ⟨_, rfl, _, rfl, _, rfl, _, _, rfl, rfl, _, _, rfl, ?_⟩
            have hdr : bs.drop i = q :: bs.drop (i + 1) := by
              obtain ⟨h1, h2⟩ := List.getElem?_eq_some_iff.mp hq
              rw [List.drop_eq_getElem_cons
                    h1, h2]
            refine ⟨p', _, _, _, rfl, s3, hp', ?_⟩
            rw [← hl, hdr]
            show _ = leadG os (bs.drop (i + 1)) (i + 1) (max m (((i + 1 : Nat) : Int) - ((advQ q os p : Nat) : Int))) (advQ q os p)
            rw [ea]
            congr 1
            split <;> omega
          · rw [decide_eq_false l]
            refine ite2 (fun _ => ?_) (fun e => absurd rfl e)
            refine ⟨_, rfl, _, _, rfl, rfl, ⟨p' + 1, congrArg (fun t => [some (V.ref a), some (V.ref a2), some (V.int m), some (V.int t), some (V.int (1 + ((i : Nat) : Int))), some x]) (show ((p' : Nat) : Int) + 1 = ((p' + 1 : Nat) : Int) by omega), rfl, by omega, by rw [← ha]; exact (adv_on ho l).symm⟩, ?_⟩
            show os.length - (((p' : Nat) : Int) + 1).toNat < os.length - (((p' : Nat) : Int)).toNat
            omega
        · have hp2 : os.length ≤ p' := by
            rcases Nat.lt_or_ge p' os.length with z | z
            · exact absurd (decide_eq_true (by omega)) e
            · exact z
          have ea : advQ q os p = p' := by rw [← ha]; exact adv_end hp2
          refine ⟨_, rfl, _, rfl, _, rfl, _, _, rfl, rfl, _, _, rfl, ?_⟩
          have hdr : bs.drop i = q :: bs.drop (i + 1) := by
            obtain ⟨h1, h2⟩ := List.getElem?_eq_some_iff.mp hq
            rw [List.drop_eq_getElem_cons
                  h1, h2]
          refine ⟨p', _, _, _, rfl, s3, hp', ?_⟩
          rw [← hl, hdr]
          show _ = leadG os (bs.drop (i + 1)) (i + 1) (max m (((i + 1 : Nat) : Int) - ((advQ q os p : Nat) : Int))) (advQ q os p)
          rw [ea]
          congr 1
          split <;> omega
      · rintro σ H2 Q1 Q2 hQ ⟨v1, e1, v2, e2, p1, ys, e3, e4, i1, j1, e5, e6, k1, ek, h⟩
        refine ⟨v1, e1, v2, e2, p1, ys, e3, e4, i1, j1, e5, e6, k1, ek, ?_⟩
        cases k1 with
        | false => exact hQ _ _ h
        | true =>
          obtain ⟨x1, f1, x2, f2, x3, f3, hix⟩ := h
          refine ⟨x1, f1, x2, f2, x3, f3, rIx_mono hix ?_⟩
          rintro w3 H5 ⟨v', u', p', q', g1, g2, g3, g4, g5, k2, g6, g7⟩
          exact ⟨v', u', p', q', g1, g2, g3, g4, g5, k2, g6, hQ _ _ g7⟩
    · rintro σ H2 ⟨p, m, x4, x5, rfl, s2, hp, hl⟩
      rw [wl, List.drop_length] at hl
      have e : m = leadF bs os := hl
      subst e
      exact ⟨_, rfl, k _ s2⟩
def sp_most_apart (K : PySem.W.Frag) (c : Addr) : Sp := fun vs H Q _ => ∃ (r r2 : Addr) (A : List Addr) (o o2 : Int × Int) (hd hd2 : List (Int × Int)) (n : Nat), vs = [.ref r, .ref r2, .int (n : Nat)] ∧
  RuleAt K c A H r o hd ∧ VR o hd ∧ RuleAt K c A H r2 o2 hd2 ∧ VR o2 hd2 ∧ Hd A H ∧ n ≤ 200 ∧
  ∀ H', Same H H' → Q (.int (if n < 2 then 0 else leadF (bordersF (MQ o hd) n) (bordersF (MQ o2 hd2) n))) H'
theorem borders_small {o : Int × Int} {hd : List (Int × Int)} (vr : VR o hd) {n : Nat} (hn : n ≤ 1000) : ∀ q ∈ bordersF (MQ o hd) n, smallQ q := by
  intro q hq
  obtain ⟨k, hk, rfl⟩ := List.mem_map.mp hq
  have := List.mem_range.mp hk
  exact mid_ratio (vr.mid (by omega) (by omega)) (vr.mid (by omega) (by omega))
theorem okf_most_apart (B : Bl mg) (DD : OwnDef K mg "most_apart" s_most_apart) (C__check_rules : Cal P w K mg base 2 "_check_rules" (sp__check_rules K c) []) (C_check_count : Cal P w K mg base 3 "check_count" (sp_check_count K c) []) (C_check_at_most : Cal P w K mg base 1 "check_at_most" (sp_check_at_most K c) []) (C__greatest_lead : Cal P w K mg base 2 "_greatest_lead" (sp__greatest_lead K c) []) (C__borders : Cal P w K mg base 5 "_borders" (sp__borders K c) []) (TM : TxM mg) : ∃ (f : Addr) (fd : FuncData), Fun K "most_apart" "most_apart" s_most_apart f fd ∧ mg "most_apart" = some (.ref f) ∧
    FnOk P w K mg base CX0 6 f fd ["rule", "other_rule", "items"] (sp_most_apart K c) := by
  obtain ⟨f, fd, F, hm⟩ := DD.ex
  refine ⟨f, fd, F, hm, F.ok sc_most_apart (fun vs H Q E h => ?len) (fun cdv A outer s H vs Q E hr h => ?run)⟩
  case len => obtain ⟨_, _, _, _, _, _, _, _, rfl, _⟩ := h; rfl
  case run =>
    obtain ⟨r, r2, A0, o, o2, hd, hd2, n, rfl, R, vr, R2, vr2, hA, hn, k⟩ := h
    refine ⟨_, (pss_cons (ps_expr (pe_c C__check_rules hr (by decide) (by rfl) (pa_cons (pv 0) (pa_cons (pv 1) pa_nil))))
      (pss_cons (ps_expr (pe_c C_check_count hr (by decide) (by rfl) (pa_cons (pv 2) pa_nil)))
      (pss_cons (ps_expr (pe_c C_check_at_most hr (by decide) (by rfl) (pa_cons (pv 2) (pa_cons (pe_gint (by rfl) TM.g_MOST_COMPARED) pa_nil))))
      (pss_cons (ps_if (pt_cmpR op_lt (pv 2) pe_int (nomark _)) (pss_one (ps_ret pe_int)) pss_nil)
      (pss_one (ps_ret (pe_c C__greatest_lead hr (by decide) (by rfl) (pa_cons (pe_c C__borders hr (by decide) (by rfl) (pa_cons (pv 0) (pa_cons (pv 2) pa_nil))) (pa_cons (pe_c C__borders hr (by decide) (by rfl) (pa_cons (pv 1) (pa_cons (pv 2) pa_nil))) pa_nil))))))))), ?_⟩
    obtain ⟨dx, v0, v1, v2, v3, e, _⟩ := R.ex
    obtain ⟨dx2, w0, w1, w2, w3, e2, _⟩ := R2.ex
    refine ⟨_, rfl, _, rfl, r, dx, r2, dx2, _, _, rfl, e, e2, ?_⟩
    refine ⟨_, rfl, _, rfl, by omega, ?_⟩
    refine ⟨_, rfl, _, _, rfl, by omega, ?_⟩
    refine ⟨_, rfl, _, _, rfl, rfl, _, rfl, ite2 (fun c1 => ?_) (fun c1 => ?_)⟩
    · have h2 : n < 2 := by have := of_decide_eq_true c1; omega
      rw [if_pos h2] at k
      exact k _ (Same.refl _)
    · have h2 : ¬ n < 2 := fun z => c1 (decide_eq_true (by omega))
      rw [if_neg h2] at k
      refine ⟨_, rfl, _, rfl, r, A0, o, hd, n, rfl, R, vr, hA, by omega, fun l1 H1 s1 h1 => ?_⟩
      have hA1 := (Go.of (A := A0) s1).held hA
      refine ⟨_, rfl, _, rfl, r2, A0, o2, hd2, n, rfl, R2.same s1, vr2, hA1, by omega, fun l2 H2 s2 h2 => ?_⟩
      exact ⟨_, _, _, _, rfl, D.same s2 h1.full, h2.full, borders_small vr (by omega), borders_small vr2 (by omega), fun H3 s3 => k _ ((s1.trans s2).trans s3)⟩
theorem cal_most_apart (B : Bl mg) (DD : OwnDef K mg "most_apart" s_most_apart) (C__check_rules : Cal P w K mg base 2 "_check_rules" (sp__check_rules K c) []) (C_check_count : Cal P w K mg base 3 "check_count" (sp_check_count K c) []) (C_check_at_most : Cal P w K mg base 1 "check_at_most" (sp_check_at_most K c) []) (C__greatest_lead : Cal P w K mg base 2 "_greatest_lead" (sp__greatest_lead K c) []) (C__borders : Cal P w K mg base 5 "_borders" (sp__borders K c) []) (TM : TxM mg) : Cal P w K mg base 6 "most_apart" (sp_most_apart K c) [] := by
  obtain ⟨f, fd, F, hm, ok⟩ := okf_most_apart B DD C__check_rules C_check_count C_check_at_most C__greatest_lead C__borders TM
  exact ⟨f, fd, _, [], ok, hm, F.kp, F.binds (fun _ _ _ _ _ _ us hl => match us, hl with | [_, _, _], _ => rfl), .nil⟩
end
section
variable {P : Program} {w : World} {K : PySem.W.Frag} {mg : Str → Option Value} {base : Heap} {c : Addr}
theorem calP_most_apart (B : Bl mg) (DD : OwnDef K mg "most_apart" s_most_apart) (C__check_rules : Cal P w K mg base 2 "_check_rules" (sp__check_rules K c) []) (C_check_count : Cal P w K mg base 3 "check_count" (sp_check_count K c) []) (C_check_at_most : Cal P w K mg base 1 "check_at_most" (sp_check_at_most K c) []) (C__greatest_lead : Cal P w K mg base 2 "_greatest_lead" (sp__greatest_lead K c) []) (C__borders : Cal P w K mg base 5 "_borders" (sp__borders K c) []) (TM : TxM mg) : CalP P w K mg base 6 "most_apart" ["items", "rule", "other_rule"] [1, 2, 0] (sp_most_apart K c) := by
  obtain ⟨f, fd, F, hm, ok⟩ := okf_most_apart B DD C__check_rules C_check_count C_check_at_most C__greatest_lead C__borders TM
  refine ⟨f, fd, _, ok, hm, F.kp, ?_⟩
  obtain ⟨oc, od, kV, doc, pm, an, cdv, ct, osl,
        rfl, lk, hcd⟩ := F.ex
  intro s ws _ _ hl
  match ws, hl with
  | [x, y, z], _ => exact .of_eq rfl
end

/-! ### rules compared with == -/
theorem eqv_all : ∀ l l' : List (Int × Int), PyData.eqvAll (l.map encQ) (l'.map encQ) = decide (l = l')
  | [], [] => by
        simp [PyData.eqvAll]
  | [], _ :: _ => by
        simp [PyData.eqvAll]
  | _ :: _, [] => by
        simp [PyData.eqvAll]
  | (a, b) :: l, (a', b') :: l' => by
    have ih := eqv_all l l'
    rw [List.map_cons, List.map_cons, PyData.eqvAll, ih]
    have e : PyData.eqv (encQ (a, b)) (encQ (a', b')) = decide ((a, b) = (a', b')) := by
      simp only [encQ, PyData.eqv, PyData.eqvAll, Bool.and_true]
      rw [Bool.eq_iff_iff]
      simp
    rw [e, Bool.eq_iff_iff]
    simp
theorem eqv_one (p q : Int × Int) : PyData.eqv (encQ p) (encQ q) = decide (p = q) := by
  have := eqv_all [p] [q]
  simp only [List.map_cons, List.map_nil, PyData.eqvAll, Bool.and_true] at this
  rw [this, Bool.eq_iff_iff]
  simp
theorem shaped_Q (p : Int × Int) : SeqAt.shaped (encQ p) = true := by
  simp [SeqAt.shaped, encQ, PyData.depth, PyData.depthAll, PyData.canLay0, PyData.canLayAll0]
theorem shaped_Qs : ∀ l : List (Int × Int), PyData.canLayAll0 (l.map encQ) = true ∧ PyData.depthAll (l.map encQ) ≤ 1
  | [] => by simp [PyData.canLayAll0, PyData.depthAll]
  | p :: l => by
    obtain ⟨a, b⟩ := shaped_Qs l
    refine ⟨?_, ?_⟩
    · rw [List.map_cons, PyData.canLayAll0, a]
      simp [encQ, PyData.canLay0, PyData.canLayAll0]
    · rw [List.map_cons, PyData.depthAll]
      have : (encQ p).depth = 1 := by simp [encQ, PyData.depth, PyData.depthAll]
      omega
section
variable {P : Program} {w : World} {K : PySem.W.Frag} {mg : Str → Option Value} {base : Heap} {c : Addr}
def startQ (o : Int × Int) (hd : List (Int × Int)) : List (Int × Int) := (List.range 8).map fun i => markQ o hd ((i : Nat) : Int)
def sp_Rule_eq (K : PySem.W.Frag) (c : Addr) : Sp := fun vs H Q _ => ∃ (r r2 : Addr) (A : List Addr) (o o2 : Int × Int) (hd hd2 : List (Int × Int)), vs = [.ref r, .ref r2] ∧ RuleAt K c A H r o hd ∧ RuleAt K c A H r2 o2 hd2 ∧
  Q (.bl (decide (o = o2) && decide (startQ o hd = startQ o2 hd2))) H
theorem ok_Rule_eq {f : Addr} {fd : FuncData} (B : Bl mg) (T : Tx K mg c) (CI : ClsI K c) (F : Fun K "__eq__" "Rule.__eq__" s_Rule___eq__ f fd) : FnOk P w K mg base CX0 1 f fd ["self", "other"] (sp_Rule_eq K c) := by
  refine F.ok sc_Rule___eq__ (fun vs H Q E h => ?_) (fun cdv A outer s H vs Q E hr h => ?_)
  · obtain ⟨_, _, _, _, _, _, _, rfl, _⟩ := h; rfl
  · obtain ⟨r, r2, A0, o, o2, hd, hd2, rfl, R, R2, k⟩ := h
    refine ⟨_, (pss_one (ps_ret (pe_and (pe_callB call_isi (by rfl) B.isinstance (by decide +kernel) (pa_cons (pv 1) (pa_cons (pe_glob (v := .ref c) (by rfl) T.g_Rule rfl) pa_nil))) (pe_and (pe_cmpR (op_eqD hr.units) (pe_fld (pv 0) rfl) (pe_fld (pv 1) rfl) (nomark _)) (pe_one (pe_cmpR (op_eqD hr.units) (pe_fld (pv 0) rfl) (pe_fld (pv 1) rfl) (nomark _))))))), ?_⟩
    obtain ⟨dx, v0, v1, v2, v3, e, h0, h1, h2, h3⟩ := R.ex
    obtain ⟨dx2, w0, w1, w2, w3, e2, g0, g1, g2, g3⟩ := R2.ex
    have kt : PySem.W.kitOne K (.ref c) (.ref c) = some true := by
      unfold PySem.W.kitOne
      rw [if_pos (by simp)]
    refine ⟨_, rfl, _, _, _, _, _, rfl, .own c, .base (.ins e2 T.cl CI.ca CI.sp CI.tk CI.mr), kt, _, rfl, ite2 (fun _ => ?_) (fun z => absurd rfl z)⟩
    refine ⟨_, rfl, r, c, dx, _, _, rfl, e, T.cl, T.nO, lkO _ _, ?_⟩
    refine ⟨_, rfl, r2, c, dx2, _, _, rfl, e2, T.cl, T.nO, lkO _ _, ?_⟩
    refine ⟨_, _, h0.full.dp rfl, g0.full.dp rfl, shaped_Q o, shaped_Q o2, _, rfl, ?_⟩
    rw [eqv_one]
    refine ite2 (fun z => ?_) (fun z => ?_)
    · rw [of_decide_eq_true z] at k
      rw [decide_eq_true rfl, Bool.true_and] at k
      refine ⟨_, rfl, r, c, dx, _, _, rfl, e, T.cl, T.nS, lkS _ _ _ _ _ _ _, ?_⟩
      refine ⟨_, rfl, r2, c, dx2, _, _, rfl, e2, T.cl, T.nS, lkS _ _ _ _ _ _ _, ?_⟩
      have sh : ∀ o hd, SeqAt.shaped (.tuple ((List.range 8).map fun i => encQ (markQ o hd ((i : Nat) : Int)))) = true := fun o hd => by
        have m : ((List.range 8).map fun i => encQ (markQ o hd ((i : Nat) : Int))) = (startQ o hd).map encQ := by unfold startQ; rw [List.map_map]; rfl
        rw [m]
        obtain ⟨a, b⟩ := shaped_Qs (startQ o hd)
        unfold SeqAt.shaped
        simp only [PyData.canLay0, PyData.depth, a, Bool.true_and]
        exact decide_eq_true
              (by omega)
      have nd : ∀ o hd, (PyData.tuple ((List.range 8).map fun i => encQ (markQ o hd ((i : Nat) : Int)))).hasDict = false := fun o hd => rfl
      refine ⟨_, _, h2.full.dp (nd o hd), g2.full.dp (nd o2 hd2), sh o hd, sh o2 hd2, ?_⟩
      have m : ∀ o hd, ((List.range 8).map fun i => encQ (markQ o hd ((i : Nat) : Int))) = (startQ o hd).map encQ := fun o hd => by unfold startQ; rw [List.map_map]; rfl
      have ev : PyData.eqv (.tuple ((List.range 8).map fun i => encQ (markQ o hd ((i : Nat) : Int)))) (.tuple ((List.range 8).map fun i => encQ (markQ o2 hd2 ((i : Nat) : Int)))) = decide (startQ o hd = startQ o2 hd2) := by
        rw [m, m, PyData.eqv, eqv_all]
      rw [ev]
      rw [of_decide_eq_true z]
      exact k
    · have z' : decide (o = o2) = false := (Bool.not_eq_true _).mp z
      rw [z', Bool.false_and] at k
      exact k
end

end LW

set_option Elab.async false
set_option linter.all false
set_option maxRecDepth 100000
set_option maxHeartbeats 4000100
set_option exponentiation.threshold 9000
namespace LW
open L2 PySem.Spec PyProof.Rows PySem
theorem low_mul {t b : Int} (h : 0 < b) : ∃ g : Int, 0 < g ∧ (lowQ t b).1 * g = t ∧ (lowQ t b).2 * g = b := by
  refine ⟨((Nat.gcd t.natAbs b.natAbs : Nat) : Int), ?_, ?_, ?_⟩
  · have := gcd_pos (t := t) h; omega
  · exact Int.ediv_mul_cancel (Int.ofNat_dvd_left.mpr (Nat.gcd_dvd_left _ _))
  · exact Int.ediv_mul_cancel (Int.ofNat_dvd_left.mpr (Nat.gcd_dvd_right _ _))
theorem low_pos {t b : Int} (h : 0 < b) : 0 < (lowQ t b).2 := by
  obtain ⟨g, hg, _, e2⟩ := low_mul (t := t) h
  rcases Int.lt_trichotomy (lowQ t b).2 0 with z | z | z
  · have := Int.mul_neg_of_neg_of_pos z hg; omega
  · rw [z] at e2; omega
  · exact z
theorem low_nn {t b : Int} (ht : 0 ≤ t) : 0 ≤ (lowQ t b).1 := Int.ediv_nonneg ht (by omega)
theorem low_le1 {t b : Int} (ht : 0 ≤ t) : (lowQ t b).1 ≤ t := Int.ediv_le_self _ ht
theorem low_le2 {t b : Int} (hb : 0 ≤ b) : (lowQ t b).2 ≤ b := Int.ediv_le_self _ hb
theorem low_low {t b : Int} (ht : 0 ≤ t) (h : 0 < b) : lowQ (lowQ t b).1 (lowQ t b).2 = lowQ t b := by
  have hg := gcd_pos (t := t) h
  have e1 : (lowQ t b).1.natAbs = t.natAbs / Nat.gcd t.natAbs b.natAbs := by
    show (t / ((Nat.gcd t.natAbs b.natAbs : Nat) : Int)).natAbs = _
    obtain ⟨n, rfl⟩ := Int.eq_ofNat_of_zero_le ht
    rw [Int.natAbs_natCast, ← Int.natCast_ediv, Int.natAbs_natCast]
  have e2 : (lowQ t b).2.natAbs = b.natAbs / Nat.gcd t.natAbs b.natAbs := by
    show (b / ((Nat.gcd t.natAbs b.natAbs : Nat) : Int)).natAbs = _
    obtain ⟨n, rfl⟩ := Int.eq_ofNat_of_zero_le (Int.le_of_lt h)
    rw [Int.natAbs_natCast, ← Int.natCast_ediv, Int.natAbs_natCast]
  have co : Nat.gcd (lowQ t b).1.natAbs (lowQ t b).2.natAbs = 1 := by
    rw [e1, e2]
    exact Nat.gcd_div_gcd_div_gcd_of_pos_right (by omega)
  show ((lowQ t b).1 / ((Nat.gcd (lowQ t b).1.natAbs (lowQ t b).2.natAbs : Nat) : Int), (lowQ t b).2 / ((Nat.gcd (lowQ t b).1.natAbs (lowQ t b).2.natAbs : Nat) : Int)) = _
  rw [co]
  show ((lowQ t b).1 / 1, (lowQ t b).2 / 1) = _
  rw [Int.ediv_one, Int.ediv_one]
theorem low_lt {s t b : Int} (hb : 0 < b) (h : s < t) : ltQ (lowQ s b) (lowQ t b) := by
  obtain ⟨g, hg, a1, a2⟩ := low_mul (t := s) hb
  obtain ⟨f, hf, b1, b2⟩ := low_mul (t := t) hb
  show (lowQ s b).1 * (lowQ t b).2 < (lowQ t b).1 * (lowQ s b).2
  refine Int.lt_of_mul_lt_mul_right (a := g * f) ?_ (Int.le_of_lt (Int.mul_pos hg hf))
  have e1 : (lowQ s b).1 * (lowQ t b).2 * (g * f) = s * b := by
    calc (lowQ s b).1 * (lowQ t b).2 * (g * f) = ((lowQ s b).1 * g) * ((lowQ t b).2 * f) := by
          rw [Int.mul_assoc, Int.mul_assoc, Int.mul_left_comm (lowQ t b).2 g f]
      _ = s * b := by rw [a1, b2]
  have e2 : (lowQ t b).1 * (lowQ s b).2 * (g * f) = t * b := by
    calc (lowQ t b).1 * (lowQ s b).2 * (g * f) = ((lowQ t b).1 * f) * ((lowQ s b).2 * g) := by
          rw [Int.mul_assoc, Int.mul_assoc, Int.mul_comm g f, Int.mul_left_comm (lowQ s b).2 f g]
      _ = t * b := by rw [b1, a2]
  rw [e1, e2]
  exact Int.mul_lt_mul_of_pos_right h hb
/-- the bound for the last mark is the same for the offset in lowest terms -/
theorem plain_low {m o : Int × Int} {n : Int} (ho : 0 < o.2) (h : ltQ m (plainQ o n)) : ltQ m (plainQ (lowQ o.1 o.2) n) := by
  obtain ⟨g, hg, a1, a2⟩ := low_mul (t := o.1) ho
  have h' : m.1 * o.2 < (o.1 + n * o.2) * m.2 := h
  show m.1 * (lowQ o.1 o.2).2 < ((lowQ o.1 o.2).1 + n * (lowQ o.1 o.2).2) * m.2
  refine Int.lt_of_mul_lt_mul_right (a := g) ?_ (Int.le_of_lt hg)
  have e1 : m.1 * (lowQ o.1 o.2).2 * g = m.1 * o.2 := by rw [Int.mul_assoc, a2]
  have e2 : ((lowQ o.1 o.2).1 + n * (lowQ o.1 o.2).2) * m.2 * g = (o.1 + n * o.2) * m.2 := by
    have : ((lowQ o.1 o.2).1 + n * (lowQ o.1 o.2).2) * g = o.1 + n * o.2 := by rw [Int.add_mul, Int.mul_assoc, a1, a2]
    rw [Int.mul_assoc, Int.mul_comm m.2 g, ← Int.mul_assoc, this]
  rw [e1, e2]
  exact h'
theorem low_le {o : Int × Int} (ho : 0 < o.2) (h : o.1 ≤ o.2) : (lowQ o.1 o.2).1 ≤ (lowQ o.1 o.2).2 := by
  obtain ⟨g, hg, a1, a2⟩ := low_mul (t := o.1) ho
  exact Int.le_of_mul_le_mul_right (by rw [a1, a2]; exact h) hg
end LW

set_option Elab.async false
set_option linter.all false
set_option maxRecDepth 100000
set_option maxHeartbeats 4000100
set_option exponentiation.threshold 9000
namespace LW
open L2 PySem.Spec PyProof.Rows PySem
abbrev s__law_pool : Stmt := topS 52
theorem sc__law_pool : FnScope ["_law_script", "_law_at", "_law_mixed", "_law_cell", "_law_own"] ["_law_script", "_law_at"] (defScope s__law_pool) := ⟨rfl, rfl, rfl, by decide +kernel, rfl, by decide +kernel, by decide +kernel⟩
abbrev s__law_draw : Stmt := topS 53
theorem sc__law_draw : FnScope ["_law_pool_here", "_law_many", "_law_seed", "_law_digit"] ["_law_pool_here", "_law_many"] (defScope s__law_draw) := ⟨rfl, rfl, rfl, by decide +kernel, rfl, by decide +kernel, by decide +kernel⟩
abbrev s__law_pick : Stmt := topS 54
theorem sc__law_pick : FnScope ["_law_pool_here", "_law_things"] ["_law_pool_here", "_law_things"] (defScope s__law_pick) := ⟨rfl, rfl, rfl, by decide +kernel, rfl, by decide +kernel, by decide +kernel⟩
local macro_rules | `(tactic| walk_at "len") => `(tactic| skip)
/-! ### the draws -/
/-- the pool: a list of three ints at a, changed by each draw -/
structure PoolAt (H : Hp) (a : Addr) : Prop where
  ex : ∃ x y z : Int, H a = some (.lst [.int x, .int y, .int z]) ∧ 0 ≤ x ∧ x < 2147483629 ∧ 0 ≤ y ∧ 0 ≤ z
theorem PoolAt.ne {H : Hp} {a : Addr} (t : PoolAt H a) : H a ≠ none := by
  obtain ⟨x, y, z, e, _⟩ := t.ex
  rw [e]; exact fun z => nomatch z
theorem PoolAt.keep {H H' : Hp} {a : Addr} (t : PoolAt H a) (s : Same H H') : PoolAt H' a := by
  obtain ⟨x, y, z, e, r⟩ := t.ex
  exact ⟨x, y, z, s _ _ e, r⟩
section
variable {P : Program} {w : World} {K : PySem.W.Frag} {mg : Str → Option Value} {base : Heap} {c : Addr}
/-- _law_pool(script, k) -/
def sp__law_pool (K : PySem.W.Frag) (c : Addr) : Sp := fun vs H Q _ => ∃ (a : Addr) (ns : List Int) (k : Int), vs = [.ref a, .int k] ∧ SqL K H a (ns.map V.int) ∧ ns.length ≤ 1000 ∧ 0 ≤ k ∧ k < 1000 ∧
  ∀ p H', Same H H' → H p = none → PoolAt H' p → Q (.ref p) H'
theorem cal__law_pool (B : Bl mg) (DD : OwnDef K mg "_law_pool" s__law_pool)   : Cal P w K mg base 1 "_law_pool" (sp__law_pool K c) [] := by
  obtain ⟨f, fd, F, hm⟩ := DD.ex
  refine ⟨f, fd, ["_law_script", "_law_at"], [], F.ok sc__law_pool (fun vs H Q E h => ?len) (fun cdv A outer s H vs Q E hr h => ?run), hm, F.kp, F.binds (fun _ _ _ _ _ _ us hl => match us, hl with | [_, _], _ => rfl), .nil⟩
  case len => first | (obtain ⟨_, rfl, _⟩ := h; rfl) | (obtain ⟨_, _, rfl, _⟩ := h; rfl) | (obtain ⟨_, _, _, rfl, _⟩ := h; rfl) | (obtain ⟨_, _, _, _, rfl, _⟩ := h; rfl) | (obtain ⟨_, _, _, _, _, rfl, _⟩ := h; rfl) | (obtain ⟨_, _, _, _, _, _, rfl, _⟩ := h; rfl) | (obtain ⟨_, _, _, _, _, _, _, rfl, _⟩ := h; rfl) | (obtain ⟨_, _, _, _, _, _, _, _, rfl, _⟩ := h; rfl) | (obtain ⟨_, _, _, _, _, _, _, _, _, rfl, _⟩ := h; rfl) | (obtain ⟨_, _, _, _, _, _, _, _, _, _, rfl, _⟩ := h; rfl) | (obtain ⟨_, _, _, _, _, _, _, _, _, _, _, rfl, _⟩ := h; rfl) | (obtain ⟨_, _, _, _, _, _, _, _, _, _, _, _, rfl, _⟩ := h; rfl) | (obtain ⟨_, _, _, _, _, _, _, _, _, _, _, _, _, rfl, _⟩ := h; rfl) | (obtain ⟨_, _, _, _, _, _, _, _, _, _, _, _, _, _, rfl, _⟩ := h; rfl)
  case run =>
    obtain ⟨a, ns, k, rfl, hS, hn, hk, hk2, q⟩ := h
    refine ⟨_, (pss_cons (ps_set (i := 2) sc__law_pool.nd rfl (Or.inl rfl) (pe_op op_add pe_int (pe_op op_mul pe_int (pv 1))))
      (pss_cons (ps_for PassesOwn.never rfl (pi_list (pe_slice sl_list (pv 0) po_none (po_some pe_int))) (pg_name (i := 3) sc__law_pool.nd rfl (Or.inl rfl)) (pss_one (ps_set (i := 2) sc__law_pool.nd rfl (Or.inl rfl) (pe_op op_mod (pe_callTy call_int1 (by rfl) B.int (by decide +kernel) (pa_cons (pe_op op_add (pe_op op_mul (pv 2) pe_int) (pe_op op_mod (pe_callTy call_int1 (by rfl) B.int (by decide +kernel) (pa_cons (pv 3) pa_nil)) pe_int)) pa_nil)) pe_int))))
      (pss_cons (ps_set (i := 4) sc__law_pool.nd rfl (Or.inl rfl) (pe_ifExp (pt_cmpR op_lt (pv 1) (pe_callB call_len_seq (by rfl) B.len (by decide +kernel) (pa_cons (pv 0) pa_nil)) (nomark _)) (pe_callTy call_int1 (by rfl) B.int (by decide +kernel) (pa_cons (pe_ix ix_seq (pv 0) (pv 1) (fun _ _ => rfl)) pa_nil)) (pe_op op_add (pe_op op_mul pe_int (pv 1)) pe_int)))
      (pss_one (ps_ret (pe_lst (pa_cons (pe_op op_mod (pe_callTy call_int1 (by rfl) B.int (by decide +kernel) (pa_cons (pe_op op_add (pv 2) (pv 4)) pa_nil)) pe_int) (pa_cons (pe_ifExp (PW.pt (pw_or (pt_cmpR op_lt (pv 4) pe_int (nomark _)) (pw_or1 (pt_cmpR op_ge (pv 4) (pe_op op_pow pe_int pe_int) (nomark _))))) (pe_callB call_abs (by rfl) B.abs (by decide +kernel) (pa_cons (pv 4) pa_nil)) pe_int) (pa_cons pe_int pa_nil))))))))), ?_⟩
    refine ⟨_, rfl, _, _, rfl, rfl, .inl ⟨by decide, by decide⟩, _, _, rfl, rfl, ?_⟩
    refine ⟨_, rfl, _, rfl, a, _, rfl, hS, fun l nl => ?_⟩
    have eC : ∃ ms : List Int, cutV (ns.map V.int) none (some 20) = ms.map V.int := ⟨(ns.drop (HT.sIx (ns.map V.int).length 0 none)).take (HT.sIx (ns.map V.int).length (ns.map V.int).length (some 20) - HT.sIx (ns.map V.int).length 0 none), by
      unfold cutV
      rw [List.map_take, List.map_drop]⟩
    obtain ⟨ms, eC⟩ := eC
    rw [eC]
    have s1 : Same H (upd H l (.lst (ms.map V.int))) := same_new nl
    refine ⟨l, rfl, ⟨_, .inl (.inl upd_same)⟩, for_list (K := K) (a := l) (xs := ms.map V.int) (fun i σ H2 => ∃ (m : Int) (e3 : Option V), σ = [some (.ref a), some (.int k), some (.int m), e3, none] ∧ H2 = upd H l (.lst (ms.map V.int)))
      ⟨_, none, rfl, rfl⟩ (fun i σ H2 _ ⟨_, _, _, e⟩ => by rw [e]; exact .inl (.inl upd_same)) ?_ ?_⟩
    · rintro i y σ H2 hi ⟨m, e3, rfl, rfl⟩
      obtain ⟨z, _, rfl⟩ := some_map hi
      refine ⟨_, rfl, _, _, rfl, rfl, .inr ⟨by decide, by decide⟩, _, rfl, .inl ⟨_, rfl, _, _, rfl, rfl, (by show (0 : Int) < 2147483629; decide), _, _, rfl, rfl, .inl ⟨_, rfl, _, _, rfl, rfl, (by show (0 : Int) < 2147483629; decide), ?_⟩⟩⟩
      exact ⟨_, _, rfl, rfl⟩
    · rintro σ H2 ⟨m, e3, rfl, rfl⟩
      have hS1 : SqL K (upd H l (.lst (ms.map V.int))) a (ns.map V.int) := s1.seq hS
      dsimp only [tSeq, tAsg]
      refine via (t := tIf _ _ _) (fun v H' => H' = upd H l (.lst (ms.map V.int)) ∧ ∃ own : Int, v = .int own) (fun Q' k' => ?_) ?_
      · refine ⟨_, rfl, _, rfl, a, _, rfl, .inl hS1, _, _, rfl, rfl, _, rfl, ?_⟩
        refine ite2 (fun e => ?_) (fun e => ?_)
        · have e' : k < ((ns.map V.int).length : Int) := of_decide_eq_true e
          rw [List.length_map] at e'
          have hk3 : k.toNat < ns.length := by omega
          refine ⟨_, rfl, _, rfl, rd_raw (w := V.int ns[k.toNat]) hS1 hk (map_some (List.getElem?_eq_getElem hk3)) ?_⟩
          exact .inl ⟨_, rfl, k' _ _ ⟨rfl, _, rfl⟩⟩
        · exact ⟨_, rfl, _, _, rfl, rfl, .inl ⟨by decide, by decide⟩, _, _, rfl, rfl, k' _ _ ⟨rfl, _, rfl⟩⟩
      rintro v H3 ⟨rfl, own, rfl⟩
      dsimp only [gName, tRet, tLst, tCons, tNil]
      refine ⟨_, rfl, _, rfl, _, _, rfl, rfl, .inl ⟨_, rfl, _, _, rfl, rfl, (by show (0 : Int) < 2147483629; decide), ?_⟩⟩
      refine via (t := tIf _ _ _) (fun v H' => H' = upd H l (.lst (ms.map V.int)) ∧ ∃ x : Int, v = .int x ∧ 0 ≤ x) (fun Q' k' => ?_) ?_
      · refine ⟨_, rfl, _, _, rfl, rfl, _, rfl, ite2 (fun e => ?_) (fun e => ?_)⟩
        · refine iteT ?_
          refine ⟨_, rfl, own, rfl, k' _ _ ⟨rfl, _, rfl, ?_⟩⟩
          have e' : own < 0 := of_decide_eq_true e
          rw [if_pos e']
          omega
        · have e0 : ¬ own < 0 := fun z => e (decide_eq_true z)
          refine ⟨_, rfl, _, _, rfl, rfl, (by refine ⟨by decide, by decide, by decide⟩), _, _, rfl, rfl, _, rfl, ite2 (fun e2 => ?_) (fun e2 => ?_)⟩
          · refine ⟨_, rfl, own, rfl, k' _ _ ⟨rfl, _, rfl, ?_⟩⟩
            rw [if_neg e0]
            omega
          · exact k' _ _ ⟨rfl, _, rfl, Int.le_refl 0⟩
      rintro v H3 ⟨rfl, x, rfl, hx⟩
      refine ⟨by show 3 ≤ sizeLine; decide, fun p np => ?_⟩
      refine q p _ (s1.trans (same_new np)) (s1.free np) ⟨_, x, 0, upd_same, ?_, ?_, hx, Int.le_refl 0⟩
      · exact Int.emod_nonneg _ (by decide)
      · exact Int.emod_lt_of_pos _ (by decide)
/-- _law_draw(pool, many) -/
def sp__law_draw (K : PySem.W.Frag) (c : Addr) : Sp := fun vs H Q _ => ∃ (a : Addr) (m : Int), vs = [.ref a, .int m] ∧ PoolAt H a ∧ 0 < m ∧ m < 1073741824 ∧
  ∀ r H', 0 ≤ r → r < m → (∀ A, a ∈ A → Go A H H') → PoolAt H' a → Q (.int r) H'
theorem cal__law_draw (B : Bl mg) (DD : OwnDef K mg "_law_draw" s__law_draw)   : Cal P w K mg base 1 "_law_draw" (sp__law_draw K c) [] := by
  obtain ⟨f, fd, F, hm⟩ := DD.ex
  refine ⟨f, fd, ["_law_pool_here", "_law_many"], [], F.ok sc__law_draw (fun vs H Q E h => ?len) (fun cdv A outer s H vs Q E hr h => ?run), hm, F.kp, F.binds (fun _ _ _ _ _ _ us hl => match us, hl with | [_, _], _ => rfl), .nil⟩
  case len => first | (obtain ⟨_, rfl, _⟩ := h; rfl) | (obtain ⟨_, _, rfl, _⟩ := h; rfl) | (obtain ⟨_, _, _, rfl, _⟩ := h; rfl) | (obtain ⟨_, _, _, _, rfl, _⟩ := h; rfl) | (obtain ⟨_, _, _, _, _, rfl, _⟩ := h; rfl) | (obtain ⟨_, _, _, _, _, _, rfl, _⟩ := h; rfl) | (obtain ⟨_, _, _, _, _, _, _, rfl, _⟩ := h; rfl) | (obtain ⟨_, _, _, _, _, _, _, _, rfl, _⟩ := h; rfl) | (obtain ⟨_, _, _, _, _, _, _, _, _, rfl, _⟩ := h; rfl) | (obtain ⟨_, _, _, _, _, _, _, _, _, _, rfl, _⟩ := h; rfl) | (obtain ⟨_, _, _, _, _, _, _, _, _, _, _, rfl, _⟩ := h; rfl) | (obtain ⟨_, _, _, _, _, _, _, _, _, _, _, _, rfl, _⟩ := h; rfl) | (obtain ⟨_, _, _, _, _, _, _, _, _, _, _, _, _, rfl, _⟩ := h; rfl) | (obtain ⟨_, _, _, _, _, _, _, _, _, _, _, _, _, _, rfl, _⟩ := h; rfl)
  case run =>
    obtain ⟨a, m, rfl, tk, hm0, hm1, q⟩ := h
    refine ⟨_, (pss_cons (ps_asg (pe_op op_add (pe_ix ix_seq (pv 0) pe_int (fun _ _ => rfl)) pe_int) (pg_sub (pv 0) pe_int set_list))
      (pss_cons (ps_set (i := 2) sc__law_draw.nd rfl (Or.inl rfl) (pe_callTy call_int1 (by rfl) B.int (by decide +kernel) (pa_cons (pe_ix ix_seq (pv 0) pe_int (fun _ _ => rfl)) pa_nil)))
      (pss_cons (ps_asg (pe_op op_mod (pe_callTy call_int1 (by rfl) B.int (by decide +kernel) (pa_cons (pe_op op_add (pe_op op_add (pe_op op_mulW (pv 2) (pe_op op_add (pe_op op_mod (pe_callTy call_int1 (by rfl) B.int (by decide +kernel) (pa_cons (pv 2) pa_nil)) pe_int) pe_int)) (pe_op op_mul pe_int (pe_ix ix_seq (pv 0) pe_int (fun _ _ => rfl)))) pe_int) pa_nil)) pe_int) (pg_sub (pv 0) pe_int set_list))
      (pss_cons (ps_if (pt_cmpR op_gt (pe_ix ix_seq (pv 0) pe_int (fun _ _ => rfl)) pe_int (nomark _)) (pss_cons (ps_asg (pe_callB call_divmod (by rfl) B.divmod (by decide +kernel) (pa_cons (pe_callTy call_int1 (by rfl) B.int (by decide +kernel) (pa_cons (pe_ix ix_seq (pv 0) pe_int (fun _ _ => rfl)) pa_nil)) (pa_cons (pv 1) pa_nil))) (pg_tup (by rfl) (pgs_cons (pg_sub (pv 0) pe_int set_list) (pgs_cons (pg_name (i := 3) sc__law_draw.nd rfl (Or.inl rfl)) pgs_nil))))
      (pss_one (ps_ret (pv 3)))) pss_nil)
      (pss_one (ps_ret (pe_op op_mod (pe_callTy call_int1 (by rfl) B.int (by decide +kernel) (pa_cons (pe_op op_fdiv (pe_ix ix_seq (pv 0) pe_int (fun _ _ => rfl)) pe_int) pa_nil)) (pv 1)))))))), ?_⟩
    obtain ⟨x, y, z, e, hx, hx2, hy, hz⟩ := tk.ex
    have hA : SqL K H a [.int x, .int y, .int z] := .inl (.inl e)
    refine ⟨_, rfl, rd_raw (w := V.int z) hA (by decide) rfl ?_⟩
    refine ⟨_, _, rfl, rfl, _, rfl, a, _, _, 2, rfl, rfl, e, rfl, ?_⟩
    have hB : SqL K (upd H a (.lst [.int x, .int y, .int (z + 1)])) a [.int x, .int y, .int (z + 1)] := .inl (.inl upd_same)
    refine ⟨_, rfl, rd_raw (w := V.int x) hB (by decide) rfl ?_⟩
    refine .inl ⟨_, rfl, _, rfl, _, rfl, .inl ⟨_, rfl, _, _, rfl, rfl, (by show (0 : Int) < 20011; decide), _, _, rfl, rfl, ?_⟩⟩
    have b1 : 0 ≤ x % 20011 := Int.emod_nonneg _ (by decide)
    have b2 : x % 20011 < 20011 := Int.emod_lt_of_pos _ (by decide)
    refine ⟨_, _, rfl, rfl, wide_mul (a := 31) (b := 17) (by omega) (by omega) (by decide) (by decide) (by decide), ?_⟩
    refine ⟨_, rfl, rd_raw (w := V.int (z + 1)) hB (by decide) rfl ?_⟩
    refine ⟨_, _, rfl, rfl, .inl ⟨by decide, by decide⟩, _, _, rfl, rfl, _, _, rfl, rfl, .inl ⟨_, rfl, _, _, rfl, rfl, (by show (0 : Int) < 2147483629; decide), ?_⟩⟩
    refine ⟨_, rfl, a, _, _, 0, rfl, rfl, upd_same, rfl, ?_⟩
    have hC : ∀ x', (upd (upd H a (.lst [.int x, .int y, .int (z + 1)])) a (.lst [.int x', .int y, .int (z + 1)])) a = some (.lst [.int x', .int y, .int (z + 1)]) := fun _ => upd_same
    have hD : ∀ x', SqL K (upd (upd H a (.lst [.int x, .int y, .int (z + 1)])) a (.lst [.int x', .int y, .int (z + 1)])) a [.int x', .int y, .int (z + 1)] := fun _ => .inl (.inl upd_same)
    refine ⟨_, rfl, rd_raw (w := V.int y) (hD _) (by decide) rfl ?_⟩
    refine ⟨_, _, rfl, rfl, _, rfl, ite2 (fun c1 => ?_) (fun c1 => ?_)⟩
    · refine ⟨_, rfl, rd_raw (w := V.int y) (hD _) (by decide) rfl ?_⟩
      refine .inl ⟨_, rfl, _, rfl, _, _, rfl, ⟨hm0, hm1⟩, fun p np => ?_⟩
      have npa : a ≠ p := ne_of_none upd_same np
      refine ⟨p, [.int (y / m), .int (y % m)], rfl, .inl (.inl upd_same), rfl, .int (y / m), [.int (y % m)], rfl, ?_⟩
      refine ⟨_, rfl, a, _, _, 1, rfl, rfl, by rw [upd_ne npa]; exact hC _, rfl, ?_⟩
      refine ⟨.int (y % m), [], rfl, rfl, _, rfl, ?_⟩
      refine q _ _ (Int.emod_nonneg _ (by omega)) (Int.emod_lt_of_pos _ hm0) (fun A hA => (((Go.chg hA).trans (Go.chg hA)).trans (Go.new np)).trans (Go.chg hA)) ⟨_, y / m, z + 1, upd_same, ?_, ?_, ?_, by omega⟩
      · exact Int.emod_nonneg _ (by decide)
      · exact Int.emod_lt_of_pos _ (by decide)
      · exact Int.ediv_nonneg hy (by omega)
    · refine ⟨_, rfl, rd_raw (w := _) (hD _) (by decide) rfl ?_⟩
      refine ⟨_, _, rfl, rfl, ⟨by decide, by decide⟩, .inl ⟨_, rfl, _, rfl, _, _, rfl, rfl, hm0, ?_⟩⟩
      refine q _ _ (Int.emod_nonneg _ (by omega)) (Int.emod_lt_of_pos _ hm0) (fun A hA => (Go.chg hA).trans (Go.chg hA)) ⟨_, y, z + 1, hC _, ?_, ?_, hy, by omega⟩
      · exact Int.emod_nonneg _ (by decide)
      · exact Int.emod_lt_of_pos _ (by decide)
/-- _law_pick(pool, things): one of the things -/
def sp__law_pick (K : PySem.W.Frag) (c : Addr) : Sp := fun vs H Q _ => ∃ (a l : Addr) (xs : List V), vs = [.ref a, .ref l] ∧ PoolAt H a ∧ SqL K H l xs ∧ l ≠ a ∧ 0 < xs.length ∧ xs.length < 1000 ∧
  ∀ v H', v ∈ xs → (∀ A, a ∈ A → Go A H H') → PoolAt H' a → Q v H'
theorem cal__law_pick (B : Bl mg) (DD : OwnDef K mg "_law_pick" s__law_pick) (C__law_draw : Cal P w K mg base 1 "_law_draw" (sp__law_draw K c) [])  : Cal P w K mg base 2 "_law_pick" (sp__law_pick K c) [] := by
  obtain ⟨f, fd, F, hm⟩ := DD.ex
  refine ⟨f, fd, ["_law_pool_here", "_law_things"], [], F.ok sc__law_pick (fun vs H Q E h => ?len) (fun cdv A outer s H vs Q E hr h => ?run), hm, F.kp, F.binds (fun _ _ _ _ _ _ us hl => match us, hl with | [_, _], _ => rfl), .nil⟩
  case len => first | (obtain ⟨_, rfl, _⟩ := h; rfl) | (obtain ⟨_, _, rfl, _⟩ := h; rfl) | (obtain ⟨_, _, _, rfl, _⟩ := h; rfl) | (obtain ⟨_, _, _, _, rfl, _⟩ := h; rfl) | (obtain ⟨_, _, _, _, _, rfl, _⟩ := h; rfl) | (obtain ⟨_, _, _, _, _, _, rfl, _⟩ := h; rfl) | (obtain ⟨_, _, _, _, _, _, _, rfl, _⟩ := h; rfl) | (obtain ⟨_, _, _, _, _, _, _, _, rfl, _⟩ := h; rfl) | (obtain ⟨_, _, _, _, _, _, _, _, _, rfl, _⟩ := h; rfl) | (obtain ⟨_, _, _, _, _, _, _, _, _, _, rfl, _⟩ := h; rfl) | (obtain ⟨_, _, _, _, _, _, _, _, _, _, _, rfl, _⟩ := h; rfl) | (obtain ⟨_, _, _, _, _, _, _, _, _, _, _, _, rfl, _⟩ := h; rfl) | (obtain ⟨_, _, _, _, _, _, _, _, _, _, _, _, _, rfl, _⟩ := h; rfl) | (obtain ⟨_, _, _, _, _, _, _, _, _, _, _, _, _, _, rfl, _⟩ := h; rfl)
  case run =>
    obtain ⟨a, l, xs, rfl, tk, hS, nla, h0, h1, q⟩ := h
    refine ⟨_, (pss_one (ps_ret (pe_ix ix_seq (pv 1) (pe_c C__law_draw hr (by decide) (by rfl) (pa_cons (pv 0) (pa_cons (pe_callB call_len_seq (by rfl) B.len (by decide +kernel) (pa_cons (pv 1) pa_nil)) pa_nil))) (fun _ _ => rfl)))), ?_⟩
    refine ⟨_, rfl, _, rfl, _, rfl, l, xs, rfl, .inl hS, a, _, rfl, tk, by omega, by omega, fun r H' hr0 hr1 go tk' => ?_⟩
    have hi : r.toNat < xs.length := by omega
    have hS' : SqL K H' l xs := by
      have g := go [a] (by simp)
      rcases hS with (z | ⟨o, z⟩) | z
      · exact .inl (.inl (g.keep _ _ (by simpa using nla) z))
      · exact .inl (.inr ⟨o, g.keep _ _ (by simpa using nla) z⟩)
      · exact .inr z
    exact rd_raw hS' hr0 (List.getElem?_eq_getElem hi) (q _ _ (List.getElem_mem hi) go tk')
end

end LW

set_option Elab.async false
set_option linter.all false
set_option maxRecDepth 100000
set_option maxHeartbeats 4000100
set_option exponentiation.threshold 9000
namespace LW
open L2 PySem.Spec PyProof.Rows PySem
/-- a rule in whole numbers: all marks and the offset times b -/
structure IR (b : Int) (ms : List Int) (s : Int) : Prop where
  b0 : 0 < b
  b1 : b < 10 ^ 25
  s0 : 0 ≤ s
  s1 : s ≤ b
  len : ms.length ≤ 8
  nn : ∀ m ∈ ms, 0 ≤ m
  inc : ∀ (i : Nat) (p q : Int), ms[i]? = some p → ms[i + 1]? = some q → p < q
  last : ∀ m, ms.getLast? = some m → m < (ms.length : Int) * b + s
theorem up_to {ms : List Int} (inc : ∀ (i : Nat) (p q : Int), ms[i]? = some p → ms[i + 1]? = some q → p < q) : ∀ (d i : Nat) (p q : Int), ms[i]? = some p → ms[i + d]? = some q → p + (d : Int) ≤ q
  | 0, i, p, q, h1, h2 => by rw [Nat.add_zero, h1] at h2; cases h2; omega
  | d + 1, i, p, q, h1, h2 => by
    have hl : i + (d + 1) < ms.length := (List.getElem?_eq_some_iff.mp h2).1
    have h3 : ms[i + d]? = some ms[i + d] := List.getElem?_eq_getElem (by omega)
    have a := up_to inc d i p _ h1 h3
    have b := inc (i + d) _ q h3 h2
    omega
theorem IR.under {b : Int} {ms : List Int} {s : Int} (r : IR b ms s) : ∀ m ∈ ms, m < (ms.length : Int) * b + s := by
  intro m hm
  obtain ⟨i, hi, e⟩ := List.mem_iff_getElem.mp hm
  have h1 : ms[i]? = some m := by rw [List.getElem?_eq_getElem hi, e]
  have h2 : ms[i + (ms.length - 1 - i)]? = some ms[ms.length - 1] := by
    rw [show i + (ms.length - 1 - i) = ms.length - 1 by omega]
    exact List.getElem?_eq_getElem (by omega)
  have h3 := up_to r.inc _ i m _ h1 h2
  have h4 := r.last ms[ms.length - 1] (by rw [List.getLast?_eq_getElem?]; exact List.getElem?_eq_getElem (by omega))
  omega
theorem IR.bnd {b : Int} {ms : List Int} {s : Int} (r : IR b ms s) : ∀ m ∈ ms, m < 10 ^ 27 := by
  intro m hm
  have h := r.under m hm
  have hb := r.b0
  have hb1 := r.b1
  have hs := r.s1
  have h2 : (ms.length : Int) * b ≤ 8 * b := Int.mul_le_mul_of_nonneg_right (by have := r.len; omega) (by omega)
  omega
theorem low_lt_r {m b : Int} {q : Int × Int} (hb : 0 < b) (h : m * q.2 < q.1 * b) : ltQ (lowQ m b) q := by
  obtain ⟨g, hg, a1, a2⟩ := low_mul (t := m) hb
  show (lowQ m b).1 * q.2 < q.1 * (lowQ m b).2
  refine Int.lt_of_mul_lt_mul_right (a := g) ?_ (Int.le_of_lt hg)
  rw [← a1] at h
  have h' : (lowQ m b).1 * g * q.2 < q.1 * ((lowQ m b).2 * g) := by rw [a2]; exact h
  grind
theorem OkW.low {m b : Int} (m0 : 0 ≤ m) (b0 : 0 < b) (m1 : m < 10 ^ 50) (b1 : b < 10 ^ 50) : OkW (lowQ m b) := by
  have h1 := low_le1 (b := b) m0
  have h2 := low_le2 (t := m) (Int.le_of_lt b0)
  exact ⟨low_nn m0, low_pos b0, by omega, by omega⟩
def lowL (b : Int) (ms : List Int) : List (Int × Int) := ms.map fun m => lowQ m b
theorem lowL_get {b : Int} {ms : List Int} {i : Nat} {p : Int × Int} (h : (lowL b ms)[i]? = some p) : ∃ m, ms[i]? = some m ∧ p = lowQ m b := some_map h
theorem IR.vr {b : Int} {ms : List Int} {s : Int} (r : IR b ms s) : VR (lowQ s b) (lowL b ms) where
  ok := OkW.low r.s0 r.b0 (by have := r.s1; have := r.b1; omega) (by have := r.b1; omega)
  low := low_low r.s0 r.b0
  le1 := low_le (o := (s, b)) r.b0 r.s1
  len := by unfold lowL; rw [List.length_map]; exact r.len
  oks := by
    intro q hq
    obtain ⟨m, hm, rfl⟩ := List.mem_map.mp hq
    have h1 := r.bnd m hm
    have h2 := r.nn m hm
    exact ⟨OkW.low h2 r.b0 (by omega) (by have := r.b1; omega), low_low h2 r.b0⟩
  inc := by
    intro i p q hp hq
    obtain ⟨m, hm, rfl⟩ := lowL_get hp
    obtain ⟨n, hn, rfl⟩ := lowL_get hq
    exact low_lt r.b0 (r.inc i m n hm hn)
  last := by
    intro p hp
    unfold lowL at hp
    rw [List.getLast?_map] at hp
    cases e : ms.getLast? with
    | none => rw [e] at hp; cases hp
    | some m =>
      rw [e] at hp
      have z : lowQ m b = p := Option.some.inj hp
      subst z
      have h := r.last m e
      have hb := r.b0
      unfold lowL
      rw [List.length_map]
      refine plain_low (o := (s, b)) hb (low_lt_r hb ?_)
      show m * b < (s + (ms.length : Int) * b) * b
      exact Int.mul_lt_mul_of_pos_right (by omega) hb
/-- the mark with a number, times b -/
def atM (b : Int) (ms : List Int) (s : Int) (k : Nat) : Int := if k < ms.length then ms.getD k 0 else (k : Int) * b + s
theorem IR.mark {b : Int} {ms : List Int} {s : Int} (r : IR b ms s) (k : Nat) : (markQ (lowQ s b) (lowL b ms) ((k : Nat) : Int)).1 * b = atM b ms s k * (markQ (lowQ s b) (lowL b ms) ((k : Nat) : Int)).2 ∧ 0 < (markQ (lowQ s b) (lowL b ms) ((k : Nat) : Int)).2 := by
  have hb := r.b0
  have e : ∀ m : Int, (lowQ m b).1 * b = m * (lowQ m b).2 ∧ 0 < (lowQ m b).2 := fun m => by
    obtain ⟨g, hg, a1, a2⟩ := low_mul (t := m) hb
    refine ⟨?_, low_pos hb⟩
    generalize (lowQ m b).1 = x at *
    generalize (lowQ m b).2 = y at *
    subst a1
    subst a2
    grind
  unfold markQ atM
  have hl : (lowL b ms).length = ms.length := List.length_map _
  by_cases hk : k < ms.length
  · rw [if_pos (by omega), if_pos hk]
    have : (lowL b ms).getD (((k : Nat) : Int)).toNat (0, 1) = lowQ (ms.getD k 0) b := by
      have hk2 : k < (lowL b ms).length := by omega
      simp only [Int.toNat_natCast, List.getD_eq_getElem?_getD]
      rw [List.getElem?_eq_getElem hk2, List.getElem?_eq_getElem hk]
      simp [lowL]
    rw [this]
    exact e _
  · rw [if_neg (by omega), if_neg hk]
    obtain ⟨e1, e2⟩ := e s
    refine ⟨?_, e2⟩
    show ((lowQ s b).1 + (k : Int) * (lowQ s b).2) * b = ((k : Int) * b + s) * (lowQ s b).2
    grind
theorem cross {p1 q1 p2 q2 p3 q3 p4 q4 b c A1 A2 A3 A4 : Int} (e1 : p1 * b = A1 * q1) (e2 : p2 * c = A2 * q2) (e3 : p3 * b = A3 * q3) (e4 : p4 * c = A4 * q4) (h1 : 0 < q1) (h2 : 0 < q2) (h3 : 0 < q3) (h4 : 0 < q4) (hb : 0 < b) (hc : 0 < c) :
    ((p2 * q4) * (q1 * p3) < (p1 * q3) * (q2 * p4)) ↔ A2 * A3 < A1 * A4 := by
  have hE : 0 < b * c := Int.mul_pos hb hc
  have hD : 0 < (q1 * q2) * (q3 * q4) := Int.mul_pos (Int.mul_pos h1 h2) (Int.mul_pos h3 h4)
  have l : (p2 * q4) * (q1 * p3) * (b * c) = (A2 * A3) * ((q1 * q2) * (q3 * q4)) := by
    have : (p2 * q4) * (q1 * p3) * (b * c) = (p2 * c) * (p3 * b) * (q4 * q1) := by grind
    rw [this, e2, e3]
    grind
  have r : (p1 * q3) * (q2 * p4) * (b * c) = (A1 * A4) * ((q1 * q2) * (q3 * q4)) := by
    have : (p1 * q3) * (q2 * p4) * (b * c) = (p1 * b) * (p4 * c) * (q3 * q2) := by grind
    rw [this, e1, e4]
    grind
  constructor
  · intro h
    have := Int.mul_lt_mul_of_pos_right h hE
    rw [l, r] at this
    exact Int.lt_of_mul_lt_mul_right this (Int.le_of_lt hD)
  · intro h
    have := Int.mul_lt_mul_of_pos_right h hD
    rw [← l, ← r] at this
    exact Int.lt_of_mul_lt_mul_right this (Int.le_of_lt hE)
def unkI (b : Int) (ms : List Int) (s : Int) (c : Int) (ns : List Int) (t : Int) (k l : Nat) : Bool := decide (atM b ms s k * atM c ns t l > atM c ns t k * atM b ms s l)
theorem unk_unkI {b s c t : Int} {ms ns : List Int} (r : IR b ms s) (r2 : IR c ns t) (k l : Nat) : unk (lowQ s b) (lowL b ms) (lowQ t c) (lowL c ns) k l = unkI b ms s c ns t k l := by
  obtain ⟨e1, h1⟩ := r.mark k
  obtain ⟨e3, h3⟩ := r.mark l
  obtain ⟨e2, h2⟩ := r2.mark k
  obtain ⟨e4, h4⟩ := r2.mark l
  unfold unk unkI
  have z := cross e1 e2 e3 e4 h1 h2 h3 h4 r.b0 r2.b0
  exact decide_eq_decide.mpr z
theorem first_one {P : Nat → Nat → Bool} {N : Nat} : ∀ {x y : Option (Nat × Nat)}, IsFirst P N x → IsFirst P N y → x = y
  | none, none, _, _ => rfl
  | none, some (k, l), h, g => by have := h l g.2.1 k g.1; rw [g.2.2.1] at this; cases this
  | some (k, l), none, g, h => by have := h l g.2.1 k g.1; rw [g.2.2.1] at this; cases this
  | some (k, l), some (k', l'), ⟨a1, a2, a3, a4, a5⟩, ⟨b1, b2, b3, b4, b5⟩ => by
    have hl : l = l' := by
      rcases Nat.lt_trichotomy l l' with z | z | z
      · have := b4 l z k a1; rw [a3] at this; cases this
      · exact z
      · have := a4 l' z k' b1; rw [b3] at this; cases this
    subst hl
    have hk : k = k' := by
      rcases Nat.lt_trichotomy k k' with z | z | z
      · have := b5 k z; rw [a3] at this; cases this
      · exact z
      · have := a5 k' z; rw [b3] at this; cases this
    rw [hk]
/-- no pair among the first marks and those behind all heads: then none at all -/
theorem none_more {b s c t : Int} {ms ns : List Int} (r : IR b ms s) (r2 : IR c ns t) (h : ∀ l, l < 10 → ∀ k, k < l → unkI b ms s c ns t k l = false) : ∀ l k, k < l → unkI b ms s c ns t k l = false := by
  intro l k hk
  rcases Nat.lt_or_ge l 10 with z | z
  · exact h l z k hk
  have hb := r.b0
  have hc := r2.b0
  have l1 := r.len
  have l2 := r2.len
  have a1 : ∀ j : Nat, 8 ≤ j → atM b ms s j = (j : Int) * b + s := fun j hj => by unfold atM; rw [if_neg (by omega)]
  have a2 : ∀ j : Nat, 8 ≤ j → atM c ns t j = (j : Int) * c + t := fun j hj => by unfold atM; rw [if_neg (by omega)]
  -- the offset is not the greater one
  have h89 : s * c ≤ t * b := by
    have := of_decide_eq_false (h 9 (by decide) 8 (by decide))
    rw [a1 8 (by decide), a1 9 (by decide), a2 8 (by decide), a2 9 (by decide)] at this
    have z : ((8 : Nat) : Int) = 8 := rfl
    have z2 : ((9 : Nat) : Int) = 9 := rfl
    rw [z, z2] at this
    grind
  refine decide_eq_false ?_
  rw [a1 l (by omega), a2 l (by omega)]
  rcases Nat.lt_or_ge k 8 with y | y
  · have h8 := of_decide_eq_false (h 8 (by decide) k y)
    rw [a1 8 (by decide), a2 8 (by decide)] at h8
    have z : ((8 : Nat) : Int) = 8 := rfl
    rw [z] at h8
    have m1 : 0 ≤ atM b ms s k := by
      unfold atM
      split
      · rename_i hk2
        rw [List.getD_eq_getElem?_getD, List.getElem?_eq_getElem hk2]
        exact r.nn _ (List.getElem_mem hk2)
      · have := Int.mul_nonneg (show (0 : Int) ≤ (k : Int) by omega) (Int.le_of_lt hb)
        have := r.s0
        omega
    generalize atM b ms s k = p at *
    generalize atM c ns t k = q at *
    have h8' : p * (8 * c + t) ≤ q * (8 * b + s) := Int.not_lt.mp h8
    intro hh
    have hh' : q * ((l : Int) * b + s) < p * ((l : Int) * c + t) := hh
    -- (l c + t)(8 b + s) ≤ (8 c + t)(l b + s)
    have d : 0 ≤ (t * b - s * c) * ((l : Int) - 8) := Int.mul_nonneg (by omega) (by omega)
    have e : ((l : Int) * c + t) * (8 * b + s) ≤ (8 * c + t) * ((l : Int) * b + s) := by grind
    have g0 : 0 < 8 * b + s := by have := r.s0; omega
    have f1 : q * ((l : Int) * b + s) * (8 * b + s) < p * ((l : Int) * c + t) * (8 * b + s) := Int.mul_lt_mul_of_pos_right hh' g0
    have f2 : p * (((l : Int) * c + t) * (8 * b + s)) ≤ p * ((8 * c + t) * ((l : Int) * b + s)) := Int.mul_le_mul_of_nonneg_left e m1
    have g1 : 0 ≤ (l : Int) * b + s := by
      have := Int.mul_nonneg (show (0 : Int) ≤ (l : Int) by omega) (Int.le_of_lt hb)
      have := r.s0
      omega
    have f3 : p * (8 * c + t) * ((l : Int) * b + s) ≤ q * (8 * b + s) * ((l : Int) * b + s) := Int.mul_le_mul_of_nonneg_right h8' g1
    have c1 : q * ((l : Int) * b + s) * (8 * b + s) = q * (8 * b + s) * ((l : Int) * b + s) := by grind
    have c2 : p * ((l : Int) * c + t) * (8 * b + s) = p * (((l : Int) * c + t) * (8 * b + s)) := by grind
    have c3 : p * ((8 * c + t) * ((l : Int) * b + s)) = p * (8 * c + t) * ((l : Int) * b + s) := by grind
    omega
  · rw [a1 k y, a2 k y]
    have d : 0 ≤ (t * b - s * c) * ((l : Int) - (k : Int)) := Int.mul_nonneg (by omega) (by omega)
    intro hh
    have hh' : ((k : Int) * c + t) * ((l : Int) * b + s) < ((k : Int) * b + s) * ((l : Int) * c + t) := hh
    grind
theorem same_first {b s c t : Int} {ms ns : List Int} (r : IR b ms s) (r2 : IR c ns t) {x y : Option (Nat × Nat)} (h : IsFirst (unk (lowQ s b) (lowL b ms) (lowQ t c) (lowL c ns)) 10 x) (g : IsFirst (unkI b ms s c ns t) 25 y) : x = y := by
  have e : unk (lowQ s b) (lowL b ms) (lowQ t c) (lowL c ns) = unkI b ms s c ns t := by
    funext k l
    exact unk_unkI r r2 k l
  rw [e] at h
  refine first_one (N := 25) (P := unkI b ms s c ns t) ?_ g
  match x, h with
  | none, h => exact fun l _ k hk => none_more r r2 h l k hk
  | some (k, l), ⟨a1, a2, a3⟩ => exact ⟨a1, by omega, a3⟩
theorem unk_self {o : Int × Int} {hd : List (Int × Int)} {x : Option (Nat × Nat)} (h : IsFirst (unk o hd o hd) 10 x) : x = none := by
  refine first_one h (fun l _ k _ => decide_eq_false ?_)
  show ¬ (_ < _)
  exact Int.lt_irrefl _
end LW

set_option Elab.async false
set_option linter.all false
set_option maxRecDepth 100000
set_option maxHeartbeats 4000100
set_option exponentiation.threshold 9000
namespace LW
open L2 PySem.Spec PyProof.Rows PySem
theorem range_get {n i j : Nat} (h : (List.range n)[i]? = some j) : i < n ∧ i = j := by
  obtain ⟨hi, e⟩ := List.getElem?_eq_some_iff.mp
        h
  rw [List.getElem_range] at e
  rw [List.length_range] at hi
  exact ⟨hi, e⟩
theorem sum_take_succ {T : List Int} {j : Nat} {x : Int} (h : T[j]? = some x) : (T.take (j + 1)).sum = (T.take j).sum + x := by
  rw [List.take_add_one, h, List.sum_append]
  simp
theorem sum_between {T : List Int} {lo hi : Int} (h : ∀ d ∈ T, lo ≤ d ∧ d ≤ hi) : (T.length : Int) * lo ≤ T.sum ∧ T.sum ≤ (T.length : Int) * hi := by
  induction T with
  | nil => simp
  | cons x T ih =>
    have h1 := h x (by simp)
    have h2 := ih fun d hd => h d (by simp [hd])
    have e : ((x :: T).length : Int) = (T.length : Int) + 1 := by simp
    rw [e, List.sum_cons, Int.add_mul, Int.add_mul, Int.one_mul, Int.one_mul]
    omega
theorem IR.sums {bt sh d0 : Int} {ds : List Int} (hb : 0 < bt) (hb1 : bt < 10 ^ 13) (s0 : 0 ≤ sh) (s1 : sh ≤ bt) (n : ds.length ≤ 8) (n0 : 0 < ds.length) (h0 : 0 ≤ d0 ∧ d0 ≤ 1000) (hd : ∀ d ∈ ds, 1 ≤ d ∧ d ≤ 1000) :
    IR (bt * (d0 :: ds).sum) ((List.range ds.length).map fun i => ((ds.length : Int) * bt + sh) * ((d0 :: ds).take (i + 1)).sum) (sh * (d0 :: ds).sum) ∧ bt * (d0 :: ds).sum < 10 ^ 20 := by
  obtain ⟨x1, x2⟩ := sum_between (T := ds) (lo := 1) (hi := 1000) hd
  have eW : (d0 :: ds).sum = d0 + ds.sum := List.sum_cons
  have w0 : 0 < (d0 :: ds).sum := by omega
  have w1 : (d0 :: ds).sum ≤ 10000 := by omega
  have tp : 0 < (ds.length : Int) * bt + sh := by
    have : 1 * bt ≤ (ds.length : Int) * bt := Int.mul_le_mul_of_nonneg_right (by omega) (by omega)
    omega
  have pos : ∀ i : Nat, i < ds.length → 0 ≤ ((d0 :: ds).take (i + 1)).sum := by
    intro i hi
    have := (sum_between (T := (d0 :: ds).take (i + 1)) (lo := 0) (hi := 1000) fun d hd' => by
      rcases List.mem_cons.mp (List.mem_of_mem_take hd') with z | z
      · rw [z]; exact h0
      · have := hd d z; omega).1
    omega
  have up : ∀ i : Nat, i < ds.length → ((d0 :: ds).take (i + 1)).sum < ((d0 :: ds).take (i + 2)).sum := by
    intro i hi
    have e : (d0 :: ds)[i + 1]? = some ds[i] := by simp [hi]
    have := (hd ds[i] (List.getElem_mem hi)).1
    rw [show i + 2 = (i + 1) + 1 from rfl, sum_take_succ e]
    omega
  have bw : bt * (d0 :: ds).sum < 10 ^ 20 := by
    have a1 : bt * (d0 :: ds).sum ≤ bt * 10000 := Int.mul_le_mul_of_nonneg_left w1 (by omega)
    omega
  refine ⟨⟨Int.mul_pos hb w0, by omega, Int.mul_nonneg s0 (by omega), Int.mul_le_mul_of_nonneg_right s1 (by omega), by simpa using n, ?_, ?_, ?_⟩, bw⟩
  · intro m hm
    obtain ⟨i, hi, rfl⟩ := List.mem_map.mp hm
    exact Int.mul_nonneg (by omega) (pos i (List.mem_range.mp hi))
  · intro i p q hp hq
    obtain ⟨j, hj, rfl⟩ := some_map hp
    obtain ⟨j', hj', rfl⟩ := some_map hq
    have a1 : i < ds.length ∧ i = j := range_get hj
    have a2 : i + 1 < ds.length ∧ i + 1 = j' := range_get hj'
    obtain ⟨a1, rfl⟩ := a1
    obtain ⟨a2, rfl⟩ := a2
    exact Int.mul_lt_mul_of_pos_left (up i a1) tp
  · intro m hm
    rw [List.getLast?_map] at hm
    obtain ⟨n', hn'⟩ : ∃ n', ds.length = n' + 1 := ⟨ds.length - 1, by omega⟩
    rw [hn', List.range_succ, List.getLast?_append] at hm
    simp only [List.getLast?_singleton, Option.some_or, Option.map_some, Option.some.injEq] at hm
    subst hm
    have u := up n' (by omega)
    have full : (d0 :: ds).take (n' + 2) = d0 :: ds := List.take_of_length_le (by rw [List.length_cons]; omega)
    rw [full] at u
    have z := Int.mul_lt_mul_of_pos_left u tp
    rw [List.length_map, List.length_range, hn']
    rw [hn'] at z
    have e : (((n' + 1 : Nat) : Int) * bt + sh) * (d0 :: ds).sum = ((n' + 1 : Nat) : Int) * (bt * (d0 :: ds).sum) + sh * (d0 :: ds).sum := by grind
    rw [← e]
    exact z
/-- the marks of an offset, twice -/
def evens (bt sh : Int) (n : Nat) : List Int := (List.range n).map fun (i : Nat) => 2 * (bt * (i : Int) + sh)
theorem evens_get {bt sh : Int} {n i : Nat} {p : Int} (h : (evens bt sh n)[i]? = some p) : i < n ∧ p = 2 * (bt * (i : Int) + sh) := by
  obtain ⟨j, hj, rfl⟩ := some_map h
  have a1 : i < n ∧ i = j := range_get hj
  obtain ⟨a1, rfl⟩ := a1
  exact ⟨a1, rfl⟩
theorem IR.moved {bt sh y : Int} {n at_ : Nat} (hb : 0 < bt) (hb1 : bt < 10 ^ 13) (s0 : 0 ≤ sh) (s1 : sh ≤ bt) (n8 : n ≤ 8) (ha : at_ < n)
    (y0 : 0 ≤ y) (lo : at_ ≠ 0 → 2 * (bt * (at_ : Int) + sh) - 2 * bt < y) (hi : y < 2 * (bt * (at_ : Int) + sh) + 2 * bt) : IR (2 * bt) ((evens bt sh n).set at_ y) (2 * sh) ∧ 2 * bt < 10 ^ 20 := by
  have ln : (evens bt sh n).length = n := by simp [evens]
  have step : ∀ i : Nat, bt * ((i + 1 : Nat) : Int) = bt * (i : Int) + bt := fun i => by
    have : ((i + 1 : Nat) : Int) = (i : Int) + 1 := by omega
    rw [this, Int.mul_add, Int.mul_one]
  have nn : ∀ i : Nat, 0 ≤ bt * (i : Int) := fun i => Int.mul_nonneg (by omega) (by omega)
  refine ⟨⟨by omega, by omega, by omega, by omega, by rw [List.length_set, ln]; exact n8, ?_, ?_, ?_⟩, by omega⟩
  · intro m hm
    rcases List.mem_or_eq_of_mem_set hm with z | z
    · obtain ⟨i, hi', e⟩ := List.mem_iff_getElem.mp z
      obtain ⟨_, rfl⟩ := evens_get (by rw [List.getElem?_eq_getElem hi', e])
      have := nn i
      omega
    · rw [z]; exact y0
  · intro i p q hp hq
    rw [List.getElem?_set] at hp hq
    have si := step i
    by_cases h1 : at_ = i
    · rw [if_pos h1] at hp
      rw [if_neg (by omega)] at hq
      subst h1
      rw [if_pos (by omega)] at hp
      cases hp
      obtain ⟨_, rfl⟩ := evens_get hq
      omega
    · rw [if_neg h1] at hp
      obtain ⟨_, rfl⟩ := evens_get hp
      by_cases h2 : at_ = i + 1
      · rw [if_pos h2, if_pos (by omega)] at hq
        cases hq
        have := lo (by omega)
        rw [h2] at this
        omega
      · rw [if_neg h2] at hq
        obtain ⟨_, rfl⟩ := evens_get hq
        omega
  · intro m hm
    rw [List.getLast?_eq_getElem?, List.length_set, ln, List.getElem?_set] at hm
    rw [List.length_set, ln]
    obtain ⟨n', rfl⟩ : ∃ n', n = n' + 1 := ⟨n - 1, by omega⟩
    have sn := step n'
    have e : ((n' + 1 : Nat) : Int) * (2 * bt) = 2 * (bt * ((n' + 1 : Nat) : Int)) := by grind
    rw [e]
    simp only [Nat.add_sub_cancel] at hm
    by_cases h1 : at_ = n'
    · rw [if_pos h1, if_pos (by omega)] at hm
      cases hm
      subst h1
      omega
    · rw [if_neg h1] at hm
      obtain ⟨_, rfl⟩ := evens_get hm
      omega
/-- a rule without a head -/
theorem IR.bare {b s : Int} (hb : 0 < b) (hb1 : b < 10 ^ 25) (s0 : 0 ≤ s) (s1 : s ≤ b) : IR b [] s :=
  ⟨hb, hb1, s0, s1, (by simp), (fun m hm => by cases hm), (fun i p q h => by simp at h), (fun m h => by simp at h)⟩
theorem seqL_go {K : PySem.W.Frag} {H H' : Hp} {a l : Addr} {xs : List V} (g : Go [a] H H') (n : l ≠ a) (h : SqL K H l xs) : SqL K H' l xs := by
  rcases h with (z | ⟨o, z⟩) | z
  · exact .inl (.inl (g.keep _ _ (by simpa using n) z))
  · exact .inl (.inr ⟨o, g.keep _ _ (by simpa using n) z⟩)
  · exact .inr z
theorem Go.own {A : List Addr} {H H' : Hp} {D : Addr} {o : HO} (n : H D = none) (g : Go A H H') : Go A H (upd H' D o) :=
  ⟨fun b u hb e => by rw [upd_ne (ne_of_none e n)]; exact g.keep b u hb e, fun hd b hb z => by
    by_cases q : b = D
    · subst q; rw [upd_same] at z; cases z
    · rw [upd_ne q] at z; exact g.held hd b hb z⟩
theorem PoolAt.own {H : Hp} {a D : Addr} {o : HO} (t : PoolAt H a) (n : a ≠ D) : PoolAt (upd H D o) a := by
  obtain ⟨x, y, z, e, r⟩ := t.ex
  exact ⟨x, y, z, by rw [upd_ne n]; exact e, r⟩
theorem cut_to (xs : List V) (i : Nat) : cutV xs none (some ((i : Nat) : Int)) = xs.take i := by
  show (xs.drop 0).take ((if ((i : Nat) : Int) < 0 then (((i : Nat) : Int) + (xs.length : Int)).toNat else min (((i : Nat) : Int)).toNat xs.length) - 0) = _
  rw [if_neg (by omega), List.drop_zero, Nat.sub_zero, Int.toNat_natCast]
  rcases Nat.le_total i xs.length with h | h
  · rw [Nat.min_eq_left h]
  · rw [Nat.min_eq_right h, List.take_of_length_le (Nat.le_refl _), List.take_of_length_le h]
theorem ix_nn {n : Nat} {i : Int} (h0 : 0 ≤ i) (h : i < (n : Int)) : ixN n i = some i.toNat := by
  unfold ixN
  first
    | (rw [if_pos (by omega), if_pos (by omega)])
    | (rw [if_pos (by omega)])
    | (simp; omega)
theorem pk_ints {xs : List Int} {v : V} (h : v ∈ xs.map V.int) : ∃ x ∈ xs, v = .int x := by
  obtain ⟨x, hx, rfl⟩ := List.mem_map.mp h
  exact ⟨x, hx, rfl⟩
end LW

set_option Elab.async false
set_option linter.all false
set_option maxRecDepth 100000
set_option maxHeartbeats 4000100
set_option exponentiation.threshold 9000
namespace LW
open L2 PySem.Spec PyProof.Rows PySem
abbrev s__law_rule : Stmt := topS 55
theorem sc__law_rule : FnScope ["_law_pool_here", "_law_bottoms", "_law_size", "_law_bottom", "_law_shift", "_law_wide", "_law_way", "_law_steps", "_law_each", "_law_whole", "_law_top", "_law_at", "_law_marks", "_law_step"] ["_law_pool_here", "_law_bottoms"] (defScope s__law_rule) := ⟨rfl, rfl, rfl, by decide +kernel, rfl, by decide +kernel, by decide +kernel⟩
local macro_rules | `(tactic| walk_at "len") => `(tactic| skip)
/-! ### the law's rules in whole numbers -/
def irD (b : Int) (ms : List Int) (s : Int) : PyData := .tuple [.int b, .list (ms.map PyData.int), .int s]
/-- a rule in whole numbers, made by the law itself -/
def RawR (A : List Addr) (H : Hp) (v : V) (b : Int) (ms : List Int) (s : Int) : Prop := ∃ t l : Addr, v = .ref t ∧ t ∉ A ∧ l ∉ A ∧ H t = some (.tup [.int b, .ref l, .int s]) ∧ H l = some (.lst (ms.map V.int))
theorem rawR_mk {A : List Addr} {H : Hp} {q p : Addr} {b s : Int} {ms : List Int} (hA : Hd A H) (nq : H q = none) (ep : H p = some (.lst (ms.map V.int))) (npA : p ∉ A) : RawR A (upd H q (.tup [.int b, .ref p, .int s])) (.ref q) b ms s :=
  ⟨q, p, rfl, hA.out nq, npA, upd_same, by rw [upd_ne (ne_of_none ep nq)]; exact ep⟩
theorem RawR.is {K : PySem.W.Frag} {A : List Addr} {H : Hp} {v : V} {b s : Int} {ms : List Int} (h : RawR A H v b ms s) : Is K A H v (irD b ms s) := by
  obtain ⟨t, l, rfl, nt, nl, et, el⟩ := h
  exact .tup' (.inl (.inl (by rw [hv_out nt]; exact et))) (DAll.cons (.int _) (DAll.cons (.lst' (.inl (.inl (by rw [hv_out nl]; exact el))) (iss_ints (A := A) (H := H) _)) (DAll.cons (.int _) DAll.nil)))
theorem RawR.go {A : List Addr} {H H' : Hp} {v : V} {b s : Int} {ms : List Int} (h : RawR A H v b ms s) (g : Go A H H') : RawR A H' v b ms s := by
  obtain ⟨t, l, rfl, nt, nl, et, el⟩ := h
  exact ⟨t, l, rfl, nt, nl, g.keep _ _ nt et, g.keep _ _ nl el⟩
section
variable {P : Program} {w : World} {K : PySem.W.Frag} {mg : Str → Option Value} {base : Heap} {c : Addr}
def sp__law_rule (K : PySem.W.Frag) (c : Addr) : Sp := fun vs H Q _ => ∃ (a l : Addr) (A : List Addr) (bs : List Int), vs = [.ref a, .ref l] ∧ PoolAt H a ∧ a ∈ A ∧ Hd A H ∧ SqL K H l (bs.map V.int) ∧ l ≠ a ∧ 0 < bs.length ∧ bs.length < 1000 ∧ (∀ b ∈ bs, 0 < b ∧ b < 10 ^ 13) ∧
  ∀ u H' b ms s, Go A H H' → PoolAt H' a → RawR A H' u b ms s → IR b ms s → b < 10 ^ 20 → Q u H'
theorem cal__law_rule (B : Bl mg) (DD : OwnDef K mg "_law_rule" s__law_rule) (C__law_pick : Cal P w K mg base 2 "_law_pick" (sp__law_pick K c) []) (C__law_draw : Cal P w K mg base 1 "_law_draw" (sp__law_draw K c) [])  : Cal P w K mg base 3 "_law_rule" (sp__law_rule K c) [] := by
  obtain ⟨f, fd, F, hm⟩ := DD.ex
  refine ⟨f, fd, ["_law_pool_here", "_law_bottoms"], [], F.ok sc__law_rule (fun vs H Q E h => ?len) (fun cdv A outer s H vs Q E hr h => ?run), hm, F.kp, F.binds (fun _ _ _ _ _ _ us hl => match us, hl with | [_, _], _ => rfl), .nil⟩
  case len => first | (obtain ⟨_, rfl, _⟩ := h; rfl) | (obtain ⟨_, _, rfl, _⟩ := h; rfl) | (obtain ⟨_, _, _, rfl, _⟩ := h; rfl) | (obtain ⟨_, _, _, _, rfl, _⟩ := h; rfl) | (obtain ⟨_, _, _, _, _, rfl, _⟩ := h; rfl) | (obtain ⟨_, _, _, _, _, _, rfl, _⟩ := h; rfl) | (obtain ⟨_, _, _, _, _, _, _, rfl, _⟩ := h; rfl) | (obtain ⟨_, _, _, _, _, _, _, _, rfl, _⟩ := h; rfl) | (obtain ⟨_, _, _, _, _, _, _, _, _, rfl, _⟩ := h; rfl) | (obtain ⟨_, _, _, _, _, _, _, _, _, _, rfl, _⟩ := h; rfl) | (obtain ⟨_, _, _, _, _, _, _, _, _, _, _, rfl, _⟩ := h; rfl) | (obtain ⟨_, _, _, _, _, _, _, _, _, _, _, _, rfl, _⟩ := h; rfl) | (obtain ⟨_, _, _, _, _, _, _, _, _, _, _, _, _, rfl, _⟩ := h; rfl) | (obtain ⟨_, _, _, _, _, _, _, _, _, _, _, _, _, _, rfl, _⟩ := h; rfl)
  case run =>
    obtain ⟨a, l, A0, bs, rfl, tk, aA, hA, hl, nla, bl0, bl1, hbs, k⟩ := h
    refine ⟨_, (pss_cons (ps_set (i := 2) sc__law_rule.nd rfl (Or.inl rfl) (pe_c C__law_pick hr (by decide) (by rfl) (pa_cons (pv 0) (pa_cons (pe_lst (pa_cons pe_int (pa_cons pe_int (pa_cons pe_int (pa_cons pe_int (pa_cons pe_int (pa_cons pe_int (pa_cons pe_int (pa_cons pe_int pa_nil))))))))) pa_nil))))
      (pss_cons (ps_set (i := 3) sc__law_rule.nd rfl (Or.inr rfl) (pe_c C__law_pick hr (by decide) (by rfl) (pa_cons (pv 0) (pa_cons (pv 1) pa_nil))))
      (pss_cons (ps_set (i := 4) sc__law_rule.nd rfl (Or.inr rfl) (pe_c C__law_pick hr (by decide) (by rfl) (pa_cons (pv 0) (pa_cons (pe_lst (pa_cons pe_int (pa_cons (pv 3) (pa_cons (pe_op op_fdiv (pv 3) pe_int) (pa_cons (pe_c C__law_draw hr (by decide) (by rfl) (pa_cons (pv 0) (pa_cons (pe_op op_add (pe_callB (call_min2 rfl) (by rfl) B.min (by decide +kernel) (pa_cons (pv 3) (pa_cons (pe_op op_pow pe_int pe_int) pa_nil))) pe_int) pa_nil))) pa_nil))))) pa_nil))))
      (pss_cons (ps_asg (pe_tup (pa_cons (pe_c C__law_pick hr (by decide) (by rfl) (pa_cons (pv 0) (pa_cons (pe_lst (pa_cons pe_int (pa_cons pe_int (pa_cons pe_int (pa_cons pe_int pa_nil))))) pa_nil))) (pa_cons (pe_c C__law_draw hr (by decide) (by rfl) (pa_cons (pv 0) (pa_cons pe_int pa_nil))) pa_nil))) (pg_tup (by rfl) (pgs_cons (pg_name (i := 5) sc__law_rule.nd rfl (Or.inr rfl)) (pgs_cons (pg_name (i := 6) sc__law_rule.nd rfl (Or.inl rfl)) pgs_nil))))
      (pss_cons (ps_if (pt_cmpR op_eq (pv 2) pe_int (nomark _)) (pss_one (ps_ret (pe_tup (pa_cons (pv 3) (pa_cons (pe_lst pa_nil) (pa_cons (pv 4) pa_nil)))))) pss_nil)
      (pss_cons (ps_if (pt_cmpR op_gt (pv 6) pe_int (nomark _)) (pss_cons (ps_set (i := 7) sc__law_rule.nd rfl (Or.inr rfl) (pe_op op_cat (pe_lst (pa_cons (pe_c C__law_draw hr (by decide) (by rfl) (pa_cons (pv 0) (pa_cons (pe_op op_add (pv 5) pe_int) pa_nil))) pa_nil)) (pe_lc (own := [("_law_each", 8)]) (by rfl) sc__law_rule.nd (pi_range1 (by rfl) B.range (pa_cons (pv 2) pa_nil)) (blkOk_by (own := [("_law_each", 8)]) (N := ["_law_pool_here", "_law_bottoms", "_law_size", "_law_bottom", "_law_shift", "_law_wide", "_law_way", "_law_steps", "_law_each", "_law_whole", "_law_top", "_law_at", "_law_marks", "_law_step"]) (sc := defScope s__law_rule) (by decide +kernel)) (fun _ _ _ _ _ => (pg_name (i := 8) sc__law_rule.nd rfl (Or.inl rfl))) (fun _ _ _ _ _ => pts_nil) (fun _ _ _ _ _ => (pe_op op_add pe_int (pe_c C__law_draw hr (by decide) (by rfl) (pa_cons (pv 0) (pa_cons (pv 5) pa_nil))))))))
      (pss_cons (ps_asg (pe_tup (pa_cons (pe_callB (cr_sum rfl) (by rfl) B.sum (by decide +kernel) (pa_cons (pv 7) pa_nil)) (pa_cons (pe_op op_add (pe_op op_mulW (pv 2) (pv 3)) (pv 4)) pa_nil))) (pg_tup (by rfl) (pgs_cons (pg_name (i := 9) sc__law_rule.nd rfl (Or.inl rfl)) (pgs_cons (pg_name (i := 10) sc__law_rule.nd rfl (Or.inr rfl)) pgs_nil))))
      (pss_one (ps_ret (pe_tup (pa_cons (pe_op op_mulW (pv 3) (pv 9)) (pa_cons (pe_lc (own := [("_law_at", 11)]) (by rfl) sc__law_rule.nd (pi_range1 (by rfl) B.range (pa_cons (pv 2) pa_nil)) (blkOk_by (own := [("_law_at", 11)]) (N := ["_law_pool_here", "_law_bottoms", "_law_size", "_law_bottom", "_law_shift", "_law_wide", "_law_way", "_law_steps", "_law_each", "_law_whole", "_law_top", "_law_at", "_law_marks", "_law_step"]) (sc := defScope s__law_rule) (by decide +kernel)) (fun _ _ _ _ _ => (pg_name (i := 11) sc__law_rule.nd rfl (Or.inl rfl))) (fun _ _ _ _ _ => pts_nil) (fun _ _ _ _ _ => (pe_op op_mulW (pv 10) (pe_callB (id := "sum") (r := rSum K) (cr_sum rfl) (by rfl) B.sum (by decide +kernel) (pa_cons (pe_slice (r := rSlL K) sl_list (pv 7) po_none (po_some (pe_op op_add (pv 11) pe_int))) pa_nil))))) (pa_cons (pe_op op_mulW (pv 4) (pv 9)) pa_nil)))))))) pss_nil)
      (pss_cons (ps_setLc (i := 12) (own := [("_law_at", 11)]) (by rfl) sc__law_rule.nd rfl rfl (sw_true rfl rfl rfl (by decide +kernel)) (pi_range1 (by rfl) B.range (pa_cons (pv 2) pa_nil)) (blkOk_by (own := [("_law_at", 11)]) (N := ["_law_pool_here", "_law_bottoms", "_law_size", "_law_bottom", "_law_shift", "_law_wide", "_law_way", "_law_steps", "_law_each", "_law_whole", "_law_top", "_law_at", "_law_marks", "_law_step"]) (sc := defScope s__law_rule) (by decide +kernel)) (fun _ _ _ _ _ => (pg_name (i := 11) sc__law_rule.nd rfl (Or.inl rfl))) (fun _ _ _ _ _ => pts_nil) (fun _ _ _ _ _ => (pe_op op_mul pe_int (pe_op op_add (pe_op op_mulW (pv 3) (pv 11)) (pv 4)))))
      (pss_cons (ps_par (i := 11) (j := 13) (by rfl) sc__law_rule.nd rfl rfl (by decide) rfl rfl (pa_cons (pe_c C__law_draw hr (by decide) (by rfl) (pa_cons (pv 0) (pa_cons (pv 2) pa_nil))) (pa_cons (pe_c C__law_pick hr (by decide) (by rfl) (pa_cons (pv 0) (pa_cons (pe_lst (pa_cons pe_int (pa_cons (pv 3) (pa_cons (pe_op op_sub (pe_op op_mul pe_int (pv 3)) pe_int) pa_nil)))) pa_nil))) pa_nil)) (by rfl))
      (pss_cons (ps_asg (pe_callB (call_max2 rfl) (by rfl) B.max (by decide +kernel) (pa_cons pe_int (pa_cons (pe_op op_add (pe_ix ix_seq (pv 12) (pv 11) (fun _ _ => rfl)) (pe_op op_mulW (pv 13) (pe_c C__law_pick hr (by decide) (by rfl) (pa_cons (pv 0) (pa_cons (pe_lst (pa_cons pe_int (pa_cons (pe_un un_neg pe_int) pa_nil))) pa_nil))))) pa_nil))) (pg_sub (pv 12) (pv 11) set_list))
      (pss_one (ps_ret (pe_tup (pa_cons (pe_op op_mul pe_int (pv 3)) (pa_cons (pv 12) (pa_cons (pe_op op_mul pe_int (pv 4)) pa_nil))))))))))))))), ?_⟩
    -- size
    refine ⟨_, rfl, by show 8 ≤ sizeLine; decide, fun l1 n1 => ?_⟩
    have e1 : l1 ≠ a := fun z => tk.ne (by rw [← z]; exact n1)
    refine ⟨a, l1, ([0, 0, 1, 1, 2, 3, 5, 8] : List Int).map V.int, rfl, tk.keep (same_new n1), .inl (.inl upd_same), e1, by decide, by decide, fun v H1 hv go1 tk1 => ?_⟩
    obtain ⟨szI, hsz, rfl⟩ := pk_ints hv
    obtain ⟨sz, rfl, sz8⟩ : ∃ sz : Nat, szI = (sz : Int) ∧ sz ≤ 8 := by
      refine ⟨szI.toNat, ?_, ?_⟩ <;> (simp only [List.mem_cons, List.not_mem_nil, or_false] at hsz; omega)
    have g1 : Go A0 H H1 := (Go.new n1).trans (go1 A0 aA)
    have hl1 : SqL K H1 l (bs.map V.int) := seqL_go ((Go.new n1).trans (go1 [a] (by simp))) nla hl
    have hA1 := g1.held hA
    -- bottom
    refine ⟨_, rfl, _, rfl, a, l, bs.map V.int, rfl, tk1, hl1, nla, by rw [List.length_map]; exact bl0, by rw [List.length_map]; exact bl1, fun v2 H2 hv2 go2 tk2 => ?_⟩
    obtain ⟨bt, hbt, rfl⟩ := pk_ints hv2
    obtain ⟨b0, b1⟩ := hbs bt hbt
    have g2 : Go A0 H H2 := g1.trans (go2 A0 aA)
    have hA2 := g2.held hA
    -- shift
    refine ⟨_, rfl, _, rfl, _, rfl, _, _, rfl, rfl, ⟨by decide, by decide⟩, ?_⟩
    refine ⟨_, rfl, _, rfl, _, _, rfl, rfl, (by refine ⟨by decide, by decide, by decide⟩), _, _, rfl, _, _, rfl, rfl, ?_⟩
    obtain ⟨M, eM, hM0, hM1, hM2⟩ : ∃ M : Int, (if (10 : Int) ^ (6 : Int).toNat < bt then (10 : Int) ^ (6 : Int).toNat else bt) = M ∧ 0 < M ∧ M ≤ bt ∧ M ≤ 1000000 := ⟨_, rfl, by
      have : (10 : Int) ^ (6 : Int).toNat = 1000000 := rfl
      rw [this]; split <;> omega, by
      have : (10 : Int) ^ (6 : Int).toNat = 1000000 := rfl
      rw [this]; split <;> omega, by
      have : (10 : Int) ^ (6 : Int).toNat = 1000000 := rfl
      rw [this]; split <;> omega⟩
    refine ⟨a, M + 1, by rw [eM]; rfl, tk2, by omega, by omega, fun r H3 r0 r1 go3 tk3 => ?_⟩
    have g3 : Go A0 H H3 := g2.trans (go3 A0 aA)
    have hA3 := g3.held hA
    refine ⟨by show 4 ≤ sizeLine; decide, fun l4 n4 => ?_⟩
    have e4 : l4 ≠ a := fun z => tk3.ne (by rw [← z]; exact n4)
    refine ⟨a, l4, ([0, bt, bt / 2, r] : List Int).map V.int, rfl, tk3.keep (same_new n4), .inl (.inl upd_same), e4, by show 0 < 4; decide, by show 4 < 1000; decide, fun v5 H5 hv5 go5 tk5 => ?_⟩
    obtain ⟨sh, hsh, rfl⟩ := pk_ints hv5
    obtain ⟨s0, s1⟩ : 0 ≤ sh ∧ sh ≤ bt := by
      simp only [List.mem_cons, List.not_mem_nil, or_false] at hsh
      omega
    have g5 : Go A0 H H5 := (g3.trans (Go.new n4)).trans (go5 A0 aA)
    have hA5 := g5.held hA
    -- wide, way
    refine ⟨_, rfl, by show 4 ≤ sizeLine; decide, fun l6 n6 => ?_⟩
    have e6 : l6 ≠ a := fun z => tk5.ne (by rw [← z]; exact n6)
    refine ⟨a, l6, ([1, 2, 5, 1000] : List Int).map V.int, rfl, tk5.keep (same_new n6), .inl (.inl upd_same), e6, by decide, by decide, fun v7 H7 hv7 go7 tk7 => ?_⟩
    obtain ⟨wd, hwd, rfl⟩ := pk_ints hv7
    obtain ⟨wd0, wd1⟩ : 1 ≤ wd ∧ wd ≤ 1000 := by
      simp only [List.mem_cons, List.not_mem_nil, or_false] at hwd
      omega
    have g7 : Go A0 H H7 := (g5.trans (Go.new n6)).trans (go7 A0 aA)
    refine ⟨_, rfl, a, 4, rfl, tk7, by decide, by decide, fun wy H8 wy0 wy1 go8 tk8 => ?_⟩
    have g8 : Go A0 H H8 := g7.trans (go8 A0 aA)
    refine ⟨by show 2 ≤ sizeLine; decide, fun t9 n9 => ?_⟩
    refine ⟨t9, _, rfl, .inl (.inl upd_same), rfl, .int wd, [.int wy], rfl, .int wy, [], rfl, rfl, ?_⟩
    have g9 := g8.trans (Go.new n9 (o := .tup [.int wd, .int wy]) (A := A0))
    have tk9 := tk8.keep (same_new n9 (o := .tup [.int wd, .int wy]))
    have hA9 := g9.held hA
    generalize (upd H8 t9 (.tup [.int wd, .int wy])) = H9 at g9 tk9 hA9 ⊢
    -- no head
    refine ⟨_, rfl, rfl, _, rfl, ite2 (fun e => ?_) (fun e => ?_)⟩
    · refine ⟨_, rfl, Nat.zero_le _, fun p np => ⟨_, rfl, by show 3 ≤ sizeLine; decide, fun q nq => ?_⟩⟩
      refine k _ _ bt [] sh ((g9.trans (Go.new np)).trans (Go.new nq)) ((tk9.keep (same_new np)).keep (same_new nq)) (rawR_mk (ms := []) (hd_new hA9 np) nq upd_same (hA9.out np)) (IR.bare b0 (by omega) s0 s1) (by omega)
    have sz0 : 0 < sz := by
      rcases Nat.eq_zero_or_pos sz with z | z
      · exact absurd (by rw [z]; exact decide_eq_true rfl) e
      · exact z
    -- way > 0
    refine ⟨_, rfl, _, _, rfl, rfl, _, rfl, ite2 (fun e => ?_) (fun e => ?_)⟩
    · refine ⟨_, rfl, _, rfl, _, _, rfl, rfl, a, wd + 1, rfl, tk9, by omega, by omega, fun d0 HA d00 d01 goA tkA => ?_⟩
      have gA : Go A0 H HA := g9.trans (goA A0 aA)
      refine ⟨by show 1 ≤ sizeLine; decide, fun lB nB => ?_⟩
      have gB : Go A0 H (upd HA lB (.lst [.int d0])) := gA.trans (Go.new nB)
      have tkB : PoolAt (upd HA lB (.lst [.int d0])) a := tkA.keep (same_new nB)
      have eB : (upd HA lB (.lst [.int d0])) lB = some (.lst [.int d0]) := upd_same
      have naB : lB ≠ a := fun z => tkA.ne (by rw [← z]; exact nB)
      generalize (upd HA lB (.lst [.int d0])) = HB at gB tkB eB ⊢
      have hAB := gB.held hA
      refine ⟨_, rfl, ((sz : Nat) : Int), rfl, by omega, by omega, fun D nD => ?_⟩
      have nDa : D ≠ a := fun z => tkB.ne (by rw [← z]; exact nD)
      have nDB : D ≠ lB := fun z => by rw [z, eB] at nD; cases nD
      refine lc_range (lo := 0) (fun i H2 => Go A0 HB H2 ∧ PoolAt H2 a ∧ H2 lB = some (.lst [.int d0]) ∧ ∃ ds : List Int, ds.length = i ∧ (∀ d ∈ ds, 1 ≤ d ∧ d ≤ 1000) ∧ H2 D = some (.lst (ds.map V.int)))
        ⟨Go.new nD, tkB.keep (same_new nD), same_new nD _ _ eB, [], rfl, fun d hd => (by cases hd), upd_same⟩ ?_ ?_
      · rintro i H2 hi ⟨g, tk2', eB2, ds, dl, db, eD⟩
        refine ⟨rfl, _, rfl, _, rfl, a, wd, rfl, tk2', by omega, by omega, fun r H3 r0' r1' go tk3' => ?_⟩
        have go1' := go [a] (by simp)
        have eD3 : H3 D = some (.lst (ds.map V.int)) := go1'.keep D _ (by simpa using nDa) eD
        have eB3 : H3 lB = some (.lst [.int d0]) := go1'.keep lB _ (by simpa using naB) eB2
        refine ⟨_, _, rfl, rfl, ds.map V.int, eD3, by rw [List.length_map, dl]; exact small1000 (by have z : i < sz := (by simpa using hi); omega), Go.own nD (g.trans (go A0 aA)), tk3'.own (fun z => nDa z.symm), by rw [upd_ne (fun z => nDB z.symm)]; exact eB3, ds ++ [1 + r], by simp [dl], ?_, ?_⟩
        · intro d hd
          rcases List.mem_append.mp hd with z | z
          · exact db d z
          · rw [List.mem_singleton.mp z]; omega
        · rw [upd_same, List.map_append]; rfl
      · rintro H2 ⟨g, tk2', eB2, ds, dl, db, eD⟩
        have dl' : ds.length = sz := by rw [dl]; simp
        refine ⟨lB, D, _, _, rfl, rfl, eB2, eD, ?_, fun t nt => ?_⟩
        · rw [List.length_map, dl', sizeLine_eq]; show 1 + sz ≤ _; omega
        have gC : Go A0 H (upd H2 t (.lst ([.int d0] ++ ds.map V.int))) := (gB.trans g).trans (Go.new nt)
        have tkC : PoolAt (upd H2 t (.lst ([.int d0] ++ ds.map V.int))) a := tk2'.keep (same_new nt)
        have eC : (upd H2 t (.lst ([.int d0] ++ ds.map V.int))) t = some (.lst ((d0 :: ds).map V.int)) := upd_same
        generalize (upd H2 t (.lst ([.int d0] ++ ds.map V.int))) = HC at gC tkC eC ⊢
        have d0b : 0 ≤ d0 ∧ d0 ≤ 1000 := ⟨d00, by omega⟩
        obtain ⟨IRr, bw⟩ := IR.sums (bt := bt) (sh := sh) (d0 := d0) (ds := ds) b0 b1 s0 s1 (by omega) (by omega) d0b db
        obtain ⟨x1, x2⟩ := sum_between (T := d0 :: ds) (lo := 0) (hi := 1000) (fun d hd => by
          rcases List.mem_cons.mp hd with z | z
          · rw [z]; exact d0b
          · have := db d z; omega)
        have tl : ((d0 :: ds).length : Int) = (sz : Int) + 1 := by rw [List.length_cons, dl']; omega
        rw [tl] at x1 x2
        have szb : ((sz : Int) + 1) * 1000 ≤ 9000 := by omega
        refine ⟨_, rfl, t, d0 :: ds, rfl, .inl (.inl eC), ?_⟩
        refine ⟨_, rfl, _, rfl, _, _, rfl, rfl, wide_mul (a := 10) (b := 50) (by omega) (by omega) (by decide) (by decide) (by decide), _, rfl, _, _, rfl, rfl, by show 2 ≤ sizeLine; decide, fun u nu => ?_⟩
        refine ⟨u, _, rfl, .inl (.inl upd_same), rfl, .int (d0 :: ds).sum, [.int ((sz : Int) * bt + sh)], rfl, .int ((sz : Int) * bt + sh), [], rfl, rfl, ?_⟩
        have gD := gC.trans (Go.new nu (A := A0) (o := .tup [.int (d0 :: ds).sum, .int ((sz : Int) * bt + sh)]))
        have tkD := tkC.keep (same_new nu (o := .tup [.int (d0 :: ds).sum, .int ((sz : Int) * bt + sh)]))
        have eCD := same_new nu (o := .tup [.int (d0 :: ds).sum, .int ((sz : Int) * bt + sh)]) _ _ eC
        generalize (upd HC u (.tup [.int (d0 :: ds).sum, .int ((sz : Int) * bt + sh)])) = HD at gD tkD eCD ⊢
        have hAD := gD.held hA
        have szt : (sz : Int) * bt ≤ 8 * bt := Int.mul_le_mul_of_nonneg_right (by omega) (by omega)
        have szp : 0 ≤ (sz : Int) * bt := Int.mul_nonneg (by omega) (by omega)
        refine ⟨_, rfl, _, rfl, _, _, rfl, rfl, wide_mul (a := 50) (b := 20) (by omega) (by omega) (by decide) (by decide) (by decide), ?_⟩
        refine ⟨_, rfl, ((sz : Nat) : Int), rfl, by omega, by omega, fun D2 nD2 => ?_⟩
        have nD2t : D2 ≠ t := fun z => by rw [z, eCD] at nD2; cases nD2
        refine lc_range (lo := 0) (fun i H5 => Same HD H5 ∧ H5 D2 = some (.lst (((List.range i).map fun j => ((sz : Int) * bt + sh) * ((d0 :: ds).take (j + 1)).sum).map V.int)))
          ⟨same_new nD2, upd_same⟩ ?_ ?_
        · rintro i H5 hi ⟨s5, e5⟩
          have hi' : i < sz := by simpa using hi
          have e0 : (0 + ((i : Nat) : Int) + 1) = (((i + 1 : Nat)) : Int) := by omega
          refine ⟨rfl, _, rfl, _, rfl, _, rfl, _, _, rfl, rfl, _, rfl, t, (d0 :: ds).map V.int, rfl, .inl (.inl (s5 _ _ eCD)), fun p np => ?_⟩
          rw [e0, cut_to, ← List.map_take]
          have pb := sum_between (T := (d0 :: ds).take (i + 1)) (lo := 0) (hi := 1000) (fun d hd => by
            rcases List.mem_cons.mp (List.mem_of_mem_take hd) with z | z
            · rw [z]; exact d0b
            · have := db d z; omega)
          have pl : ((d0 :: ds).take (i + 1)).length ≤ 9 := by rw [List.length_take, List.length_cons]; omega
          refine ⟨p, (d0 :: ds).take (i + 1), rfl, .inl (.inl upd_same), _, _, rfl, rfl, wide_mul (a := 60) (b := 20) (by omega) (by omega) (by decide) (by decide) (by decide), ?_⟩
          have npD : p ≠ D2 := fun z => by rw [z, e5] at np; cases np
          refine ⟨_, same_new np _ _ e5, ?_, fun b o e => ?_, ?_⟩
          · rw [List.length_map, List.length_map, List.length_range]; exact small1000 (by omega)
          · rw [upd_ne (ne_of_none e nD2)]
            exact same_new np _ _ (s5 _ _ e)
          · rw [upd_same, List.range_succ, List.map_append, List.map_append]
            rfl
        · rintro H5 ⟨s5, e5⟩
          refine ⟨_, rfl, _, rfl, _, _, rfl, rfl, wide_mul (a := 50) (b := 20) (by omega) (by omega) (by decide) (by decide) (by decide), by show 3 ≤ sizeLine; decide, fun q nq => ?_⟩
          have hA5 := (Go.of (A := A0) s5).held hAD
          have nDA : D2 ∉ A0 := hAD.out nD2
          have szN : (((sz : Nat) : Int)).toNat = ds.length := by omega
          rw [szN] at e5
          have eS : (sz : Int) = (ds.length : Int) := by omega
          rw [← eS] at IRr
          refine k _ _ _ _ _ ((gD.trans (Go.of s5)).trans (Go.new nq)) ((tkD.keep s5).keep (same_new nq)) ?_ IRr bw
          exact rawR_mk hA5 nq e5 nDA
    · refine ⟨_, rfl, ((sz : Nat) : Int), rfl, by omega, by omega, fun D nD => ?_⟩
      have nDa : D ≠ a := fun z => tk9.ne (by rw [← z]; exact nD)
      refine lc_range (lo := 0) (fun i H2 => Same H9 H2 ∧ H2 D = some (.lst ((evens bt sh i).map V.int))) ⟨same_new nD, upd_same⟩ ?_ ?_
      · rintro i H2 hi ⟨s2, eD⟩
        have hi' : i < sz := by simpa using hi
        have e0 : (0 + ((i : Nat) : Int)) = ((i : Nat) : Int) := by omega
        refine ⟨rfl, _, rfl, _, rfl, _, _, rfl, rfl, wide_mul (a := 50) (b := 20) (by omega) (by omega) (by decide) (by decide) (by decide), _, rfl, _, _, rfl, rfl, _, _, rfl, rfl, .inl ⟨by decide, by decide⟩, ?_⟩
        refine ⟨_, eD, ?_, fun b o e => ?_, ?_⟩
        · rw [List.length_map]; unfold evens; rw [List.length_map, List.length_range]; exact small1000 (by omega)
        · rw [upd_ne (ne_of_none e nD)]; exact s2 _ _ e
        · rw [upd_same]
          unfold evens
          rw [List.range_succ, List.map_append, List.map_append, e0]
          rfl
      · rintro H2 ⟨s2, eD⟩
        have szN : (((sz : Nat) : Int)).toNat = sz := by omega
        rw [szN] at eD
        have gE := g9.trans (Go.of (A := A0) s2)
        have tkE := tk9.keep s2
        -- which one, and by how much
        refine ⟨_, rfl, _, rfl, a, ((sz : Nat) : Int), rfl, tkE, by omega, by omega, fun at_ H3 at0 at1 go3' tk3' => ?_⟩
        have eD3 : H3 D = some (.lst ((evens bt sh sz).map V.int)) := (go3' [a] (by simp)).keep D _ (by simpa using nDa) eD
        have gF : Go A0 H H3 := gE.trans (go3' A0 aA)
        have nD9 : Go A0 H9 H3 := (Go.of s2).trans (go3' A0 aA)
        refine ⟨_, rfl, _, rfl, _, rfl, _, _, rfl, rfl, .inl ⟨by decide, by decide⟩, _, _, rfl, rfl, by show 3 ≤ sizeLine; decide, fun l5 n5 => ?_⟩
        have e5 : l5 ≠ a := fun z => tk3'.ne (by rw [← z]; exact n5)
        refine ⟨a, l5, ([1, bt, 2 * bt - 1] : List Int).map V.int, rfl, tk3'.keep (same_new n5), .inl (.inl upd_same), e5, by show 0 < 3; decide, by show 3 < 1000; decide, fun v4 H4 hv4 go4 tk4 => ?_⟩
        obtain ⟨st, hst, rfl⟩ := pk_ints hv4
        obtain ⟨st0, st1⟩ : 1 ≤ st ∧ st ≤ 2 * bt - 1 := by
          simp only [List.mem_cons, List.not_mem_nil, or_false] at hst
          omega
        have eD4 : H4 D = some (.lst ((evens bt sh sz).map V.int)) := (go4 [a] (by simp)).keep D _ (by simpa using nDa) (same_new n5 _ _ eD3)
        have gG : Go A0 H H4 := (gF.trans (Go.new n5)).trans (go4 A0 aA)
        have nDG : Go A0 H9 H4 := (nD9.trans (Go.new n5)).trans (go4 A0 aA)
        refine ⟨_, _, rfl, ?_⟩
        -- marks[at] = max(0, ..)
        have mk : (evens bt sh sz)[at_.toNat]? = some (2 * (bt * ((at_.toNat : Nat) : Int) + sh)) := by
          unfold evens
          rw [List.getElem?_map, List.getElem?_range (by omega)]
          rfl
        have atN : ((at_.toNat : Nat) : Int) = at_ := by omega
        refine ⟨_, rfl, _, rfl, rd_raw (w := V.int (2 * (bt * ((at_.toNat : Nat) : Int) + sh))) (.inl (.inl eD4)) at0 (map_some mk) ?_⟩
        refine ⟨_, rfl, _, rfl, _, rfl, by show 2 ≤ sizeLine; decide, fun l6' n6' => ?_⟩
        have e6' : l6' ≠ a := fun z => tk4.ne (by rw [← z]; exact n6')
        refine ⟨a, l6', ([1, -1] : List Int).map V.int, rfl, tk4.keep (same_new n6'), .inl (.inl upd_same), e6', by decide, by decide, fun v6 H6 hv6 go6 tk6 => ?_⟩
        obtain ⟨sg, hsg, rfl⟩ := pk_ints hv6
        obtain hsg : sg = 1 ∨ sg = -1 := by simpa using hsg
        have eD6 : H6 D = some (.lst ((evens bt sh sz).map V.int)) := (go6 [a] (by simp)).keep D _ (by simpa using nDa) (same_new n6' _ _ eD4)
        have gH : Go A0 H H6 := (gG.trans (Go.new n6')).trans (go6 A0 aA)
        have nDH : Go A0 H9 H6 := (nDG.trans (Go.new n6')).trans (go6 A0 aA)
        have btb : 0 ≤ bt * ((at_.toNat : Nat) : Int) := Int.mul_nonneg (by omega) (by omega)
        have fct : st * sg = st ∨ st * sg = -st := by
          rcases hsg with z | z <;> rw [z]
          · exact .inl (Int.mul_one _)
          · exact .inr (by rw [Int.mul_neg, Int.mul_one])
        refine ⟨_, _, rfl, rfl, wide_mul (a := 60) (b := 5) (by omega) (by omega) (by decide) (by decide) (by decide), _, _, rfl, rfl, _, _, rfl, ?_⟩
        obtain ⟨y, ey, y0, ylo, yhi⟩ : ∃ y : Int, (if 2 * (bt * ((at_.toNat : Nat) : Int) + sh) + st * sg > 0 then 2 * (bt * ((at_.toNat : Nat) : Int) + sh) + st * sg else 0) = y ∧ 0 ≤ y ∧ (at_.toNat ≠ 0 → 2 * (bt * ((at_.toNat : Nat) : Int) + sh) - 2 * bt < y) ∧ y < 2 * (bt * ((at_.toNat : Nat) : Int) + sh) + 2 * bt := by
          refine ⟨_, rfl, ?_, ?_, ?_⟩
          · split <;> omega
          · intro z
            split <;> omega
          · split <;> omega
        obtain ⟨IRr, bw⟩ := IR.moved (bt := bt) (sh := sh) (y := y) (n := sz) (at_ := at_.toNat) b0 b1 s0 s1 sz8 (by omega) y0 ylo yhi
        refine ⟨_, rfl, _, rfl, D, _, _, at_.toNat, rfl, rfl, eD6, ?_, ?_⟩
        · exact ix_nn at0 (by rw [List.length_map]; unfold evens; rw [List.length_map, List.length_range]; omega)
        have eQ : ((evens bt sh sz).map V.int).set at_.toNat (V.int (if 2 * (bt * ((at_.toNat : Nat) : Int) + sh) + st * sg > 0 then 2 * (bt * ((at_.toNat : Nat) : Int) + sh) + st * sg else 0)) = ((evens bt sh sz).set at_.toNat y).map V.int := by
          rw [ey, List.map_set]
        have eD7 : (upd H6 D (.lst (((evens bt sh sz).set at_.toNat y).map V.int))) D = some (.lst (((evens bt sh sz).set at_.toNat y).map V.int)) := upd_same
        refine ⟨_, rfl, _, _, rfl, rfl, .inl ⟨by decide, by decide⟩, _, rfl, _, rfl, _, _, rfl, rfl, .inl ⟨by decide, by decide⟩, by show 3 ≤ sizeLine; decide, fun q nq => ?_⟩
        have hAH := nDH.held hA9
        have nDA : D ∉ A0 := hA9.out nD
        have gI : Go A0 H9 (upd H6 D (.lst (((evens bt sh sz).set at_.toNat y).map V.int))) := Go.own nD nDH
        have hAI := gI.held hA9
        have tkI : PoolAt (upd H6 D (.lst (((evens bt sh sz).set at_.toNat y).map V.int))) a := tk6.own (fun z => nDa z.symm)
        rw [eQ] at nq ⊢
        refine k _ _ _ _ _ ((g9.trans gI).trans (Go.new nq)) (tkI.keep (same_new nq)) ?_ IRr bw
        exact rawR_mk hAI nq eD7 nDA
end

end LW

set_option Elab.async false
set_option linter.all false
set_option maxRecDepth 100000
set_option maxHeartbeats 4000100
set_option exponentiation.threshold 9000

namespace LW
open L2 PySem.Spec PyProof.Rows PySem
abbrev s__law_common : Stmt := topS 56
theorem sc__law_common : FnScope ["_law_one", "_law_two"] ["_law_one", "_law_two"] (defScope s__law_common) := ⟨rfl, rfl, rfl, by decide +kernel, rfl, by decide +kernel, by decide +kernel⟩
abbrev s__law_word : Stmt := topS 57
theorem sc__law_word : FnScope ["_law_top", "_law_bottom", "_law_by"] ["_law_top", "_law_bottom"] (defScope s__law_word) := ⟨rfl, rfl, rfl, by decide +kernel, rfl, by decide +kernel, by decide +kernel⟩
abbrev s__law_made : Stmt := topS 58
theorem sc__law_made : FnScope ["_law_own", "_law_words", "_law_mark"] ["_law_own"] (defScope s__law_made) := ⟨rfl, rfl, rfl, by decide +kernel, rfl, by decide +kernel, by decide +kernel⟩
local macro_rules | `(tactic| walk_at "len") => `(tactic| skip)
/-! ### words, the rule itself -/
section
variable {P : Program} {w : World} {K : PySem.W.Frag} {mg : Str → Option Value} {base : Heap} {c : Addr}
def sp__law_common (K : PySem.W.Frag) (c : Addr) : Sp := fun vs H Q _ => ∃ (t b : Int), vs = [.int t, .int b] ∧ 0 ≤ t ∧ 0 < b ∧ Q (.int ((Nat.gcd t.natAbs b.natAbs : Nat) : Int)) H
theorem cal__law_common (B : Bl mg) (DD : OwnDef K mg "_law_common" s__law_common)   : Cal P w K mg base 1 "_law_common" (sp__law_common K c) [] := by
  obtain ⟨f, fd, F, hm⟩ := DD.ex
  refine ⟨f, fd, ["_law_one", "_law_two"], [], F.ok sc__law_common (fun vs H Q E h => ?len) (fun cdv A outer s H vs Q E hr h => ?run), hm, F.kp, F.binds (fun _ _ _ _ _ _ us hl => match us, hl with | [_, _], _ => rfl), .nil⟩
  case len => first | (obtain ⟨_, rfl, _⟩ := h; rfl) | (obtain ⟨_, _, rfl, _⟩ := h; rfl) | (obtain ⟨_, _, _, rfl, _⟩ := h; rfl) | (obtain ⟨_, _, _, _, rfl, _⟩ := h; rfl) | (obtain ⟨_, _, _, _, _, rfl, _⟩ := h; rfl) | (obtain ⟨_, _, _, _, _, _, rfl, _⟩ := h; rfl) | (obtain ⟨_, _, _, _, _, _, _, rfl, _⟩ := h; rfl) | (obtain ⟨_, _, _, _, _, _, _, _, rfl, _⟩ := h; rfl) | (obtain ⟨_, _, _, _, _, _, _, _, _, rfl, _⟩ := h; rfl) | (obtain ⟨_, _, _, _, _, _, _, _, _, _, rfl, _⟩ := h; rfl) | (obtain ⟨_, _, _, _, _, _, _, _, _, _, _, rfl, _⟩ := h; rfl) | (obtain ⟨_, _, _, _, _, _, _, _, _, _, _, _, rfl, _⟩ := h; rfl) | (obtain ⟨_, _, _, _, _, _, _, _, _, _, _, _, _, rfl, _⟩ := h; rfl) | (obtain ⟨_, _, _, _, _, _, _, _, _, _, _, _, _, _, rfl, _⟩ := h; rfl)
  case run =>
    obtain ⟨t, b, rfl, ht, hb, q⟩ := h
    refine ⟨_, (pss_cons (ps_while PassesOwn.never (pt_cmpR op_gt (pv 1) pe_int (nomark _)) (pss_one (ps_par (i := 0) (j := 1) (by rfl) sc__law_common.nd rfl rfl (by decide) rfl rfl (pa_cons (pv 1) (pa_cons (pe_op op_mod (pe_callTy call_int1 (by rfl) B.int (by decide +kernel) (pa_cons (pv 0) pa_nil)) (pv 1)) pa_nil)) (by rfl))))
      (pss_one (ps_ret (pv 0)))), ?_⟩
    refine while_by (fun σ H2 => ∃ m n : Nat, σ = [some (.int (m : Int)), some (.int (n : Int))] ∧ H2 = H ∧ Nat.gcd m n = Nat.gcd t.natAbs b.natAbs)
      (fun σ _ => match σ with | [_, some (.int n)] => n.toNat | _ => 0) ⟨t.natAbs, b.natAbs, ?_, rfl, rfl⟩ ?_ ?_
    · have e1 : t = ((t.natAbs : Nat) : Int) := by omega
      have e2 : b = ((b.natAbs : Nat) : Int) := by omega
      rw [← e1, ← e2]
      rfl
    · rintro σ H2 ⟨m, n, rfl, rfl, hmn⟩
      refine ⟨_, rfl, _, _, rfl, rfl, _, rfl, ite2 (fun e => ?_) (fun e => ?_)⟩
      · have hn : 0 < (n : Int) := of_decide_eq_true e
        refine ⟨_, rfl, _, rfl, .inl ⟨_, rfl, _, rfl, _, _, rfl, rfl, hn, _, _, rfl, ⟨n, m % n, rfl, rfl, ?_⟩, ?_⟩⟩
        · rw [← hmn, Nat.gcd_comm n (m % n), Nat.gcd_comm m n]
          exact (Nat.gcd_rec n m).symm
        · show ((m : Int) % (n : Int)).toNat < (n : Int).toNat
          have := Int.emod_lt_of_pos (m : Int) hn
          have := Int.emod_nonneg (m : Int) (show (n : Int) ≠ 0 by omega)
          omega
      · have hn : ¬ 0 < (n : Int) := fun z => e (decide_eq_true z)
        have e0 : n = 0 := by omega
        subst e0
        rw [Nat.gcd_zero_right] at hmn
        subst hmn
        exact ⟨_, rfl, q⟩
    · rintro σ H2 Q1 Q2 hQ ⟨v, e, i, j, e1, e2, k, ek, q'⟩
      exact ⟨v, e, i, j, e1, e2, k, ek, hQ _ _ q'⟩
def sp__law_word (K : PySem.W.Frag) (c : Addr) : Sp := fun vs H Q _ => ∃ (t b : Int), vs = [.int t, .int b] ∧ 0 ≤ t ∧ 0 < b ∧ t < 10 ^ 50 ∧ b < 10 ^ 50 ∧ Q (.str (SX.S (qL (lowQ t b)))) H
theorem cal__law_word (B : Bl mg) (DD : OwnDef K mg "_law_word" s__law_word) (C__law_common : Cal P w K mg base 1 "_law_common" (sp__law_common K c) [])  : Cal P w K mg base 2 "_law_word" (sp__law_word K c) [] := by
  obtain ⟨f, fd, F, hm⟩ := DD.ex
  refine ⟨f, fd, ["_law_top", "_law_bottom"], [], F.ok sc__law_word (fun vs H Q E h => ?len) (fun cdv A outer s H vs Q E hr h => ?run), hm, F.kp, F.binds (fun _ _ _ _ _ _ us hl => match us, hl with | [_, _], _ => rfl), .nil⟩
  case len => first | (obtain ⟨_, rfl, _⟩ := h; rfl) | (obtain ⟨_, _, rfl, _⟩ := h; rfl) | (obtain ⟨_, _, _, rfl, _⟩ := h; rfl) | (obtain ⟨_, _, _, _, rfl, _⟩ := h; rfl) | (obtain ⟨_, _, _, _, _, rfl, _⟩ := h; rfl) | (obtain ⟨_, _, _, _, _, _, rfl, _⟩ := h; rfl) | (obtain ⟨_, _, _, _, _, _, _, rfl, _⟩ := h; rfl) | (obtain ⟨_, _, _, _, _, _, _, _, rfl, _⟩ := h; rfl) | (obtain ⟨_, _, _, _, _, _, _, _, _, rfl, _⟩ := h; rfl) | (obtain ⟨_, _, _, _, _, _, _, _, _, _, rfl, _⟩ := h; rfl) | (obtain ⟨_, _, _, _, _, _, _, _, _, _, _, rfl, _⟩ := h; rfl) | (obtain ⟨_, _, _, _, _, _, _, _, _, _, _, _, rfl, _⟩ := h; rfl) | (obtain ⟨_, _, _, _, _, _, _, _, _, _, _, _, _, rfl, _⟩ := h; rfl) | (obtain ⟨_, _, _, _, _, _, _, _, _, _, _, _, _, _, rfl, _⟩ := h; rfl)
  case run =>
    obtain ⟨t, b, rfl, ht, hb, ht2, hb2, k⟩ := h
    refine ⟨_, (pss_cons (ps_set (i := 2) sc__law_word.nd rfl (Or.inl rfl) (pe_c C__law_common hr (by decide) (by rfl) (pa_cons (pv 0) (pa_cons (pv 1) pa_nil))))
      (pss_one (ps_ret (pe_ifExp (pt_cmpR op_eq (pv 2) (pv 1) (nomark _)) (pe_callTy call_str_int (by rfl) B.str (by decide +kernel) (pa_cons (pe_op op_fdivW (pv 0) (pv 2)) pa_nil)) (pe_op op_add_str (pe_op op_add_str (pe_callTy call_str_int (by rfl) B.str (by decide +kernel) (pa_cons (pe_op op_fdivW (pv 0) (pv 2)) pa_nil)) pe_str) (pe_callTy call_str_int (by rfl) B.str (by decide +kernel) (pa_cons (pe_op op_fdivW (pv 1) (pv 2)) pa_nil))))))), ?_⟩
    have ok := OkW.low ht hb ht2 hb2
    have hg : 0 < Nat.gcd t.natAbs b.natAbs := gcd_pos hb
    have hg2 : Nat.gcd t.natAbs b.natAbs < 2 ^ 8000 := Nat.lt_of_le_of_lt (gcd_le hb) (Nat.lt_trans (show b.natAbs < 2 ^ 200 by omega) (by decide +kernel))
    have hd1 : CDivW t ((Nat.gcd t.natAbs b.natAbs : Nat) : Int) := wide_div (b := 8000) (by omega) (by simpa using hg2) (by decide) (by decide)
    have hd2 : CDivW b ((Nat.gcd t.natAbs b.natAbs : Nat) : Int) := wide_div (b := 8000) (by omega) (by simpa using hg2) (by decide) (by decide)
    have sl : sizeLine = 16777216 := sizeLine_eq
    have c47 : ("/" : Str) = SX.S [47] := by decide +kernel
    have l1 := numL_50 ok.a ok.a2
    have l2 := numL_50 (Int.le_of_lt ok.b) ok.b2
    have v1 : t / ((Nat.gcd t.natAbs b.natAbs : Nat) : Int) = (lowQ t b).1 := rfl
    have v2 : b / ((Nat.gcd t.natAbs b.natAbs : Nat) : Int) = (lowQ t b).2 := rfl
    refine ⟨_, rfl, _, rfl, t, b, rfl, ht, hb, ?_⟩
    refine ⟨_, rfl, _, rfl, rfl, _, rfl, ite2 (fun e => ?_) (fun e => ?_)⟩
    · have e1 : ((Nat.gcd t.natAbs b.natAbs : Nat) : Int) = b := V.int.inj (of_decide_eq_true e)
      have e2 : (lowQ t b).2 = 1 := by
        rw [← v2, e1]
        exact Int.ediv_self (by omega)
      refine ⟨_, rfl, _, rfl, _, _, rfl, rfl, hd1, ?_⟩
      refine ⟨_, rfl, by rw [v1]; exact log2_50 ok.a ok.a2, ?_⟩
      have z : SX.S (qL (lowQ t b)) = Str.ofString (toString (lowQ t b).1) := by rw [toS ok.a]; unfold qL; rw [if_pos e2]
      rw [z] at k
      exact k
    · have e1 : ¬ ((Nat.gcd t.natAbs b.natAbs : Nat) : Int) = b := fun z => e (decide_eq_true (congrArg V.int z))
      have e2 : ¬ (lowQ t b).2 = 1 := by
        intro z
        obtain ⟨g, hg0, a1, a2⟩ := low_mul (t := t) hb
        have : (b / ((Nat.gcd t.natAbs b.natAbs : Nat) : Int)) * ((Nat.gcd t.natAbs b.natAbs : Nat) : Int) = b := Int.ediv_mul_cancel (Int.ofNat_dvd_left.mpr (Nat.gcd_dvd_right _ _))
        rw [v2, z, Int.one_mul] at this
        exact e1 this
      refine ⟨_, rfl, _, rfl, _, _, rfl, rfl, hd1, ?_⟩
      refine ⟨_, rfl, by rw [v1]; exact log2_50 ok.a ok.a2, _, _, rfl, rfl, ?_, ?_⟩
      · rw [v1, toS ok.a, SX.S_len, c47, SX.S_len, sl, List.length_cons, List.length_nil]; omega
      refine ⟨_, rfl, _, rfl, _, _, rfl, rfl, hd2, ?_⟩
      refine ⟨_, rfl, by rw [v2]; exact log2_50 (Int.le_of_lt ok.b) ok.b2, _, _, rfl, rfl, ?_, ?_⟩
      · rw [v1, v2, toS ok.a, toS (Int.le_of_lt ok.b), c47, SX.S_cat, SX.S_len, SX.S_len, sl, List.length_append, List.length_cons, List.length_nil]; omega
      have z : SX.S (qL (lowQ t b)) = Str.ofString (toString (lowQ t b).1) ++ ("/" : Str) ++ Str.ofString (toString (lowQ t b).2) := by
        rw [toS ok.a, toS (Int.le_of_lt ok.b), c47, SX.S_cat, SX.S_cat]
        unfold qL
        rw [if_neg e2, List.append_assoc]
        rfl
      rw [z] at k
      exact k
def sp__law_made (K : PySem.W.Frag) (c : Addr) : Sp := fun vs H Q _ => ∃ (v : V) (A : List Addr) (b s : Int) (ms : List Int), vs = [v] ∧ Hd A H ∧ Is K A H v (irD b ms s) ∧ IR b ms s ∧
  ∀ r H', Same H H' → r ∉ A → RuleAt K c A H' r (lowQ s b) (lowL b ms) → Q (.ref r) H'
theorem cal__law_made (B : Bl mg) (DD : OwnDef K mg "_law_made" s__law_made) (C__law_word : Cal P w K mg base 2 "_law_word" (sp__law_word K c) []) (S_read : Sta P w K mg base 9 "Rule" "read" (sp_Rule_read K c)) : Cal P w K mg base 18 "_law_made" (sp__law_made K c) [] := by
  obtain ⟨f, fd, F, hm⟩ := DD.ex
  refine ⟨f, fd, ["_law_own"], [], F.ok sc__law_made (fun vs H Q E h => ?len) (fun cdv A outer s H vs Q E hr h => ?run), hm, F.kp, F.binds (fun _ _ _ _ _ _ us hl => match us, hl with | [_], _ => rfl), .nil⟩
  case len => first | (obtain ⟨_, rfl, _⟩ := h; rfl) | (obtain ⟨_, _, rfl, _⟩ := h; rfl) | (obtain ⟨_, _, _, rfl, _⟩ := h; rfl) | (obtain ⟨_, _, _, _, rfl, _⟩ := h; rfl) | (obtain ⟨_, _, _, _, _, rfl, _⟩ := h; rfl) | (obtain ⟨_, _, _, _, _, _, rfl, _⟩ := h; rfl) | (obtain ⟨_, _, _, _, _, _, _, rfl, _⟩ := h; rfl) | (obtain ⟨_, _, _, _, _, _, _, _, rfl, _⟩ := h; rfl) | (obtain ⟨_, _, _, _, _, _, _, _, _, rfl, _⟩ := h; rfl) | (obtain ⟨_, _, _, _, _, _, _, _, _, _, rfl, _⟩ := h; rfl) | (obtain ⟨_, _, _, _, _, _, _, _, _, _, _, rfl, _⟩ := h; rfl) | (obtain ⟨_, _, _, _, _, _, _, _, _, _, _, _, rfl, _⟩ := h; rfl) | (obtain ⟨_, _, _, _, _, _, _, _, _, _, _, _, _, rfl, _⟩ := h; rfl) | (obtain ⟨_, _, _, _, _, _, _, _, _, _, _, _, _, _, rfl, _⟩ := h; rfl)
  case run =>
    obtain ⟨v, A0, b, s, ms, rfl, hA, hv, ir, k⟩ := h
    refine ⟨_, (pss_cons (ps_setLc (i := 1) (own := [("_law_mark", 2)]) (by rfl) sc__law_made.nd rfl rfl (sw_true rfl rfl rfl (by decide +kernel)) (pi_list (pe_ix ix_seq (pv 0) pe_int (fun _ _ => rfl))) (blkOk_by (own := [("_law_mark", 2)]) (N := ["_law_own", "_law_words", "_law_mark"]) (sc := defScope s__law_made) (by decide +kernel)) (fun _ _ _ _ _ => (pg_name (i := 2) sc__law_made.nd rfl (Or.inl rfl))) (fun _ _ _ _ _ => pts_nil) (fun _ _ _ _ _ => (pe_c C__law_word hr (by decide) (by rfl) (pa_cons (pv 2) (pa_cons (pe_ix (r := rIx K) ix_seq (pv 0) pe_int (fun _ _ => rfl)) pa_nil)))))
      (pss_one (ps_ret (pe_sta S_read hr (by decide) (by rfl) (pa_cons (pe_join pe_str (pe_op op_cat (pv 1) (pe_lst (pa_cons pe_str (pa_cons (pe_c C__law_word hr (by decide) (by rfl) (pa_cons (pe_ix ix_seq (pv 0) pe_int (fun _ _ => rfl)) (pa_cons (pe_ix (r := rIx K) ix_seq (pv 0) pe_int (fun _ _ => rfl)) pa_nil))) pa_nil))))) pa_nil))))), ?_⟩
    have vr := ir.vr
    have sl : sizeLine = 16777216 := sizeLine_eq
    have v8 := ir.len
    refine ⟨_, rfl, rd_tup hv (by decide) rfl fun u hu => ?_⟩
    obtain ⟨l, vs, rfl, sq, all⟩ := is_lst hu
    have vl : vs.length = ms.length := by rw [all.len, List.length_map]
    refine ⟨l, rfl, ⟨_, sqL_full sq⟩, fun D0 nD => ?_⟩
    refine lc_list (K := K) (a := l) (xs := vs) (fun i H4 => Same H H4 ∧ H4 D0 = some (.lst ((lowL b (ms.take i)).map fun q => V.str (SX.S (qL q))))) ⟨same_new nD, upd_same⟩ (fun i H4 _ ⟨s4, _⟩ => s4.seq (sqL_full sq)) ?_ ?_
    · rintro i y H4 hi ⟨s4, eD⟩
      obtain ⟨d, hd', hy⟩ := iss_get' all hi
      obtain ⟨m, hm', rfl⟩ := some_map hd'
      obtain rfl := is_int hy
      have mm : m ∈ ms := List.mem_of_getElem? hm'
      have mb := ir.bnd m mm
      have bb := ir.b1
      refine ⟨rfl, _, rfl, _, rfl, rd_int (Is.mono (Go.of s4) hv) (by decide) rfl ?_⟩
      refine ⟨m, b, rfl, ir.nn m mm, ir.b0, by omega, by omega, _, eD, ?_, fun b' o e => ?_, ?_⟩
      · unfold lowL
        rw [List.length_map, List.length_map, List.length_take]
        exact small1000 (by omega)
      · rw [upd_ne (ne_of_none e nD)]
        exact s4 _ _ e
      · rw [upd_same, List.take_add_one, hm']
        unfold lowL
        rw [List.map_append, List.map_append]
        rfl
    · rintro H4 ⟨s4, eD⟩
      rw [vl, List.take_length] at eD
      have hv4 := Is.mono (Go.of s4) hv
      have bb := ir.b1
      have sb := ir.s1
      refine ⟨⟨_, rfl⟩, _, rfl, _, rfl, rd_int hv4 (by decide) rfl ?_⟩
      refine ⟨_, rfl, rd_int hv4 (by decide) rfl ?_⟩
      refine ⟨s, b, rfl, ir.s0, ir.b0, by omega, by omega, by show 2 ≤ sizeLine; decide, fun p np => ?_⟩
      refine ⟨D0, p, _, _, rfl, rfl, (same_new np) _ _ eD, upd_same, ?_, fun t nt => ?_⟩
      · unfold lowL
        rw [List.length_map, List.length_map, sl]
        show ms.length + 2 ≤ _
        omega
      have c124 : ("|" : Str) = SX.S [124] := by decide +kernel
      have c32 : (" " : Str) = SX.S [32] := by decide +kernel
      have el : ((lowL b ms).map fun q => V.str (SX.S (qL q))) ++ [V.str ("|" : Str), V.str (SX.S (qL (lowQ s b)))] = ((ruleParts (lowQ s b) (lowL b ms)).map SX.S).map V.str := by
        unfold ruleParts
        rw [c124]
        simp only [List.map_append, List.map_map, List.map_cons, List.map_nil]
        rfl
      refine ⟨_, t, (ruleParts (lowQ s b) (lowL b ms)).map SX.S, rfl, rfl, .inl (.inl (.inl ?_)), ?_, ?_⟩
      · rw [← el]
        exact upd_same
      · have h2 : ∀ p ∈ ruleParts (lowQ s b) (lowL b ms), p.length ≤ 101 := by
          intro p hp
          unfold ruleParts at hp
          rcases List.mem_append.mp hp
                with hp | hp
          · obtain ⟨q, hq, rfl⟩ := List.mem_map.mp hp
            exact qL_len (vr.oks q hq).1
          · rcases List.mem_cons.mp hp
                with rfl | hp
            · decide
            · rw [List.mem_singleton] at hp
              subst hp
              exact qL_len vr.ok
        have h3 := sum_le h2
        have h4 : (ruleParts (lowQ s b) (lowL b ms)).length = (lowL b ms).length + 2 := by unfold ruleParts; simp
        have e1 : (((ruleParts (lowQ s b) (lowL b ms)).map SX.S).map (fun x => x.length)).sum = ((ruleParts (lowQ s b) (lowL b ms)).map (·.length)).sum := by
          rw [List.map_map]
          exact congrArg List.sum (List.map_congr_left fun q _ => SX.S_len q)
        have e2 : (" " : Str).length = 1 := by rw [c32, SX.S_len] <;> rfl
        have e3 : (lowL b ms).length = ms.length := List.length_map _
        rw [e1, e2, List.length_map, h4, e3]
        rw [h4, e3] at h3
        omega
      · have e : Txt.join (" " : Str) ((ruleParts (lowQ s b) (lowL b ms)).map SX.S) = SX.S (ruleL (lowQ s b) (lowL b ms)) := by
          rw [c32, SX.join_S]
          rfl
        have sH := (s4.trans (same_new np (o := .lst [V.str ("|" : Str), V.str (SX.S (qL (lowQ s b)))]))).trans (same_new nt (o := .lst (((lowL b ms).map fun q => V.str (SX.S (qL q))) ++ [V.str ("|" : Str), V.str (SX.S (qL (lowQ s b)))])))
        refine ⟨lowQ s b, lowL b ms, A0, ?_, vr, (Go.of sH).held hA, fun r H2 s2 hr hR => k r H2 (sH.trans s2) hr hR⟩
        rw [e]
        rfl
end

end LW

set_option Elab.async false
set_option linter.all false
set_option maxRecDepth 100000
set_option maxHeartbeats 4000100
set_option exponentiation.threshold 9000
namespace LW
open L2 PySem.Spec PyProof.Rows PySem
/-- a head made longer with the marks that are behind it anyway -/
def longer (b : Int) (ms : List Int) (s : Int) (n : Nat) : List Int := ms ++ (List.range (n - ms.length)).map fun (j : Nat) => b * ((ms.length : Int) + (j : Int)) + s
theorem longer_len {b s : Int} {ms : List Int} {n : Nat} : (longer b ms s n).length = max ms.length n := by
  unfold longer
  rw [List.length_append, List.length_map, List.length_range]
  omega
theorem longer_get {b s : Int} {ms : List Int} {n i : Nat} {p : Int} (h : (longer b ms s n)[i]? = some p) : (i < ms.length ∧ ms[i]? = some p) ∨ (ms.length ≤ i ∧ i < n ∧ p = b * (i : Int) + s) := by
  unfold longer at h
  rcases Nat.lt_or_ge i ms.length with z | z
  · rw [List.getElem?_append_left z] at h
    exact .inl ⟨z, h⟩
  · rw [List.getElem?_append_right z] at h
    obtain ⟨j, hj, rfl⟩ := some_map h
    obtain ⟨a1, a2⟩ := range_get hj
    refine .inr ⟨z, by omega, ?_⟩
    have : (ms.length : Int) + (j : Int) = (i : Int) := by omega
    rw [this]
theorem IR.longer {b s : Int} {ms : List Int} {n : Nat} (r : IR b ms s) (hn : n ≤ 8) : IR b (LW.longer b ms s n) s := by
  have hb := r.b0
  have nn : ∀ i : Nat, 0 ≤ b * (i : Int) := fun i => Int.mul_nonneg (by omega) (by omega)
  have step : ∀ i : Nat, b * ((i + 1 : Nat) : Int) = b * (i : Int) + b := fun i => by
    have : ((i + 1 : Nat) : Int) = (i : Int) + 1 := by omega
    rw [this, Int.mul_add, Int.mul_one]
  refine ⟨r.b0, r.b1, r.s0, r.s1, by rw [longer_len]; have := r.len; omega, ?_, ?_, ?_⟩
  · intro m hm
    obtain ⟨i, hi, e⟩ := List.mem_iff_getElem.mp hm
    rcases longer_get (by rw [List.getElem?_eq_getElem hi, e]) with ⟨_, z⟩ | ⟨_, _, z⟩
    · exact r.nn m (List.mem_of_getElem? z)
    · rw [z]; have := nn i; have := r.s0; omega
  · intro i p q hp hq
    rcases longer_get hp with ⟨x1, x2⟩ | ⟨x1, x2, x3⟩ <;> rcases longer_get hq with ⟨y1, y2⟩ | ⟨y1, y2, y3⟩
    · exact r.inc i p q x2 y2
    · have u := r.under p (List.mem_of_getElem? x2)
      have e : ms.length = i + 1 := by omega
      rw [e] at u
      rw [y3]
      have := Int.mul_comm b ((i + 1 : Nat) : Int)
      omega
    · omega
    · rw [x3, y3]; have := step i; omega
  · intro m hm
    rw [List.getLast?_eq_getElem?, longer_len] at hm
    rw [longer_len]
    rcases longer_get hm with ⟨x1, x2⟩ | ⟨x1, x2, x3⟩
    · have u := r.under m (List.mem_of_getElem? x2)
      have e : max ms.length n = ms.length := by omega
      rw [e]
      exact u
    · have e : max ms.length n - 1 + 1 = max ms.length n := by omega
      have := step (max ms.length n - 1)
      rw [e] at this
      have := Int.mul_comm b ((max ms.length n : Nat) : Int)
      omega
def twice (ms : List Int) : List Int := ms.map fun m => 2 * m
theorem twice_get {ms : List Int} {i : Nat} {p : Int} (h : (twice ms)[i]? = some p) : ∃ m, ms[i]? = some m ∧ p = 2 * m := some_map h
theorem twice_len {ms : List Int} : (twice ms).length = ms.length := List.length_map _
theorem twice_longer {b s : Int} {ms : List Int} {n : Nat} : twice (longer b ms s n) = twice ms ++ (List.range (n - ms.length)).map fun (j : Nat) => 2 * b * ((ms.length : Int) + (j : Int)) + 2 * s := by
  unfold twice longer
  rw [List.map_append, List.map_map]
  congr 1
  refine List.map_congr_left fun j _ => ?_
  show 2 * (b * ((ms.length : Int) + (j : Int)) + s) = _
  rw [Int.mul_add, Int.mul_assoc]
/-- all numbers twice, and a step more at each mark and the offset -/
theorem IR.raised {b s e : Int} {ms : List Int} (r : IR b ms s) (hb : b < 10 ^ 20) (e0 : 0 ≤ e) (e1 : e ≤ 2 * b - 2 * s) : IR (2 * b) ((twice ms).map fun m => m + e) (2 * s + e) := by
  have h0 := r.b0
  have h1 := r.s0
  refine ⟨by omega, by omega, by omega, by omega, by rw [List.length_map, twice_len]; exact r.len, ?_, ?_, ?_⟩
  · intro m hm
    obtain ⟨x, hx, rfl⟩ :=
          List.mem_map.mp hm
    obtain ⟨y, hy, rfl⟩ :=
          List.mem_map.mp hx
    have := r.nn y hy
    omega
  · intro i p q hp hq
    obtain ⟨x, hx, rfl⟩ := some_map hp
    obtain ⟨y, hy, rfl⟩ := some_map hq
    obtain ⟨x', hx', rfl⟩ := twice_get hx
    obtain ⟨y', hy', rfl⟩ := twice_get hy
    have := r.inc i x' y' hx' hy'
    omega
  · intro m hm
    rw [List.getLast?_map] at hm
    unfold twice at hm
    rw [List.getLast?_map] at hm
    cases q : ms.getLast? with
    | none => rw [q] at hm; cases hm
    | some x =>
      rw [q] at hm
      have z : 2 * x + e = m := Option.some.inj hm
      subst z
      have u := r.last x q
      rw [List.length_map, twice_len]
      have : (ms.length : Int) * (2 * b) = 2 * ((ms.length : Int) * b) := by rw [Int.mul_left_comm]
      omega
theorem map_zero {ms : List Int} : (ms.map fun m => m + 0) = ms := by
  conv => rhs; rw [← List.map_id ms]
  exact List.map_congr_left fun m _ => Int.add_zero m
theorem IR.dbl {b s : Int} {ms : List Int} (r : IR b ms s) (hb : b < 10 ^ 20) : IR (2 * b) (twice ms) (2 * s) := by
  have h1 := r.s1
  have := r.raised hb (e := 0) (by omega) (by omega)
  rw [map_zero, Int.add_zero] at this
  exact this
/-- the offset alone one more -/
theorem IR.offs {b s : Int} {ms : List Int} (r : IR b ms s) (hb : b < 10 ^ 20) (h : 2 * s < 2 * b) : IR (2 * b) (twice ms) (2 * s + 1) := by
  have d := r.dbl hb
  exact ⟨d.b0, d.b1, by have := d.s0; omega, by omega, d.len, d.nn, d.inc, fun m hm => by have := d.last m hm; omega⟩
/-- one mark one more or less -/
theorem IR.nudge {b s e x : Int} {ms : List Int} {at_ : Nat} (r : IR b ms s) (hb : b < 10 ^ 20) (hx : ms[at_]? = some x) (he : e = 1 ∨ (e = -1 ∧ x ≠ 0)) : IR (2 * b) ((twice ms).set at_ (2 * x + e)) (2 * s) := by
  have d := r.dbl hb
  have al : at_ < ms.length := (List.getElem?_eq_some_iff.mp hx).1
  have x0 : 0 ≤ x := r.nn x (List.mem_of_getElem? hx)
  refine ⟨d.b0, d.b1, d.s0, d.s1, by rw [List.length_set]; exact d.len, ?_, ?_, ?_⟩
  · intro m hm
    rcases List.mem_or_eq_of_mem_set hm with z | z
    · exact d.nn m z
    · rw [z]; omega
  · intro i p q hp hq
    rw [List.getElem?_set] at hp hq
    by_cases h1 : at_ = i
    · subst h1
      rw [if_pos rfl, if_pos (by rw [twice_len]; exact al)] at hp
      cases hp
      rw [if_neg (by omega)] at hq
      obtain ⟨y, hy, rfl⟩ := twice_get hq
      have := r.inc at_ x y hx hy
      omega
    · rw [if_neg h1] at hp
      obtain ⟨y, hy, rfl⟩ := twice_get hp
      by_cases h2 : at_ = i + 1
      · subst h2
        rw [if_pos rfl, if_pos (by rw [twice_len]; exact al)] at hq
        cases hq
        have := r.inc i y x hy hx
        omega
      · rw [if_neg h2] at hq
        obtain ⟨z, hz, rfl⟩ := twice_get hq
        have := r.inc i y z hy hz
        omega
  · intro m hm
    rw [List.getLast?_eq_getElem?, List.length_set, twice_len, List.getElem?_set] at hm
    rw [List.length_set, twice_len]
    have e2 : (ms.length : Int) * (2 * b) = 2 * ((ms.length : Int) * b) := by rw [Int.mul_left_comm]
    by_cases h1 : at_ = ms.length - 1
    · rw [if_pos h1, if_pos (by rw [twice_len]; exact al)] at hm
      cases hm
      have := r.last x (by rw [List.getLast?_eq_getElem?, ← h1]; exact hx)
      omega
    · rw [if_neg h1] at hm
      obtain ⟨y, hy, rfl⟩ := twice_get hm
      have := r.last y (by rw [List.getLast?_eq_getElem?]; exact hy)
      omega
theorem eqvE (ds : List PyData) : PyData.eqv (.list ds) (.list []) = ds.isEmpty := by cases ds <;> rfl
theorem noDictIs : ∀ ns : List Int, PyData.hasDictAll (ns.map PyData.int) = false
  | [] => rfl
  | _ :: r => by rw [List.map_cons]; show (false || PyData.hasDictAll _) = false; rw [noDictIs r]; rfl
theorem noDictI (ns : List Int) : (PyData.list (ns.map PyData.int)).hasDict = false := noDictIs ns
theorem layIs : ∀ ns : List Int, PyData.canLayAll0 (ns.map PyData.int) = true ∧ PyData.depthAll (ns.map PyData.int) = 0
  | [] => by simp [PyData.canLayAll0, PyData.depthAll]
  | n :: r => by
    obtain ⟨a, b⟩ := layIs r
    constructor
    · simp only [List.map_cons, PyData.canLayAll0, PyData.canLay0, a, Bool.and_self]
    · simp only [List.map_cons, PyData.depthAll, PyData.depth, b]
      rfl
theorem shapedI (ns : List Int) : SeqAt.shaped (.list (ns.map PyData.int)) = true := by
  obtain ⟨b1, b2⟩ := layIs ns
  refine (Bool.and_eq_true_iff).mpr ⟨?_, decide_eq_true ?_⟩
  · simp only [PyData.canLay0]; exact b1
  · simp only [PyData.depth]; omega
end LW

set_option Elab.async false
set_option linter.all false
set_option maxRecDepth 100000
set_option maxHeartbeats 4000100
set_option exponentiation.threshold 9000
namespace LW
open L2 PySem.Spec PyProof.Rows PySem
def unlI (b : Int) (ms : List Int) (s : Int) (c : Int) (ns : List Int) (t : Int) (lo hi : Nat) : Bool :=
  if lo = hi then !decide (decide (atM b ms s lo = 0) = decide (atM c ns t lo = 0)) else !decide (atM b ms s lo * atM c ns t hi = atM b ms s hi * atM c ns t lo)
/-- the least number of items with unlike marks -/
def dueN (U : Nat → Nat → Bool) : Option Nat := (List.range 18).findSome? fun i => if (List.range (i + 1)).any (fun l => U l (i - l)) then some (i + 1) else none
def optN : Option Nat → PyData
  | none => .none
  | some n => .int (n : Nat)
theorem dec_V {i j : Int} : decide (V.int i = V.int j) = decide (i = j) := decide_eq_decide.mpr ⟨V.int.inj, fun z => congrArg V.int z⟩
end LW

set_option Elab.async false
set_option linter.all false
set_option maxRecDepth 100000
set_option maxHeartbeats 4000100
set_option exponentiation.threshold 9000
/-! the least number of items, as the program finds it and as it is due -/
namespace LW
open L2 PySem.Spec PyProof.Rows PySem
/-- the quotients of two marks in lowest terms compare as those in whole numbers -/
theorem lt_ratio {b s c t : Int} {ms ns : List Int} (r : IR b ms s) (r2 : IR c ns t) (k l : Nat) :
    ltQ (ratioQ (MQ (lowQ s b) (lowL b ms) k) (MQ (lowQ s b) (lowL b ms) l)) (ratioQ (MQ (lowQ t c) (lowL c ns) k) (MQ (lowQ t c) (lowL c ns) l)) ↔ atM b ms s k * atM c ns t l < atM c ns t k * atM b ms s l := by
  obtain ⟨e1, h1⟩ := r.mark k
  obtain ⟨e3, h3⟩ := r.mark l
  obtain ⟨e2, h2⟩ := r2.mark k
  obtain ⟨e4, h4⟩ := r2.mark l
  exact cross e2 e1 e4 e3 h2 h1 h4 h3 r2.b0 r.b0
theorem IR.at0 {b s : Int} {ms : List Int} (r : IR b ms s) : (MQ (lowQ s b) (lowL b ms) 0).1 = 0 ↔ atM b ms s 0 = 0 := by
  obtain ⟨e, h⟩ := r.mark 0
  have hb := r.b0
  constructor
  · intro z
    have e' : (MQ (lowQ s b) (lowL b ms) 0).1 * b = atM b ms s 0 * (MQ (lowQ s b) (lowL b ms) 0).2 := e
    rw [z, Int.zero_mul] at e'
    have h' : 0 < (MQ (lowQ s b) (lowL b ms) 0).2 := h
    rcases Int.mul_eq_zero.mp e'.symm with y | y
    · exact y
    · omega
  · intro z
    rw [z, Int.zero_mul] at e
    rcases Int.mul_eq_zero.mp e with y | y
    · exact y
    · omega
/-- marks ascend -/
theorem IR.step {b s : Int} {ms : List Int} (r : IR b ms s) (k : Nat) : atM b ms s k < atM b ms s (k + 1) := by
  have hb := r.b0
  unfold atM
  by_cases h1 : k + 1 < ms.length
  · rw [if_pos (by omega), if_pos h1]
    refine r.inc k _ _ ?_ ?_
    · rw [List.getD_eq_getElem?_getD, List.getElem?_eq_getElem (by omega)]; rfl
    · rw [List.getD_eq_getElem?_getD, List.getElem?_eq_getElem (by omega)]; rfl
  · rw [if_neg h1]
    by_cases h2 : k < ms.length
    · rw [if_pos h2]
      have e : ms[k]? = some (ms.getD k 0) := by rw [List.getD_eq_getElem?_getD, List.getElem?_eq_getElem h2]; rfl
      have u := r.under _ (List.mem_of_getElem? e)
      have : ms.length = k + 1 := by omega
      rw [this] at u
      exact u
    · rw [if_neg h2]
      have : ((k + 1 : Nat) : Int) * b = (k : Int) * b + b := by
        have : ((k + 1 : Nat) : Int) = (k : Int) + 1 := by omega
        rw [this, Int.add_mul,
              Int.one_mul]
      omega
theorem IR.nn0 {b s : Int} {ms : List Int} (r : IR b ms s) (k : Nat) : 0 ≤ atM b ms s k := by
  induction k with
  | zero =>
    unfold atM
    split
    · rename_i h
      exact r.nn _ (by rw [List.getD_eq_getElem?_getD, List.getElem?_eq_getElem h]; exact List.getElem_mem h)
    · have := r.s0; omega
  | succ k ih => have := r.step k; omega
theorem IR.pos {b s : Int} {ms : List Int} (r : IR b ms s) {k : Nat} (h : 0 < k) : 0 < atM b ms s k := by
  have h1 := r.nn0 (k - 1)
  have h2 := r.step (k - 1)
  rw [show k - 1 + 1 = k by omega] at h2
  omega
theorem unlI_comm {b s c t : Int} {ms ns : List Int} (k l : Nat) : unlI b ms s c ns t k l = unlI b ms s c ns t l k := by
  unfold unlI
  by_cases h : k = l
  · subst h; rfl
  · rw [if_neg h, if_neg (fun z => h z.symm)]
    congr 1
    exact decide_eq_decide.mpr ⟨fun z => z.symm, fun z => z.symm⟩
theorem unlI_swap {b s c t : Int} {ms ns : List Int} : unlI b ms s c ns t = unlI c ns t b ms s := by
  funext k l
  unfold unlI
  by_cases h : k = l
  · rw [if_pos h, if_pos h]
    congr 1
    exact decide_eq_decide.mpr ⟨fun z => z.symm, fun z => z.symm⟩
  · rw [if_neg h, if_neg h]
    congr 1
    refine decide_eq_decide.mpr ⟨fun z => ?_, fun z => ?_⟩
    · rw [Int.mul_comm (atM c ns t k), Int.mul_comm (atM c ns t l)]; exact z.symm
    · rw [Int.mul_comm (atM b ms s k), Int.mul_comm (atM b ms s l)]; exact z.symm
theorem unl_mid {b s c t : Int} {ms ns : List Int} (r : IR b ms s) (r2 : IR c ns t) {k : Nat} (h : 0 < k) : unlI b ms s c ns t k k = false := by
  unfold unlI
  rw [if_pos rfl, decide_eq_false (show ¬ atM b ms s k = 0 by have := r.pos h; omega), decide_eq_false (show ¬ atM c ns t k = 0 by have := r2.pos h; omega)]
  rfl
theorem pick_none {b s c t : Int} {ms ns : List Int} (r : IR b ms s) (r2 : IR c ns t) {n i : Nat} (hi : i < n / 2) :
    (pickD (MQ (lowQ s b) (lowL b ms)) (MQ (lowQ t c) (lowL c ns)) n i).map (·.1) = if unlI b ms s c ns t i (n - 1 - i) then some n else none := by
  have ne : i ≠ n - 1 - i := by omega
  have x1 := lt_ratio r r2 i (n - 1 - i)
  have x2 := lt_ratio r2 r i (n - 1 - i)
  unfold pickD unlI
  rw [if_neg ne]
  by_cases h1 : atM b ms s i * atM c ns t (n - 1 - i) < atM c ns t i * atM b ms s (n - 1 - i)
  · rw [if_pos (x1.mpr h1), if_pos (by rw [Bool.not_eq_true', decide_eq_false_iff_not]; rw [Int.mul_comm (atM b ms s (n - 1 - i))]; omega)]
    rfl
  · rw [if_neg (fun z => h1 (x1.mp z))]
    by_cases h2 : atM c ns t i * atM b ms s (n - 1 - i) < atM b ms s i * atM c ns t (n - 1 - i)
    · rw [if_pos (x2.mpr h2), if_pos (by rw [Bool.not_eq_true', decide_eq_false_iff_not]; rw [Int.mul_comm (atM b ms s (n - 1 - i))]; omega)]
      rfl
    · rw [if_neg (fun z => h2 (x2.mp z)), if_neg (by
        rw [Bool.not_eq_true', decide_eq_false_iff_not]
        intro z
        exact z (by rw [Int.mul_comm (atM b ms s (n - 1 - i))]; omega))]
      rfl
theorem fs_map {α β : Type} (f : Nat → Option α) (g : α → β) : ∀ l : List Nat, (l.findSome? f).map g = l.findSome? fun i => (f i).map g
  | [] => rfl
  | x :: l => by
    rw [List.findSome?_cons, List.findSome?_cons]
    cases h : f x with
    | none => exact fs_map f g l
    | some y => rfl
theorem fs_congr {α : Type} {f g : Nat → Option α} : ∀ {l : List Nat}, (∀ i ∈ l, f i = g i) → l.findSome? f = l.findSome? g
  | [], _ => rfl
  | x :: l, h => by
    rw [List.findSome?_cons, List.findSome?_cons, h x (by simp), fs_congr fun i hi => h i (by simp [hi])]
theorem fs_if {P : Nat → Bool} {n : Nat} : ∀ l : List Nat, (l.findSome? fun i => if P i = true then some n else none) = if l.any P = true then some n else none
  | [] => rfl
  | x :: l => by
    rw [List.findSome?_cons, List.any_cons]
    cases h : P x with
    | true => rfl
    | false =>
      simp only [Bool.false_or]
      exact fs_if l
theorem any_half {b s c t : Int} {ms ns : List Int} (r : IR b ms s) (r2 : IR c ns t) {n : Nat} (hn : 2 ≤ n) :
    (List.range (n / 2)).any (fun i => unlI b ms s c ns t i (n - 1 - i)) = (List.range n).any fun i => unlI b ms s c ns t i (n - 1 - i) := by
  rw [Bool.eq_iff_iff, List.any_eq_true,
        List.any_eq_true]
  constructor
  · rintro ⟨i, hi, h⟩
    exact ⟨i, List.mem_range.mpr (by have := List.mem_range.mp hi; omega), h⟩
  · rintro ⟨i, hi, h⟩
    have hi' := List.mem_range.mp
          hi
    rcases Nat.lt_or_ge i (n / 2) with z | z
    · exact ⟨i, List.mem_range.mpr z, h⟩
    · by_cases y : i = n - 1 - i
      · rw [← y, unl_mid r r2 (by omega)] at h
        cases h
      · refine ⟨n - 1 - i, List.mem_range.mpr (by omega), ?_⟩
        rw [show n - 1 - (n - 1 - i) = i by omega, unlI_comm]
        exact h
theorem diffN_due {b s c t : Int} {ms ns : List Int} (r : IR b ms s) (r2 : IR c ns t) {n : Nat} (hn : 2 ≤ n) :
    (diffN (MQ (lowQ s b) (lowL b ms)) (MQ (lowQ t c) (lowL c ns)) n).map (·.1) = if (List.range n).any (fun i => unlI b ms s c ns t i (n - 1 - i)) then some n else none := by
  unfold diffN
  rw [fs_map, fs_congr (g := fun i => if unlI b ms s c ns t i (n - 1 - i) = true then some n else none) (fun i hi => pick_none r r2 (List.mem_range.mp hi)), fs_if (P := fun i => unlI b ms s c ns t i (n - 1 - i)), any_half r r2 hn]
theorem fdiff_due {b s c t : Int} {ms ns : List Int} (r : IR b ms s) (r2 : IR c ns t) :
    (fdiff (MQ (lowQ s b) (lowL b ms)) (MQ (lowQ t c) (lowL c ns))).map (·.1) = dueN (unlI b ms s c ns t) := by
  have x1 := r.at0
  have x2 := r2.at0
  have e : dueN (unlI b ms s c ns t) = if unlI b ms s c ns t 0 0 = true then some 1 else (List.range 17).findSome? fun i => if (List.range (2 + i)).any (fun l => unlI b ms s c ns t l (2 + i - 1 - l)) then some (2 + i) else none := by
    unfold dueN
    rw [List.range_succ_eq_map, List.findSome?_cons]
    have z : ((List.range (0 + 1)).any fun l => unlI b ms s c ns t l (0 - l)) = unlI b ms s c ns t 0 0 := by
      show (unlI b ms s c ns t 0 (0 - 0) || false) = _
      rw [Bool.or_false]
    rw [z]
    cases unlI b ms s c ns t 0 0 with
    | true => rfl
    | false =>
      show List.findSome? _ (List.map Nat.succ (List.range 17)) = _
      rw [List.findSome?_map, if_neg (show ¬ (false = true) from fun z => nomatch z)]
      refine fs_congr fun i _ => ?_
      show (if ((List.range (i + 1 + 1)).any fun l => unlI b ms s c ns t l (i + 1 - l)) = true then some (i + 1 + 1) else none) = _
      rw [show i + 1 + 1 = 2 + i by omega, show 2 + i - 1 = i + 1 by omega]
  rw [e]
  unfold fdiff
  have z : unlI b ms s c ns t 0 0 = !decide (decide ((MQ (lowQ s b) (lowL b ms) 0).1 = 0) = decide ((MQ (lowQ t c) (lowL c ns) 0).1 = 0)) := by
    unfold unlI
    rw [if_pos rfl, decide_eq_decide.mpr x1, decide_eq_decide.mpr x2]
  by_cases h : decide ((MQ (lowQ s b) (lowL b ms) 0).1 = 0) ≠ decide ((MQ (lowQ t c) (lowL c ns) 0).1 = 0)
  · rw [if_pos h, if_pos (by rw [z, Bool.not_eq_true', decide_eq_false_iff_not]; exact h)]
    rfl
  · rw [if_neg h, if_neg (by rw [z, Bool.not_eq_true', decide_eq_false_iff_not]; exact h), fs_map]
    exact fs_congr fun i _ => diffN_due r r2 (by omega)
theorem find_mem {α : Type} {f : Nat → Option α} {x : α} : ∀ {l : List Nat}, l.findSome? f = some x → ∃ i ∈ l, f i = some x := by
  intro l h
  obtain ⟨i, hi, e⟩ := List.exists_of_findSome?_eq_some h
  exact ⟨i, hi, e⟩
theorem fdiff_self (M : Nat → Int × Int) : fdiff M M = none := by
  unfold fdiff
  rw [if_neg (fun z => z rfl)]
  refine find_none fun i _ => find_none fun j _ => ?_
  unfold pickD
  rw [if_neg (fun z : ltQ _ _ => Int.lt_irrefl _ z), if_neg (fun z : ltQ _ _ => Int.lt_irrefl _ z)]
end LW

set_option Elab.async false
set_option linter.all false
set_option maxRecDepth 100000
set_option maxHeartbeats 4000100
set_option exponentiation.threshold 9000
/-! how far apart two rows of marks can be: arithmetic -/
namespace LW
open L2 PySem.Spec PyProof.Rows PySem
/-- marks: not below 0, ascending -/
structure Asc (f : Nat → Int) : Prop where
  z : 0 ≤ f 0
  up : ∀ k, f k < f (k + 1)
theorem Asc.nn {f : Nat → Int} (h : Asc f) : ∀ k, 0 ≤ f k
  | 0 => h.z
  | k + 1 => by have := h.nn k; have := h.up k; omega
theorem Asc.le {f : Nat → Int} (h : Asc f) {i : Nat} : ∀ {d : Nat}, f i + (d : Int) ≤ f (i + d)
  | 0 => by simp
  | d + 1 => by have := h.le (i := i) (d := d); have := h.up (i + d); rw [show i + (d + 1) = i + d + 1 by omega]; omega
theorem Asc.mono {f : Nat → Int} (h : Asc f) {i j : Nat} (l : i ≤ j) : f i ≤ f j := by
  have := h.le (i := i) (d := j - i)
  rw [show i + (j - i) = j by omega] at this
  omega
theorem Asc.pos {f : Nat → Int} (h : Asc f) {i : Nat} (l : 0 < i) : 0 < f i := by
  have := h.le (i := 0) (d := i)
  rw [Nat.zero_add] at this
  have := h.z
  omega
def above (f : Nat → Int) (n : Nat) (x y : Int) : Nat := ((List.range n).filter fun j => decide (f j * y ≤ x * f (n - 1 - j))).length
def strictly (f : Nat → Int) (n : Nat) (x y : Int) : Nat := ((List.range n).filter fun j => decide (f j * y < x * f (n - 1 - j))).length
theorem count_of {P : Nat → Bool} : ∀ {n : Nat}, (∀ j, j + 1 < n → P (j + 1) = true → P j = true) → ∀ j, j < n → (P j = true ↔ j < ((List.range n).filter P).length)
  | 0, _, j, h => by omega
  | n + 1, down, j, hj => by
    have ih := count_of (P := P) (n := n) fun j hj h => down j (by omega) h
    rw [List.range_succ, List.filter_append, List.length_append]
    have le : ((List.range n).filter P).length ≤ n := by
      have := (List.filter_sublist (p := P) (l := List.range n)).length_le
      rwa [List.length_range] at this
    cases hn : P n with
    | true =>
      have all : ∀ d, d ≤ n → P (n - d) = true := by
        intro d
        induction d with
        | zero => intro _; exact hn
        | succ d ihd =>
          intro hd
          have := ihd (by omega)
          rw [show n - d = (n - (d + 1)) + 1 by omega] at this
          exact down _ (by omega) this
      have e : ((List.range n).filter P) = List.range n := List.filter_eq_self.mpr fun a ha => by
        have := List.mem_range.mp ha
        have z := all (n - a) (by omega)
        rwa [show n - (n - a) = a by omega] at z
      rw [e, List.length_range]
      simp only [List.filter_cons, hn, if_true, List.filter_nil, List.length_cons, List.length_nil]
      constructor
      · intro _; omega
      · intro _
        have z := all (n - j) (by omega)
        rwa [show n - (n - j) = j by omega] at z
    | false =>
      simp only [List.filter_cons, hn, List.filter_nil, Bool.false_eq_true, if_false, List.length_nil, Nat.add_zero]
      rcases Nat.lt_or_ge j n with z | z
      · exact ih j z
      · have : j = n := by omega
        subst this
        rw [hn]
        constructor
        · intro h; cases h
        · intro h; omega
theorem above_le (f : Nat → Int) (n : Nat) (x y : Int) : above f n x y ≤ n := by
  have := (List.filter_sublist (p := fun j => decide (f j * y ≤ x * f (n - 1 - j))) (l := List.range n)).length_le
  rwa [List.length_range] at this
theorem strictly_le (f : Nat → Int) (n : Nat) (x y : Int) : strictly f n x y ≤ n := by
  have := (List.filter_sublist (p := fun j => decide (f j * y < x * f (n - 1 - j))) (l := List.range n)).length_le
  rwa [List.length_range] at this
theorem above_iff {f : Nat → Int} (h : Asc f) {n : Nat} {x y : Int} (hx : 0 ≤ x) (hy : 0 ≤ y) : ∀ j, j < n → (f j * y ≤ x * f (n - 1 - j) ↔ j < above f n x y) := by
  intro j hj
  have := count_of (P := fun j => decide (f j * y ≤ x * f (n - 1 - j))) (n := n) (fun j hj e => by
    have e' := of_decide_eq_true e
    refine decide_eq_true ?_
    have a1 : f j * y ≤ f (j + 1) * y := Int.mul_le_mul_of_nonneg_right (h.mono (by omega)) hy
    have a2 : x * f (n - 1 - (j + 1)) ≤ x * f (n - 1 - j) := Int.mul_le_mul_of_nonneg_left (h.mono (by omega)) hx
    omega) j hj
  rw [decide_eq_true_iff] at this
  exact this
theorem strictly_iff {f : Nat → Int} (h : Asc f) {n : Nat} {x y : Int} (hx : 0 ≤ x) (hy : 0 ≤ y) : ∀ j, j < n → (f j * y < x * f (n - 1 - j) ↔ j < strictly f n x y) := by
  intro j hj
  have := count_of (P := fun j => decide (f j * y < x * f (n - 1 - j))) (n := n) (fun j hj e => by
    have e' := of_decide_eq_true e
    refine decide_eq_true ?_
    have a1 : f j * y ≤ f (j + 1) * y := Int.mul_le_mul_of_nonneg_right (h.mono (by omega)) hy
    have a2 : x * f (n - 1 - (j + 1)) ≤ x * f (n - 1 - j) := Int.mul_le_mul_of_nonneg_left (h.mono (by omega)) hx
    omega) j hj
  rw [decide_eq_true_iff] at this
  exact this
/-- the claimants change places -/
theorem reflect {f : Nat → Int} (h : Asc f) {n : Nat} {x y : Int} (hx : 0 ≤ x) (hy : 0 ≤ y) : above f n x y + strictly f n y x = n := by
  have c1 := above_le f n x y
  have c2 := strictly_le f n y x
  have key : ∀ j, j < n → (j < strictly f n y x ↔ j < n - above f n x y) := by
    intro j hj
    rw [← strictly_iff h hy hx j hj]
    have a := above_iff h (n := n) hx hy (n - 1 - j) (by omega)
    rw [show n - 1 - (n - 1 - j) = j by omega] at a
    constructor
    · intro e
      have : ¬ n - 1 - j < above f n x y := fun z => by
        have := a.mpr z
        rw [Int.mul_comm (f (n - 1 - j)), Int.mul_comm x] at this
        omega
      omega
    · intro e
      have : ¬ f (n - 1 - j) * y ≤ x * f j := fun z => by have := a.mp z; omega
      rw [Int.mul_comm (f (n - 1 - j)), Int.mul_comm x] at this
      omega
  rcases Nat.lt_trichotomy (strictly f n y x) (n - above f n x y) with z | z | z
  · have hh : strictly f n y x < n := by omega
    have := (key _ hh).mpr z
    omega
  · omega
  · have hh : n - above f n x y < n := by omega
    have := (key _ hh).mp z
    omega
/-- a rule's own count at its own border -/
theorem above_own {f : Nat → Int} (h : Asc f) {n i : Nat} (hi : i < n) : above f n (f i) (f (n - 1 - i)) = i + 1 := by
  have a := above_iff h (n := n) (h.nn i) (h.nn (n - 1 - i))
  have c := above_le f n (f i) (f (n - 1 - i))
  have on : i < above f n (f i) (f (n - 1 - i)) := (a i hi).mp (Int.le_refl _)
  rcases Nat.lt_or_ge (i + 1) (above f n (f i) (f (n - 1 - i))) with z | z
  · have := (a (i + 1) (by omega)).mpr z
    exfalso
    have u1 := h.up i
    have u2 := h.up (n - 1 - (i + 1))
    rw [show n - 1 - (i + 1) + 1 = n - 1 - i by omega] at u2
    have n1 := h.nn i
    have n2 := h.nn (n - 1 - (i + 1))
    generalize f (i + 1) = p at *
    generalize f i = q at *
    generalize f (n - 1 - i) = r at *
    generalize f (n - 1 - (i + 1)) = t at *
    have m1 : q * t ≤ q * r := Int.mul_le_mul_of_nonneg_left (by omega) n1
    have m2 : q * r < p * r := Int.mul_lt_mul_of_pos_right u1 (by omega)
    omega
  · omega
/-- what a lead is: the greatest of the counts of places less what the other rule has there -/
structure IsLead (n : Nat) (cnt : Nat → Nat) (L : Int) : Prop where
  nn : 0 ≤ L
  up : ∀ i, i < n → ((i + 1 : Nat) : Int) - (cnt i : Int) ≤ L
  at_ : L = 0 ∨ ∃ i, i < n ∧ L = ((i + 1 : Nat) : Int) - (cnt i : Int)
section
variable {f g : Nat → Int} {n : Nat} {L : Int}
/-- the other rule's count at a border of the rule that is not above (x, y) -/
theorem under_le (hf : Asc f) (hg : Asc g) (hn : 2 ≤ n) {x y : Int} (hx : 0 ≤ x) (hy : 0 ≤ y) {i : Nat} (hi : i < n) (h : f i * y ≤ x * f (n - 1 - i)) : above g n (f i) (f (n - 1 - i)) ≤ above g n x y := by
  have a := above_iff hg (n := n) (hf.nn i) (hf.nn (n - 1 - i))
  have b := above_iff hg (n := n) hx hy
  have c := above_le g n (f i) (f (n - 1 - i))
  rcases Nat.lt_or_ge (above g n x y) (above g n (f i) (f (n - 1 - i))) with z | z
  · exfalso
    have t := (a _ (by omega)).mpr z
    have s : ¬ g (above g n x y) * y ≤ x * g (n - 1 - above g n x y) := fun e => absurd ((b _ (by omega)).mp e) (Nat.lt_irrefl _)
    apply s
    generalize above g n x y = j at *
    rcases Int.lt_or_eq_of_le (hf.nn (n - 1 - i)) with p | p
    · refine Int.le_of_mul_le_mul_right (a := f (n - 1 - i)) ?_ p
      have m1 : g j * f (n - 1 - i) * y ≤ f i * g (n - 1 - j) * y := Int.mul_le_mul_of_nonneg_right t hy
      have m2 : f i * y * g (n - 1 - j) ≤ x * f (n - 1 - i) * g (n - 1 - j) := Int.mul_le_mul_of_nonneg_right h (hg.nn _)
      have e1 : g j * y * f (n - 1 - i) = g j * f (n - 1 - i) * y := by grind
      have e2 : x * g (n - 1 - j) * f (n - 1 - i) = x * f (n - 1 - i) * g (n - 1 - j) := by grind
      have e3 : f i * g (n - 1 - j) * y = f i * y * g (n - 1 - j) := by grind
      omega
    · rw [← p, Int.mul_zero] at h
      have i0 : 0 < i := by
        rcases Nat.eq_zero_or_pos
              i with z | z
        · subst z
          have := hf.pos (i := n - 1 - 0) (by omega)
          omega
        · exact z
      have fp := hf.pos i0
      have y0 : y = 0 := by
        rcases Int.lt_or_eq_of_le hy with z | z
        · have := Int.mul_pos fp z; omega
        · exact z.symm
      rw [y0, Int.mul_zero]
      exact Int.mul_nonneg hx (hg.nn _)
  · exact z
theorem lead_ge (hf : Asc f) (hg : Asc g) (hn : 2 ≤ n) (l : IsLead n (fun i => above g n (f i) (f (n - 1 - i))) L) {x y : Int} (hx : 0 ≤ x) (hy : 0 ≤ y) : (above f n x y : Int) - (above g n x y : Int) ≤ L := by
  have c := above_le f n x y
  have nnL := l.nn
  rcases Nat.eq_zero_or_pos (above f n x y) with z | z
  · omega
  · have hi : above f n x y - 1 < n := by omega
    have t := (above_iff hf hx hy _ hi).mpr (by omega)
    have u := under_le hf hg hn hx hy hi t
    have v := l.up _ hi
    omega
/-- .. and where it isn't below (x, y) -/
theorem under_lt (hf : Asc f) (hg : Asc g) (hn : 2 ≤ n) {x y : Int} (hx : 0 ≤ x) (hy : 0 ≤ y) {i : Nat} (hi : i < n) (h : f i * y < x * f (n - 1 - i)) : above g n (f i) (f (n - 1 - i)) ≤ strictly g n x y := by
  have a := above_iff hg (n := n) (hf.nn i) (hf.nn (n - 1 - i))
  have b := strictly_iff hg (n := n) hx hy
  have c := above_le g n (f i) (f (n - 1 - i))
  rcases Nat.lt_or_ge (strictly g n x y) (above g n (f i) (f (n - 1 - i))) with z | z
  · exfalso
    have t := (a _ (by omega)).mpr z
    have s : ¬ g (strictly g n x y) * y < x * g (n - 1 - strictly g n x y) := fun e => absurd ((b _ (by omega)).mp e) (Nat.lt_irrefl _)
    apply s
    have jn : strictly g n x y < n := by omega
    generalize strictly g n x y = j at *
    have fp : 0 < f (n - 1 - i) := by
      rcases Int.lt_or_eq_of_le (hf.nn (n - 1 - i)) with p | p
      · exact p
      · rw [← p, Int.mul_zero] at h
        have := Int.mul_nonneg (hf.nn i) hy
        omega
    rcases Int.lt_or_eq_of_le (hg.nn (n - 1 - j)) with p | p
    · refine Int.lt_of_mul_lt_mul_right (a := f (n - 1 - i)) ?_ (Int.le_of_lt fp)
      have m1 : g j * f (n - 1 - i) * y ≤ f i * g (n - 1 - j) * y := Int.mul_le_mul_of_nonneg_right t hy
      have m2 : f i * y * g (n - 1 - j) < x * f (n - 1 - i) * g (n - 1 - j) := Int.mul_lt_mul_of_pos_right h p
      have e1 : g j * y * f (n - 1 - i) = g j * f (n - 1 - i) * y := by grind
      have e2 : x * g (n - 1 - j) * f (n - 1 - i) = x * f (n - 1 - i) * g (n - 1 - j) := by grind
      have e3 : f i * g (n - 1 - j) * y = f i * y * g (n - 1 - j) := by grind
      omega
    · rw [← p, Int.mul_zero] at t
      have j0 : 0 < j := by
        rcases Nat.eq_zero_or_pos j with z | z
        · subst z
          have := hg.pos (i := n - 1 - 0) (by omega)
          omega
        · exact z
      have := Int.mul_pos (hg.pos j0) fp
      omega
  · exact z
theorem lead_ge' (hf : Asc f) (hg : Asc g) (hn : 2 ≤ n) (l : IsLead n (fun i => above g n (f i) (f (n - 1 - i))) L) {x y : Int} (hx : 0 ≤ x) (hy : 0 ≤ y) : (above g n x y : Int) - (above f n x y : Int) ≤ L := by
  have r1 := reflect hf (n := n) hx hy
  have r2 := reflect hg (n := n) hx hy
  have c := strictly_le f n y x
  have nnL := l.nn
  rcases Nat.eq_zero_or_pos (strictly f n y x) with z | z
  · omega
  · have hi : strictly f n y x - 1 < n := by omega
    have t := (strictly_iff hf hy hx _ hi).mpr (by omega)
    have u := under_lt hf hg hn hy hx hi t
    have v := l.up _ hi
    omega
def apart (f g : Nat → Int) (n : Nat) (q : Int × Int) : Int := if (above f n q.1 q.2 : Int) - (above g n q.1 q.2 : Int) < 0 then -((above f n q.1 q.2 : Int) - (above g n q.1 q.2 : Int)) else (above f n q.1 q.2 : Int) - (above g n q.1 q.2 : Int)
def spotsF (f : Nat → Int) (n : Nat) : List (Int × Int) := ((List.range n).map fun i => (f i, f (n - 1 - i))).filter fun q => decide (q.2 > 0)
def allSpots (f g : Nat → Int) (n : Nat) : List (Int × Int) := [(0, 1)] ++ spotsF f n ++ spotsF g n
theorem spots_nn (hf : Asc f) : ∀ q ∈ spotsF f n, 0 ≤ q.1 ∧ 0 ≤ q.2 := by
  intro q hq
  obtain ⟨hq, _⟩ := List.mem_filter.mp hq
  obtain ⟨i, _, rfl⟩ := List.mem_map.mp hq
  exact ⟨hf.nn _, hf.nn _⟩
theorem all_nn (hf : Asc f) (hg : Asc g) : ∀ q ∈ allSpots f g n, 0 ≤ q.1 ∧ 0 ≤ q.2 := by
  intro q hq
  rcases List.mem_append.mp hq
        with hq | hq
  · rcases List.mem_append.mp
        hq with hq | hq
    · rw [List.mem_singleton.mp hq]; exact ⟨by decide, by decide⟩
    · exact spots_nn hf q hq
  · exact spots_nn hg q hq
/-- the greatest distance at the spots is the lead -/
theorem lead_due (hf : Asc f) (hg : Asc g) (hn : 2 ≤ n) (l : IsLead n (fun i => above g n (f i) (f (n - 1 - i))) L) {m : Int} (hm : m ∈ (allSpots f g n).map (apart f g n)) (up : ∀ y ∈ (allSpots f g n).map (apart f g n), y ≤ m) : L = m := by
  have ab : ∀ q : Int × Int, 0 ≤ q.1 → 0 ≤ q.2 → apart f g n q ≤ L := fun q h1 h2 => by
    have a := lead_ge hf hg hn l h1 h2
    have b := lead_ge' hf hg hn l h1 h2
    unfold apart
    split <;> omega
  have nna : ∀ q : Int × Int, 0 ≤ apart f g n q := fun q => by
    unfold apart
    split <;> omega
  have le1 : m ≤ L := by
    obtain ⟨q, hq, rfl⟩ := List.mem_map.mp hm
    obtain ⟨h1, h2⟩ := all_nn hf hg q hq
    exact ab q h1 h2
  have le2 : L ≤ m := by
    rcases l.at_ with z | ⟨i, hi, z⟩
    · have := up _ (List.mem_map.mpr ⟨(0, 1), by unfold allSpots; simp, rfl⟩)
      have := nna (0, 1)
      omega
    · rcases Int.lt_or_eq_of_le (hf.nn (n - 1 - i)) with p | p
      · have mem : ((f i, f (n - 1 - i)) : Int × Int) ∈ allSpots f g n := by
          unfold allSpots spotsF
          refine List.mem_append_left _ (List.mem_append_right _ (List.mem_filter.mpr ⟨List.mem_map.mpr ⟨i, List.mem_range.mpr hi, rfl⟩, decide_eq_true p⟩))
        have u := up _ (List.mem_map.mpr ⟨_, mem, rfl⟩)
        have o := above_own hf hi
        have e : ((i + 1 : Nat) : Int) - (above g n (f i) (f (n - 1 - i)) : Int) ≤ apart f g n (f i, f (n - 1 - i)) := by
          unfold apart
          dsimp only
          rw [o]
          split <;> omega
        omega
      · -- the border is beyond all numbers: nothing is ahead there
        have full : above g n (f i) (f (n - 1 - i)) = n := by
          have a := above_iff hg (n := n) (hf.nn i) (hf.nn (n - 1 - i)) (n - 1) (by omega)
          have c := above_le g n (f i) (f (n - 1 - i))
          have : n - 1 < above g n (f i) (f (n - 1 - i)) := a.mp (by
            rw [← p, Int.mul_zero]
            exact Int.mul_nonneg (hf.nn _) (hg.nn _))
          omega
        have := up _ (List.mem_map.mpr ⟨(0, 1), by unfold allSpots; simp, rfl⟩)
        have := nna (0, 1)
        have z' : L = ((i + 1 : Nat) : Int) - (above g n (f i) (f (n - 1 - i)) : Int) := z
        rw [full] at z'
        omega
  omega
end
end LW

set_option Elab.async false
set_option linter.all false
set_option maxRecDepth 100000
set_option maxHeartbeats 4000100
set_option exponentiation.threshold 9000
/-! the lead as the program finds it -/
namespace LW
open L2 PySem.Spec PyProof.Rows PySem
theorem lt_ratio4 {b s c t : Int} {ms ns : List Int} (r : IR b ms s) (r2 : IR c ns t) (i i' j j' : Nat) :
    ltQ (ratioQ (MQ (lowQ s b) (lowL b ms) i) (MQ (lowQ s b) (lowL b ms) i')) (ratioQ (MQ (lowQ t c) (lowL c ns) j) (MQ (lowQ t c) (lowL c ns) j')) ↔ atM b ms s i * atM c ns t j' < atM c ns t j * atM b ms s i' := by
  obtain ⟨e1, h1⟩ := r.mark i
  obtain ⟨e3, h3⟩ := r.mark i'
  obtain ⟨e2, h2⟩ := r2.mark j
  obtain ⟨e4, h4⟩ := r2.mark j'
  exact cross e2 e1 e4 e3 h2 h1 h4 h3 r2.b0 r.b0
theorem IR.asc {b s : Int} {ms : List Int} (r : IR b ms s) : Asc (atM b ms s) := by
  have hb := r.b0
  constructor
  · unfold atM
    split
    · rename_i h
      exact r.nn _ (by rw [List.getD_eq_getElem?_getD, List.getElem?_eq_getElem h]; exact List.getElem_mem h)
    · have := r.s0; omega
  · intro k
    unfold atM
    by_cases h1 : k + 1 < ms.length
    · rw [if_pos (by omega), if_pos h1]
      refine r.inc k _ _ ?_ ?_
      · rw [List.getD_eq_getElem?_getD, List.getElem?_eq_getElem (by omega)]; rfl
      · rw [List.getD_eq_getElem?_getD, List.getElem?_eq_getElem (by omega)]; rfl
    · rw [if_neg h1]
      by_cases h2 : k < ms.length
      · rw [if_pos h2]
        have e : ms[k]? = some (ms.getD k 0) := by rw [List.getD_eq_getElem?_getD, List.getElem?_eq_getElem h2]; rfl
        have u := r.under _ (List.mem_of_getElem? e)
        have : ms.length = k + 1 := by omega
        rw [this] at u
        exact u
      · rw [if_neg h2]
        have : ((k + 1 : Nat) : Int) * b = (k : Int) * b + b := by
          have : ((k + 1 : Nat) : Int) = (k : Int) + 1 := by omega
          rw [this, Int.add_mul,
                Int.one_mul]
        omega
theorem adv_is {q : Int × Int} {os : List (Int × Int)} {c : Nat} (iff : ∀ j o, os[j]? = some o → (¬ ltQ q o ↔ j < c)) (hc : c ≤ os.length) : ∀ (d p : Nat), p + d = c → advQ q os p = c
  | 0, p, h => by
    have : p = c := by omega
    subst this
    rcases Nat.lt_or_ge p os.length with z | z
    · have e : os[p]? = some os[p] := List.getElem?_eq_getElem z
      have l : ltQ q os[p] := by
        by_cases y : ltQ q os[p]
        · exact y
        · exact absurd ((iff p _ e).mp y) (Nat.lt_irrefl _)
      exact adv_off e l
    · exact adv_end z
  | d + 1, p, h => by
    have z : p < os.length := by omega
    have e : os[p]? = some os[p] := List.getElem?_eq_getElem z
    rw [adv_on e ((iff p _ e).mpr (by omega))]
    exact adv_is iff hc d (p + 1) (by omega)
theorem leadG_is {bs os : List (Int × Int)} {cnt : Nat → Nat} (h : ∀ i q, bs[i]? = some q → ∀ p, p ≤ cnt i → advQ q os p = cnt i) (mono : ∀ i, i + 1 < bs.length → cnt i ≤ cnt (i + 1)) :
    ∀ (d i : Nat) (m : Int) (p : Nat), i + d = bs.length → (0 < d → p ≤ cnt i) →
      m ≤ leadG os (bs.drop i) i m p ∧ (∀ j, i ≤ j → j < bs.length → ((j + 1 : Nat) : Int) - (cnt j : Int) ≤ leadG os (bs.drop i) i m p) ∧ (leadG os (bs.drop i) i m p = m ∨ ∃ j, j < bs.length ∧ leadG os (bs.drop i) i m p = ((j + 1 : Nat) : Int) - (cnt j : Int))
  | 0, i, m, p, hi, _ => by
    rw [List.drop_eq_nil_of_le (by omega)]
    exact ⟨Int.le_refl _, fun j h1 h2 => by omega, .inl rfl⟩
  | d + 1, i, m, p, hi, hp => by
    have z : i < bs.length := by omega
    have e : bs[i]? = some bs[i] := List.getElem?_eq_getElem z
    have a := h i _ e p (hp (by omega))
    have st : leadG os (bs.drop i) i m p = leadG os (bs.drop (i + 1)) (i + 1) (max m (((i + 1 : Nat) : Int) - (cnt i : Int))) (cnt i) := by
      rw [List.drop_eq_getElem_cons z]
      show leadG os (bs.drop (i + 1)) (i + 1) (max m (((i + 1 : Nat) : Int) - ((advQ bs[i] os p : Nat) : Int))) (advQ bs[i] os p) = _
      rw [a]
    rw [st]
    obtain ⟨h1, h2, h3⟩ := leadG_is h mono d (i + 1) (max m (((i + 1 : Nat) : Int) - (cnt i : Int))) (cnt i) (by omega) (fun hd => mono i (by omega))
    generalize leadG os (bs.drop (i + 1)) (i + 1) (max m (((i + 1 : Nat) : Int) - (cnt i : Int))) (cnt i) = L at *
    refine ⟨by omega, fun j j1 j2 => ?_, ?_⟩
    · rcases Nat.lt_or_ge i j with y | y
      · exact h2 j (by omega) j2
      · have : j = i := by omega
        subst this
        omega
    · rcases h3 with y | y
      · by_cases w : m ≤ ((i + 1 : Nat) : Int) - (cnt i : Int)
        · exact .inr ⟨i, z, by omega⟩
        · exact .inl (by omega)
      · exact .inr y
theorem bordersF_len (M : Nat → Int × Int) (n : Nat) : (bordersF M n).length = n := by unfold bordersF; rw [List.length_map, List.length_range]
theorem bordersF_get {M : Nat → Int × Int} {n i : Nat} {q : Int × Int} (h : (bordersF M n)[i]? = some q) : i < n ∧ q = ratioQ (M i) (M (n - 1 - i)) := by
  obtain ⟨j, hj, rfl⟩ := some_map h
  obtain ⟨a, rfl⟩ := range_get hj
  exact ⟨a, rfl⟩
theorem lead_is {b s c t : Int} {ms ns : List Int} (r : IR b ms s) (r2 : IR c ns t) (n : Nat) :
    IsLead n (fun i => above (atM c ns t) n (atM b ms s i) (atM b ms s (n - 1 - i))) (leadF (bordersF (MQ (lowQ s b) (lowL b ms)) n) (bordersF (MQ (lowQ t c) (lowL c ns)) n)) := by
  have hf := r.asc
  have hg := r2.asc
  have key : ∀ i q, (bordersF (MQ (lowQ s b) (lowL b ms)) n)[i]? = some q → ∀ p, p ≤ above (atM c ns t) n (atM b ms s i) (atM b ms s (n - 1 - i)) → advQ q (bordersF (MQ (lowQ t c) (lowL c ns)) n) p = above (atM c ns t) n (atM b ms s i) (atM b ms s (n - 1 - i)) := by
    intro i q hq p hp
    obtain ⟨hi, rfl⟩ := bordersF_get hq
    refine adv_is (fun j o ho => ?_) (by rw [bordersF_len]; exact above_le _ _ _ _) (above (atM c ns t) n (atM b ms s i) (atM b ms s (n - 1 - i)) - p) p (by omega)
    obtain ⟨hj, rfl⟩ := bordersF_get ho
    rw [lt_ratio4 r r2, ← above_iff hg (hf.nn i) (hf.nn (n - 1 - i)) j hj]
    exact Int.not_lt
  have mono : ∀ i, i + 1 < (bordersF (MQ (lowQ s b) (lowL b ms)) n).length → above (atM c ns t) n (atM b ms s i) (atM b ms s (n - 1 - i)) ≤ above (atM c ns t) n (atM b ms s (i + 1)) (atM b ms s (n - 1 - (i + 1))) := by
    intro i hi
    rw [bordersF_len] at hi
    refine under_le hf hg (by omega) (hf.nn _) (hf.nn _) (by omega) ?_
    exact Int.mul_le_mul (hf.mono (by omega)) (hf.mono (by omega)) (hf.nn _) (hf.nn _)
  obtain ⟨h1, h2, h3⟩ := leadG_is key mono n 0 0 0 (by rw [bordersF_len]; omega) (fun _ => Nat.zero_le _)
  rw [List.drop_zero] at h1 h2 h3
  rw [bordersF_len] at h2 h3
  exact ⟨h1, fun i hi => h2 i (Nat.zero_le _) hi, h3⟩
/-- a rule is never apart from itself -/
theorem lead_self {b s : Int} {ms : List Int} (r : IR b ms s) (n : Nat) : leadF (bordersF (MQ (lowQ s b) (lowL b ms)) n) (bordersF (MQ (lowQ s b) (lowL b ms)) n) = 0 := by
  have l := lead_is r r n
  rcases l.at_ with z | ⟨i, hi, z⟩
  · exact z
  · have z' : leadF (bordersF (MQ (lowQ s b) (lowL b ms)) n) (bordersF (MQ (lowQ s b) (lowL b ms)) n) = ((i + 1 : Nat) : Int) - (above (atM b ms s) n (atM b ms s i) (atM b ms s (n - 1 - i)) : Int) := z
    rw [above_own r.asc hi] at z'
    omega
end LW

set_option Elab.async false
set_option linter.all false
set_option exponentiation.threshold 9000
set_option maxHeartbeats 4000100
open L2 PySem.Spec PyProof.Rows PySem
namespace LW
theorem cat_len (x y : Str) : (x ++ y).length = x.length + y.length := by
  show (x.cps ++ y.cps).size = x.cps.size
        + y.cps.size
  simp
theorem plain_low' {o : Int × Int} {n : Int} (a : 0 ≤ o.1) (b : 0 < o.2) (n0 : 0 ≤ n) (low : lowQ o.1 o.2 = o) : lowQ (plainQ o n).1 (plainQ o n).2 = plainQ o n := by
  have e1 : (Nat.gcd o.1.natAbs o.2.natAbs : Nat) = 1 := by
    have h2 : o.2 / ((Nat.gcd o.1.natAbs o.2.natAbs : Nat) : Int) = o.2 := congrArg Prod.snd low
    have gp : 0 < Nat.gcd o.1.natAbs o.2.natAbs := Nat.gcd_pos_of_pos_right _ (by omega)
    generalize Nat.gcd o.1.natAbs o.2.natAbs = g at h2 gp
    rcases Nat.lt_or_ge 1 g with hg | hg
    · have := Int.ediv_lt_self_of_pos_of_ne_one b (show ((g : Nat) : Int) ≠ 1 by omega)
      omega
    · omega
  have e2 : Nat.gcd (plainQ o n).1.natAbs (plainQ o n).2.natAbs = 1 := by
    show Nat.gcd (o.1 + n * o.2).natAbs o.2.natAbs = 1
    have e3 : (o.1 + n * o.2).natAbs = o.1.natAbs + n.natAbs * o.2.natAbs := by
      rw [← Int.natAbs_mul]
      have : 0 ≤ n * o.2 := Int.mul_nonneg n0 (Int.le_of_lt b)
      omega
    rw [e3, Nat.gcd_add_mul_right_left]
    exact e1
  show ((plainQ o n).1 / ((Nat.gcd (plainQ o n).1.natAbs (plainQ o n).2.natAbs : Nat) : Int), (plainQ o n).2 / ((Nat.gcd (plainQ o n).1.natAbs (plainQ o n).2.natAbs : Nat) : Int)) = _
  rw [e2]
  show ((plainQ o n).1 / 1, (plainQ o n).2 / 1) = _
  rw [Int.ediv_one, Int.ediv_one]
theorem int_len {i : Int} (h0 : 0 ≤ i) (h : i < 10 ^ 100) : (PyData.shown (.int i)).length ≤ 100 := by
  show (Str.ofString (toString i)).length ≤ 100
  rw [toS h0, SX.S_len]
  exact TL.numL_len (by decide) (by omega)
theorem pairL_len {q : Int × Int} (a : 0 ≤ q.1) (a2 : q.1 < 10 ^ 100) (b : 0 ≤ q.2) (b2 : q.2 < 10 ^ 100) : (PyData.shown (encQ q)).length ≤ 300 := by
  have h1 := int_len a a2
  have h2 := int_len b b2
  have e : PyData.shown (encQ q) = ("(" : Str) ++ Str.join ", " [PyData.shown (.int q.1), PyData.shown (.int q.2)] ++ (")" : Str) := by
    unfold encQ
    simp only [PyData.shown, PyData.shownAll, tupleText]
    rfl
  have e2 : (Str.join ", " [PyData.shown (.int q.1), PyData.shown (.int q.2)]).length + 2 = piled [PyData.shown (.int q.1), PyData.shown (.int q.2)] := join_length_add _ (by simp)
  rw [e, cat_len, cat_len]
  have k1 : ("(" : Str).length = 1 := by decide +kernel
  have k2 : (")" : Str).length = 1 := by decide +kernel
  simp only [piled, List.map_cons, List.map_nil, List.sum_cons, List.sum_nil] at e2
  omega
theorem twoL_len {x y : PyData} (hx : x.shown.length ≤ 300) (hy : y.shown.length ≤ 300) : (PyData.shown (.list [x, y])).length ≤ sizeLine := by
  have e : PyData.shown (.list [x, y]) = (("[" : Str) ++ ("" : Str) ++ x.shown) ++ (", " : Str) ++ y.shown ++ ("]" : Str) := by
    simp only [PyData.shown, PyData.shownAll]
    rfl
  have k1 : ("[" : Str).length = 1 := by decide +kernel
  have k2 : ("]" : Str).length = 1 := by decide +kernel
  have k3 : (", " : Str).length = 2 := by decide +kernel
  have k4 : ("" : Str).length = 0 := by decide +kernel
  rw [e, cat_len, cat_len, cat_len, cat_len, cat_len, sizeLine_eq]
  omega
/-- a mark that is told -/
structure OkM (q : Int × Int) : Prop where
  a : 0 ≤ q.1
  a2 : q.1 < 10 ^ 100
  b : 0 < q.2
  b2 : q.2 < 10 ^ 100
  low : lowQ q.1 q.2 = q
theorem VR.mark {o : Int × Int} {hd : List (Int × Int)} {n : Int} (r : VR o hd) (n0 : 0 ≤ n) (n1 : n < 10 ^ 40) : OkM (markQ o hd n) := by
  have oa := r.ok.a
  have ob := r.ok.b
  have oa2 := r.ok.a2
  have ob2 := r.ok.b2
  by_cases h : n < ((hd.length : Nat) : Int)
  · have hi : n.toNat < hd.length := by omega
    have z : markQ o hd n = hd[n.toNat] := by
      unfold markQ
      rw [if_pos h]
      simp [List.getD, hi]
    rw [z]
    obtain ⟨ok, low⟩ := r.oks _ (List.getElem_mem hi)
    exact ⟨ok.a, Int.lt_trans ok.a2 (by decide), ok.b, Int.lt_trans ok.b2 (by decide), low⟩
  · have z : markQ o hd n = plainQ o n := by
      unfold markQ
      rw [if_neg h]
    rw [z]
    have h1 : n * o.2 ≤ 10 ^ 40 * 10 ^ 50 := Int.mul_le_mul (Int.le_of_lt n1) (Int.le_of_lt ob2) (Int.le_of_lt ob) (by decide)
    have h0 : 0 ≤ n * o.2 := Int.mul_nonneg n0 (Int.le_of_lt ob)
    refine ⟨?_, ?_, ob, Int.lt_trans ob2 (by decide), plain_low' oa ob n0 r.low⟩
    · show 0 ≤ o.1 + n * o.2
      omega
    · show o.1 + n * o.2 < 10 ^ 100
      have : (10 : Int) ^ 50 + 10 ^ 40 * 10 ^ 50 < 10 ^ 100 := by decide
      omega
theorem markQ_in {o : Int × Int} {hd : List (Int × Int)} {n : Int} (n0 : 0 ≤ n) (h : n < ((hd.length : Nat) : Int)) : hd[n.toNat]? = some (markQ o hd n) := by
  have hi : n.toNat < hd.length := by omega
  have z : markQ o hd n = hd[n.toNat] := by
    unfold markQ
    rw [if_pos h]
    generalize n.toNat = j at hi
    simp [List.getD, hi]
  rw [z]
  exact List.getElem?_eq_getElem hi
theorem markQ_out {o : Int × Int} {hd : List (Int × Int)} {n : Int} (h : ¬ n < ((hd.length : Nat) : Int)) : markQ o hd n = plainQ o n := by
  unfold markQ
  rw [if_neg h]
theorem VR.grows {o : Int × Int} {hd : List (Int × Int)} {n : Int} (r : VR o hd) (n0 : 0 < n) : ltQ (markQ o hd (n - 1)) (markQ o hd n) := by
  have ob := r.ok.b
  by_cases h : n < ((hd.length : Nat) : Int)
  · have z := markQ_in (o := o) (Int.le_of_lt n0) h
    have y := markQ_in (o := o) (hd := hd) (n := n - 1) (by omega) (by omega)
    refine r.inc (n - 1).toNat _ _ y ?_
    rw [show (n - 1).toNat + 1 = n.toNat by omega]
    exact z
  · rw [markQ_out h]
    by_cases g : n - 1 < ((hd.length : Nat) : Int)
    · have y := markQ_in (o := o) (hd := hd) (n := n - 1) (by omega) g
      have e : hd.getLast? = some (markQ o hd (n - 1)) := by
        rw [List.getLast?_eq_getElem?, show hd.length - 1 = (n - 1).toNat by omega]
        exact y
      have l := r.last _ e
      rw [show ((hd.length : Nat) : Int) = n by omega] at l
      exact l
    · rw [markQ_out g]
      show (o.1 + (n - 1) * o.2) * o.2 < (o.1 + n * o.2) * o.2
      refine Int.mul_lt_mul_of_pos_right ?_ ob
      have : (n - 1) * o.2 = n * o.2 - o.2 := by rw [Int.sub_mul, Int.one_mul]
      omega
end LW

set_option Elab.async false
set_option linter.all false
set_option maxRecDepth 100000
set_option maxHeartbeats 4000100
set_option exponentiation.threshold 9000
/-! how long texts of data are -/
namespace LW
open L2 PySem.Spec PyProof.Rows PySem
theorem okInt {i : Int} (h0 : 0 ≤ i) (h : i < 10 ^ 100) : (PyData.int i).showable = true ∧ (PyData.int i).leavesShort 100 = true := by
  refine ⟨?_, ?_⟩
  · simp only [PyData.showable, decide_eq_true_eq]
    have : i.natAbs < 2 ^ 400 := by omega
    exact Nat.lt_of_lt_of_le (PySem.Flt.log2_lt_of (by decide) this) (by decide)
  · simp only [PyData.leavesShort, decide_eq_true_eq]
    exact int_len h0 h
theorem wInt {i : Int} (h0 : 0 ≤ i) (h : i < 10 ^ 100) : (PyData.int i).weight ≤ 401 := by
  have : i.natAbs < 2 ^ 400 := by omega
  have z : i.natAbs.log2 < 400 := PySem.Flt.log2_lt_of (by decide) this
  simp only [PyData.weight]
  split <;> omega
theorem w_tup (xs : List PyData) : (PyData.tuple xs).weight = PyData.weightAll xs := by simp [PyData.weight]
theorem w_lst (xs : List PyData) : (PyData.list xs).weight = PyData.weightAll xs := by simp [PyData.weight]
theorem w_cons (x : PyData) (xs : List PyData) : PyData.weightAll (x :: xs) = x.weight + 1 + PyData.weightAll xs := by simp [PyData.weightAll]
theorem w_nil : PyData.weightAll [] = 0 := by simp [PyData.weightAll]
theorem boolsL (b : Bool) : (PyData.list [.bool b, .bool b]).showable = true ∧ (PyData.list [.bool b, .bool b]).hasDict = false ∧ (PyData.list [.bool b, .bool b]).depth ≤ 60 ∧ (PyData.list [.bool b, .bool b]).shown.length ≤ sizeLine := by
  refine ⟨by simp [PyData.showable, PyData.showableAll], by simp [PyData.hasDict, PyData.hasDictAll], by simp [PyData.depth, PyData.depthAll], ?_⟩
  have h := PyData.shown_le 10 (by decide) (PyData.list [.bool b, .bool b]) (by simp [PyData.leavesShort, PyData.leavesShortAll])
  refine Nat.le_trans h ?_
  rw [sizeLine_eq]
  simp [PyData.weight, PyData.weightAll]
end LW

set_option Elab.async false
set_option linter.all false
set_option maxRecDepth 100000
set_option maxHeartbeats 4000100
set_option exponentiation.threshold 9000
/-! the same marks in a longer head; rules that differ -/
namespace LW
open L2 PySem.Spec PyProof.Rows PySem
theorem low_plain {b s : Int} (hb : 0 < b) (s0 : 0 ≤ s) (j : Nat) : lowQ (b * (j : Int) + s) b = plainQ (lowQ s b) (j : Int) := by
  obtain ⟨B, rfl⟩ := Int.eq_ofNat_of_zero_le (Int.le_of_lt hb)
  obtain ⟨S, rfl⟩ := Int.eq_ofNat_of_zero_le s0
  have e : ((B : Int) * (j : Int) + (S : Int)).natAbs = B * j + S := by
    have : (B : Int) * (j : Int) + (S : Int) = ((B * j + S : Nat) : Int) := by push_cast; rfl
    rw [this, Int.natAbs_natCast]
  have g : Nat.gcd (B * j + S) B = Nat.gcd S B := by
    rw [Nat.add_comm, Nat.gcd_add_mul_left_left]
  have gp : 0 < Nat.gcd S B := Nat.gcd_pos_of_pos_right _ (by omega)
  have d : (Nat.gcd S B : Int) ∣ (B : Int) := Int.natCast_dvd_natCast.mpr (Nat.gcd_dvd_right S B)
  have d2 : (Nat.gcd S B : Int) ∣ (S : Int) := Int.natCast_dvd_natCast.mpr (Nat.gcd_dvd_left S B)
  unfold lowQ plainQ
  rw [e, Int.natAbs_natCast, Int.natAbs_natCast, g]
  refine Prod.ext ?_ rfl
  show ((B : Int) * (j : Int) + (S : Int)) / (Nat.gcd S B : Int) = (S : Int) / (Nat.gcd S B : Int) + (j : Int) * ((B : Int) / (Nat.gcd S B : Int))
  rw [Int.add_ediv_of_dvd_right d2, Int.mul_comm (B : Int), Int.mul_ediv_assoc _ d, Int.add_comm]
/-- the marks of a longer head are the same -/
theorem longer_marks {b s : Int} {ms : List Int} (r : IR b ms s) (n : Nat) : ∀ k : Nat, markQ (lowQ s b) (lowL b (longer b ms s n)) ((k : Nat) : Int) = markQ (lowQ s b) (lowL b ms) ((k : Nat) : Int) := by
  intro k
  have l1 : (lowL b (longer b ms s n)).length = max ms.length n := by unfold lowL; rw [List.length_map, longer_len]
  have l2 : (lowL b ms).length = ms.length := by unfold lowL; rw [List.length_map]
  have gd : ∀ (l : List Int) (x : Int), l[k]? = some x → (lowL b l).getD k (0, 1) = lowQ x b := fun l x h => by
    rw [ List.getD_eq_getElem?_getD ]
    unfold lowL
    rw [List.getElem?_map, h]
    rfl
  unfold markQ
  rw [l1, l2, Int.toNat_natCast]
  by_cases h1 : k < ms.length
  · rw [if_pos (by omega), if_pos (by omega)]
    have e1 : ms[k]? = some ms[k] := List.getElem?_eq_getElem h1
    have e2 : (longer b ms s n)[k]? = some ms[k] := by
      unfold longer
      rw [List.getElem?_append_left h1]
      exact e1
    rw [gd _ _ e1, gd _ _ e2]
  · rw [if_neg (show ¬ ((k : Nat) : Int) < ((ms.length : Nat) : Int) by omega)]
    by_cases h2 : k < n
    · rw [if_pos (by omega)]
      have hl : k < (longer b ms s n).length := by rw [longer_len]; omega
      have e2 : (longer b ms s n)[k]? = some (longer b ms s n)[k] := List.getElem?_eq_getElem hl
      rcases longer_get e2 with ⟨z, _⟩ | ⟨_, _, z⟩
      · exact absurd z h1
      · rw [gd _ _ e2, z]
        exact low_plain r.b0 r.s0 k
    · rw [if_neg (by omega)]
theorem longer_at {b s : Int} {ms : List Int} (n k : Nat) : atM b (longer b ms s n) s k = atM b ms s k := by
  unfold atM
  rw [longer_len]
  by_cases h1 : k < ms.length
  · rw [if_pos (by omega), if_pos h1]
    unfold longer
    rw [List.getD_eq_getElem?_getD, List.getD_eq_getElem?_getD, List.getElem?_append_left h1]
  · rw [if_neg h1]
    by_cases h2 : k < n
    · rw [if_pos (by omega)]
      have hl : k < (longer b ms s n).length := by rw [longer_len]; omega
      have e2 : (longer b ms s n)[k]? = some (longer b ms s n)[k] := List.getElem?_eq_getElem hl
      rw [List.getD_eq_getElem?_getD, e2]
      rcases longer_get e2 with ⟨z, _⟩ | ⟨_, _, z⟩
      · exact absurd z h1
      · show (longer b ms s n)[k] = _
        rw [z, Int.mul_comm]
    · rw [if_neg (by omega)]
/-- rules with another mark or another offset -/
def Unl (b : Int) (ms : List Int) (s : Int) (c : Int) (ns : List Int) (t : Int) : Prop := ∃ k : Nat, k ≤ 8 ∧ atM b ms s k * c ≠ atM c ns t k * b
theorem Unl.swap {b s c t : Int} {ms ns : List Int} (h : Unl b ms s c ns t) : Unl c ns t b ms s := by
  obtain ⟨k, hk, h⟩ := h
  exact ⟨k, hk, fun z => h z.symm⟩
theorem tail_at {b s : Int} {ms : List Int} (r : IR b ms s) {k : Nat} (h : 8 ≤ k) : atM b ms s k = (k : Int) * b + s := by
  unfold atM
  rw [if_neg (by have := r.len; omega)]
/-- if all quotients agree, the rules do -/
theorem agree {b s c t : Int} {ms ns : List Int} (r : IR b ms s) (r2 : IR c ns t) (h89 : atM b ms s 8 * atM c ns t 9 = atM c ns t 8 * atM b ms s 9) (hk : ∀ k, k < 8 → atM b ms s k * atM c ns t 8 = atM c ns t k * atM b ms s 8) : ¬ Unl b ms s c ns t := by
  rintro ⟨k, k8, h⟩
  have e8 := tail_at r (k := 8) (by omega)
  have e9 := tail_at r (k := 9) (by omega)
  have f8 := tail_at r2 (k := 8) (by omega)
  have f9 := tail_at r2 (k := 9) (by omega)
  have z8 : ((8 : Nat) : Int) = 8 := rfl
  have z9 : ((9 : Nat) : Int) = 9 := rfl
  rw [z8] at e8 f8
  rw [z9] at e9 f9
  have st : s * c = t * b := by
    rw [e8, e9, f8, f9] at h89
    grind
  have p8 : atM b ms s 8 * c = atM c ns t 8 * b := by
    rw [e8, f8]
    grind
  rcases Nat.lt_or_ge k 8 with y | y
  · apply h
    have g0 := r2.asc.pos (i := 8) (by omega)
    have := hk k y
    refine Int.eq_of_mul_eq_mul_right (a := atM c ns t 8) (by omega) ?_
    have e1 : atM b ms s k * c * atM c ns t 8 = atM b ms s k * atM c ns t 8 * c := by grind
    have e2 : atM c ns t k * b * atM c ns t 8 = atM c ns t k * (atM c ns t 8 * b) := by grind
    rw [e1, this, e2, ← p8]
    grind
  · have : k = 8 := by omega
    subst this
    exact h p8
theorem Unl.fdiff {b s c t : Int} {ms ns : List Int} (r : IR b ms s) (r2 : IR c ns t) (h : Unl b ms s c ns t) : LW.fdiff (MQ (lowQ s b) (lowL b ms)) (MQ (lowQ t c) (lowL c ns)) ≠ none := by
  intro z
  have d := fdiff_due r r2
  rw [z] at d
  have d' : dueN (unlI b ms s c ns t) = none := d.symm
  have all : ∀ i, i < 18 → ∀ l, l < i + 1 → unlI b ms s c ns t l (i - l) = false := by
    intro i hi l hl
    unfold dueN at d'
    rw [List.findSome?_eq_none_iff] at d'
    have y := d' i (List.mem_range.mpr hi)
    by_cases q : ((List.range (i + 1)).any fun l => unlI b ms s c ns t l (i - l)) = true
    · rw [if_pos q] at y; cases y
    · have q' := (Bool.not_eq_true _).mp q
      rw [List.any_eq_false] at q'
      exact (Bool.not_eq_true _).mp (q' l (List.mem_range.mpr hl))
  have pr : ∀ k l, k < l → k + l < 18 → atM b ms s k * atM c ns t l = atM c ns t k * atM b ms s l := by
    intro k l hkl h18
    have y := all (k + l) h18 k (by omega)
    rw [show k + l - k = l by omega] at y
    unfold unlI at y
    rw [if_neg (by omega), Bool.not_eq_false'] at y
    have := of_decide_eq_true y
    rw [this, Int.mul_comm]
  exact agree r r2 (pr 8 9 (by omega) (by omega)) (fun k hk => pr k 8 hk (by omega)) h
theorem Unl.unk {b s c t : Int} {ms ns : List Int} (r : IR b ms s) (r2 : IR c ns t) (h : Unl b ms s c ns t) (h1 : IsFirst (LW.unk (lowQ s b) (lowL b ms) (lowQ t c) (lowL c ns)) 10 none) (h2 : IsFirst (LW.unk (lowQ t c) (lowL c ns) (lowQ s b) (lowL b ms)) 10 none) : False := by
  have pr : ∀ k l, k < l → l < 10 → atM b ms s k * atM c ns t l = atM c ns t k * atM b ms s l := by
    intro k l hkl hl
    have y1 := h1 l hl k hkl
    have y2 := h2 l hl k hkl
    rw [unk_unkI r r2] at y1
    rw [unk_unkI r2 r] at y2
    have z1 := of_decide_eq_false y1
    have z2 := of_decide_eq_false y2
    omega
  exact agree r r2 (pr 8 9 (by omega) (by omega)) (fun k hk => pr k 8 hk (by omega)) h
theorem Unl.eq {b s c t : Int} {ms ns : List Int} (r : IR b ms s) (r2 : IR c ns t) (h : Unl b ms s c ns t) : (decide (lowQ s b = lowQ t c) && decide (startQ (lowQ s b) (lowL b ms) = startQ (lowQ t c) (lowL c ns))) = false := by
  rw [Bool.eq_false_iff]
  intro z
  rw [Bool.and_eq_true] at z
  have z1 := of_decide_eq_true z.1
  have z2 := of_decide_eq_true z.2
  obtain ⟨k, k8, h⟩ := h
  apply h
  obtain ⟨e1, h1⟩ := r.mark k
  obtain ⟨e2, h2⟩ := r2.mark k
  have m : markQ (lowQ s b) (lowL b ms) ((k : Nat) : Int) = markQ (lowQ t c) (lowL c ns) ((k : Nat) : Int) := by
    rcases Nat.lt_or_ge k 8 with y | y
    · have y1 : (startQ (lowQ s b) (lowL b ms))[k]? = some (markQ (lowQ s b) (lowL b ms) ((k : Nat) : Int)) := by
        unfold startQ
        rw [List.getElem?_map, List.getElem?_range y]
        rfl
      have y2 : (startQ (lowQ t c) (lowL c ns))[k]? = some (markQ (lowQ t c) (lowL c ns) ((k : Nat) : Int)) := by
        unfold startQ
        rw [List.getElem?_map, List.getElem?_range y]
        rfl
      rw [z2, y2] at y1
      exact (Option.some.inj y1).symm
    · unfold markQ
      have l1 := r.vr.len
      have l2 := r2.vr.len
      rw [if_neg (by omega), if_neg (by omega), z1]
  rw [m] at e1 h1
  generalize markQ (lowQ t c) (lowL c ns) ((k : Nat) : Int) = p at e1 e2 h1
  refine Int.eq_of_mul_eq_mul_right (a := p.2) (by omega) ?_
  have a1 : atM b ms s k * c * p.2 = p.1 * b * c := by rw [e1]; grind
  have a2 : atM c ns t k * b * p.2 = p.1 * c * b := by rw [e2]; grind
  rw [a1, a2]
  grind
end LW

set_option Elab.async false
set_option linter.all false
set_option maxRecDepth 100000
set_option maxHeartbeats 4000100
set_option exponentiation.threshold 9000

namespace LW
open L2 PySem.Spec PyProof.Rows PySem
abbrev s__law_longer : Stmt := topS 59
theorem sc__law_longer : FnScope ["_law_own", "_law_size", "_law_at"] ["_law_own", "_law_size"] (defScope s__law_longer) := ⟨rfl, rfl, rfl, by decide +kernel, rfl, by decide +kernel, by decide +kernel⟩
abbrev s__law_moved : Stmt := topS 60
theorem sc__law_moved : FnScope ["_law_pool_here", "_law_own", "_law_marks", "_law_shift", "_law_mark", "_law_step", "_law_kept", "_law_at"] ["_law_pool_here", "_law_own"] (defScope s__law_moved) := ⟨rfl, rfl, rfl, by decide +kernel, rfl, by decide +kernel, by decide +kernel⟩
local macro_rules | `(tactic| walk_at "len") => `(tactic| skip)
/-! ### a longer head, a mark or the offset moved -/
section
variable {P : Program} {w : World} {K : PySem.W.Frag} {mg : Str → Option Value} {base : Heap} {c : Addr}
def sp__law_longer (K : PySem.W.Frag) (c : Addr) : Sp := fun vs H Q _ => ∃ (v : V) (A : List Addr) (b s : Int) (ms : List Int) (n : Nat), vs = [v, .int (n : Nat)] ∧ Hd A H ∧ RawR A H v b ms s ∧ IR b ms s ∧ b < 10 ^ 20 ∧ n ≤ 8 ∧
  ∀ u H', Same H H' → Is K A H' u (irD b (longer b ms s n) s) → Q u H'
theorem cal__law_longer (B : Bl mg) (DD : OwnDef K mg "_law_longer" s__law_longer)   : Cal P w K mg base 1 "_law_longer" (sp__law_longer K c) [] := by
  obtain ⟨f, fd, F, hm⟩ := DD.ex
  refine ⟨f, fd, ["_law_own", "_law_size"], [], F.ok sc__law_longer (fun vs H Q E h => ?len) (fun cdv A outer s H vs Q E hr h => ?run), hm, F.kp, F.binds (fun _ _ _ _ _ _ us hl => match us, hl with | [_, _], _ => rfl), .nil⟩
  case len => first | (obtain ⟨_, rfl, _⟩ := h; rfl) | (obtain ⟨_, _, rfl, _⟩ := h; rfl) | (obtain ⟨_, _, _, rfl, _⟩ := h; rfl) | (obtain ⟨_, _, _, _, rfl, _⟩ := h; rfl) | (obtain ⟨_, _, _, _, _, rfl, _⟩ := h; rfl) | (obtain ⟨_, _, _, _, _, _, rfl, _⟩ := h; rfl) | (obtain ⟨_, _, _, _, _, _, _, rfl, _⟩ := h; rfl) | (obtain ⟨_, _, _, _, _, _, _, _, rfl, _⟩ := h; rfl) | (obtain ⟨_, _, _, _, _, _, _, _, _, rfl, _⟩ := h; rfl) | (obtain ⟨_, _, _, _, _, _, _, _, _, _, rfl, _⟩ := h; rfl) | (obtain ⟨_, _, _, _, _, _, _, _, _, _, _, rfl, _⟩ := h; rfl) | (obtain ⟨_, _, _, _, _, _, _, _, _, _, _, _, rfl, _⟩ := h; rfl) | (obtain ⟨_, _, _, _, _, _, _, _, _, _, _, _, _, rfl, _⟩ := h; rfl) | (obtain ⟨_, _, _, _, _, _, _, _, _, _, _, _, _, _, rfl, _⟩ := h; rfl)
  case run =>
    obtain ⟨v, A0, b, s, ms, n, rfl, hA, raw, ir, bb, hn, k⟩ := h
    refine ⟨_, (pss_one (ps_ret (pe_tup (pa_cons (pe_ix (r := rIx K) ix_seq (pv 0) pe_int (fun _ _ => rfl)) (pa_cons (pe_op op_cat (pe_ix ix_seq (pv 0) pe_int (fun _ _ => rfl)) (pe_lc (own := [("_law_at", 2)]) (by rfl) sc__law_longer.nd (pi_range2 (by rfl) B.range (pa_cons (pe_callB call_len_seq (by rfl) B.len (by decide +kernel) (pa_cons (pe_ix ix_seq (pv 0) pe_int (fun _ _ => rfl)) pa_nil)) (pa_cons (pv 1) pa_nil))) (blkOk_by (own := [("_law_at", 2)]) (N := ["_law_own", "_law_size", "_law_at"]) (sc := defScope s__law_longer) (by decide +kernel)) (fun _ _ _ _ _ => (pg_name (i := 2) sc__law_longer.nd rfl (Or.inl rfl))) (fun _ _ _ _ _ => pts_nil) (fun _ _ _ _ _ => (pe_op op_add (pe_op op_mulW (pv 2) (pe_ix (r := rIx K) ix_seq (pv 0) pe_int (fun _ _ => rfl))) (pe_ix (r := rIx K) ix_seq (pv 0) pe_int (fun _ _ => rfl)))))) (pa_cons (pe_ix (r := rIx K) ix_seq (pv 0) pe_int (fun _ _ => rfl)) pa_nil)))))), ?_⟩
    have b0 := ir.b0
    have hv : Is K A0 H v (irD b ms s) := raw.is
    obtain ⟨t, l, rfl, nt, nl, et, el⟩ := raw
    refine ⟨_, rfl, rd_int hv (by decide) rfl ?_⟩
    have sqt : SqT K H t [.int b, .ref l, .int s] := .inl (.inl et)
    refine ⟨_, rfl, .inr (.inl ⟨t, _, 1, _, rfl, rfl, sqt, atI_of (by decide) rfl, ?_⟩)⟩
    refine ⟨_, rfl, .inr (.inl ⟨t, _, 1, _, rfl, rfl, sqt, atI_of (by decide) rfl, l, _, rfl, .inl (.inl (.inl el)), ?_⟩)⟩
    rw [List.length_map]
    have v8 := ir.len
    refine ⟨_, rfl, _, _, rfl, ⟨by omega, by omega, by omega, by omega⟩, fun D2 nD2 => ?_⟩
    have eN : (((n : Nat) : Int) - ((ms.length : Nat) : Int)).toNat = n - ms.length := by omega
    refine lc_range (lo := ((ms.length : Nat) : Int)) (fun i H6 => Same H H6 ∧ H6 D2 = some (.lst (((List.range i).map fun (j : Nat) => b * (((ms.length : Nat) : Int) + (j : Int)) + s).map V.int))) ⟨same_new nD2, upd_same⟩ ?_ ?_
    · rintro i H6 hi ⟨s6, eD6⟩
      have hi' : i < 9 := by omega
      have hv6 := Is.mono (Go.of s6) hv
      refine ⟨rfl, _, rfl, _, rfl, rd_int hv6 (by decide) rfl ?_⟩
      refine ⟨_, _, rfl, rfl, wide_mul (a := 20) (b := 80) (by omega) (by omega) (by decide) (by decide) (by decide), ?_⟩
      refine ⟨_, rfl, rd_int hv6 (by decide) rfl ?_⟩
      refine ⟨_, _, rfl, rfl, _, eD6, ?_, fun b' o e => ?_, ?_⟩
      · rw [List.length_map, List.length_map, List.length_range]
        exact small1000 (by omega)
      · rw [upd_ne (ne_of_none e nD2)]
        exact s6 _ _ e
      · rw [upd_same, List.range_succ, List.map_append, List.map_append]
        show some (HO.lst (_ ++ [V.int ((((ms.length : Nat) : Int) + ((i : Nat) : Int)) * b + s)])) = _
        rw [Int.mul_comm _ b]
        rfl
    rintro H6 ⟨s6, eD6⟩
    refine ⟨l, D2, _, _, rfl, rfl, s6 _ _ el, eD6, ?_, fun t2 nt2 => ?_⟩
    · rw [List.length_map, List.length_map, List.length_map, List.length_range, sizeLine_eq]; omega
    have hA6 := (Go.of (A := A0) s6).held hA
    have eL : ms.map V.int ++ ((List.range (((n : Nat) : Int) - ((ms.length : Nat) : Int)).toNat).map fun (j : Nat) => b * (((ms.length : Nat) : Int) + (j : Int)) + s).map V.int = (longer b ms s n).map V.int := by
      rw [eN]
      unfold longer
      rw [List.map_append]
    rw [eL]
    have s7 : Same H (upd H6 t2 (.lst ((longer b ms s n).map V.int))) := s6.trans (same_new nt2)
    refine ⟨_, rfl, rd_int (Is.mono (Go.of s7) hv) (by decide) rfl ?_⟩
    refine ⟨by show 3 ≤ sizeLine; decide, fun q nq => ?_⟩
    refine k _ _ (s7.trans (same_new nq)) ?_
    exact is_new_tup (hd_new hA6 nt2) nq (DAll.cons (.int _) (DAll.cons (.lst' (.inl (.inl (by rw [hv_out (hA6.out nt2)]; exact upd_same))) (iss_ints _)) (DAll.cons (.int _) DAll.nil)))
theorem unl_offs {b s e : Int} {ms ns : List Int} (r : IR b ms s) (r2 : IR (2 * b) ns (2 * s + e)) (he : e ≠ 0) : Unl b ms s (2 * b) ns (2 * s + e) := by
  refine ⟨8, by omega, ?_⟩
  rw [tail_at r (by omega), tail_at r2 (by omega)]
  have b0 := r.b0
  intro z
  have e1 : (((8 : Nat) : Int) * (2 * b) + (2 * s + e)) * b = (((8 : Nat) : Int) * b + s) * (2 * b) + e * b := by grind
  rw [e1] at z
  have : e * b ≠ 0 := Int.mul_ne_zero he (by omega)
  omega
theorem unl_nudge {b s e x : Int} {ms : List Int} {i : Nat} (r : IR b ms s) (hx : ms[i]? = some x) (he : e ≠ 0) : Unl b ms s (2 * b) ((twice ms).set i (2 * x + e)) (2 * s) := by
  have hi : i < ms.length := (List.getElem?_eq_some_iff.mp hx).1
  have v8 := r.len
  have b0 := r.b0
  refine ⟨i, by omega, ?_⟩
  have a1 : atM b ms s i = x := by
    unfold atM
    rw [if_pos hi, List.getD_eq_getElem?_getD, hx]
    rfl
  have a2 : atM (2 * b) ((twice ms).set i (2 * x + e)) (2 * s) i = 2 * x + e := by
    unfold atM
    rw [List.length_set, twice_len, if_pos hi, List.getD_eq_getElem?_getD, List.getElem?_set_self (by rw [twice_len]; exact hi)]
    rfl
  rw [a1, a2]
  intro z
  have e1 : (2 * x + e) * b = x * (2 * b) + e * b := by grind
  rw [e1] at z
  have : e * b ≠ 0 := Int.mul_ne_zero he (by omega)
  omega
/-- the offset alone one more, or one less from the top -/
theorem IR.offe {b s e : Int} {ms : List Int} (r : IR b ms s) (hb : b < 10 ^ 20) (he : (e = 1 ∧ 2 * s < 2 * b) ∨ (e = -1 ∧ s = b)) : IR (2 * b) (twice ms) (2 * s + e) := by
  have d := r.dbl hb
  have b0 := r.b0
  refine ⟨d.b0, d.b1, by have := d.s0; omega, by omega, d.len, d.nn, d.inc, fun m hm => ?_⟩
  have hm' : m ∈ twice ms := List.mem_of_getLast? hm
  obtain ⟨x, hx, rfl⟩ := List.mem_map.mp hm'
  have u := r.under x hx
  rw [twice_len]
  have : (ms.length : Int) * (2 * b) = 2 * ((ms.length : Int) * b) := by rw [Int.mul_left_comm]
  omega
def sp__law_moved (K : PySem.W.Frag) (c : Addr) : Sp := fun vs H Q _ => ∃ (a : Addr) (v : V) (A : List Addr) (b s : Int) (ms : List Int), vs = [.ref a, v] ∧ PoolAt H a ∧ a ∈ A ∧ Hd A H ∧ Is K A H v (irD b ms s) ∧ IR b ms s ∧ b < 10 ^ 20 ∧
  ∀ u H' b' ms' s', Go A H H' → PoolAt H' a → Is K A H' u (irD b' ms' s') → IR b' ms' s' → Unl b ms s b' ms' s' → Q u H'
theorem cal__law_moved (B : Bl mg) (DD : OwnDef K mg "_law_moved" s__law_moved) (C__law_draw : Cal P w K mg base 1 "_law_draw" (sp__law_draw K c) [])  : Cal P w K mg base 2 "_law_moved" (sp__law_moved K c) [] := by
  obtain ⟨f, fd, F, hm⟩ := DD.ex
  refine ⟨f, fd, ["_law_pool_here", "_law_own"], [], F.ok sc__law_moved (fun vs H Q E h => ?len) (fun cdv A outer s H vs Q E hr h => ?run), hm, F.kp, F.binds (fun _ _ _ _ _ _ us hl => match us, hl with | [_, _], _ => rfl), .nil⟩
  case len => first | (obtain ⟨_, rfl, _⟩ := h; rfl) | (obtain ⟨_, _, rfl, _⟩ := h; rfl) | (obtain ⟨_, _, _, rfl, _⟩ := h; rfl) | (obtain ⟨_, _, _, _, rfl, _⟩ := h; rfl) | (obtain ⟨_, _, _, _, _, rfl, _⟩ := h; rfl) | (obtain ⟨_, _, _, _, _, _, rfl, _⟩ := h; rfl) | (obtain ⟨_, _, _, _, _, _, _, rfl, _⟩ := h; rfl) | (obtain ⟨_, _, _, _, _, _, _, _, rfl, _⟩ := h; rfl) | (obtain ⟨_, _, _, _, _, _, _, _, _, rfl, _⟩ := h; rfl) | (obtain ⟨_, _, _, _, _, _, _, _, _, _, rfl, _⟩ := h; rfl) | (obtain ⟨_, _, _, _, _, _, _, _, _, _, _, rfl, _⟩ := h; rfl) | (obtain ⟨_, _, _, _, _, _, _, _, _, _, _, _, rfl, _⟩ := h; rfl) | (obtain ⟨_, _, _, _, _, _, _, _, _, _, _, _, _, rfl, _⟩ := h; rfl) | (obtain ⟨_, _, _, _, _, _, _, _, _, _, _, _, _, _, rfl, _⟩ := h; rfl)
  case run =>
    obtain ⟨a, v, A0, b, s, ms, rfl, tk, aA, hA, hv, ir, bb, k⟩ := h
    refine ⟨_, (pss_cons (ps_par (i := 2) (j := 3) (by rfl) sc__law_moved.nd rfl rfl (by decide) rfl rfl (pa_cons (pe_lc (own := [("_law_mark", 4)]) (by rfl) sc__law_moved.nd (pi_list (pe_ix ix_seq (pv 1) pe_int (fun _ _ => rfl))) (blkOk_by (own := [("_law_mark", 4)]) (N := ["_law_pool_here", "_law_own", "_law_marks", "_law_shift", "_law_mark", "_law_step", "_law_kept", "_law_at"]) (sc := defScope s__law_moved) (by decide +kernel)) (fun _ _ _ _ _ => (pg_name (i := 4) sc__law_moved.nd rfl (Or.inl rfl))) (fun _ _ _ _ _ => pts_nil) (fun _ _ _ _ _ => (pe_op op_mul pe_int (pv 4)))) (pa_cons (pe_op op_mul pe_int (pe_ix ix_seq (pv 1) pe_int (fun _ _ => rfl))) pa_nil)) (by rfl))
      (pss_cons (ps_if (PW.pt (pw_or (pt_cmpR (op_eqD hr.units) (pv 2) (pe_lst pa_nil) (nomark _)) (pw_or1 (pt_cmpR op_eq (pe_c C__law_draw hr (by decide) (by rfl) (pa_cons (pv 0) (pa_cons pe_int pa_nil))) pe_int (nomark _))))) (pss_cons (ps_set (i := 5) sc__law_moved.nd rfl (Or.inl rfl) (pe_ifExp (pt_cmpR op_lt (pv 3) (pe_op op_mul pe_int (pe_ix ix_seq (pv 1) pe_int (fun _ _ => rfl))) (nomark _)) pe_int (pe_un un_neg pe_int)))
      (pss_cons (ps_set (i := 6) sc__law_moved.nd rfl (Or.inl rfl) (pe_or (pe_cmpR op_eq (pv 5) pe_int (nomark _)) (pe_or (pe_cmpR (op_eqD hr.units) (pv 2) (pe_lst pa_nil) (nomark _)) (pe_one (pe_cmpR op_lt (pe_ix ix_seq (pv 2) (pe_un un_neg pe_int) (fun _ _ => rfl)) (pe_op op_sub (pe_op op_add (pe_op op_mulW (pe_op op_mul pe_int (pe_callB call_len_seq (by rfl) B.len (by decide +kernel) (pa_cons (pv 2) pa_nil))) (pe_ix ix_seq (pv 1) pe_int (fun _ _ => rfl))) (pv 3)) pe_int) (nomark _))))))
      (pss_one (ps_ret (pe_tup (pa_cons (pe_op op_mul pe_int (pe_ix ix_seq (pv 1) pe_int (fun _ _ => rfl))) (pa_cons (pe_ifExp (pt_truth (pv 6) (by intro _; rfl)) (pv 2) (pe_lst pa_nil)) (pa_cons (pe_op op_add (pv 3) (pv 5)) pa_nil)))))))) pss_nil)
      (pss_cons (ps_set (i := 7) sc__law_moved.nd rfl (Or.inl rfl) (pe_c C__law_draw hr (by decide) (by rfl) (pa_cons (pv 0) (pa_cons (pe_callB call_len_seq (by rfl) B.len (by decide +kernel) (pa_cons (pv 2) pa_nil)) pa_nil))))
      (pss_cons (ps_asg (pe_ifExp (PW.pt (pw_or (pt_cmpR op_eq (pe_ix ix_seq (pv 2) (pv 7) (fun _ _ => rfl)) pe_int (nomark _)) (pw_or1 (pt_cmpR op_eq (pe_c C__law_draw hr (by decide) (by rfl) (pa_cons (pv 0) (pa_cons pe_int pa_nil))) pe_int (nomark _))))) (pe_op op_add (pe_ix ix_seq (pv 2) (pv 7) (fun _ _ => rfl)) pe_int) (pe_op op_sub (pe_ix ix_seq (pv 2) (pv 7) (fun _ _ => rfl)) pe_int)) (pg_sub (pv 2) (pv 7) set_list))
      (pss_one (ps_ret (pe_tup (pa_cons (pe_op op_mul pe_int (pe_ix ix_seq (pv 1) pe_int (fun _ _ => rfl))) (pa_cons (pv 2) (pa_cons (pv 3) pa_nil)))))))))), ?_⟩
    have b0 := ir.b0
    have s0 := ir.s0
    have s1 := ir.s1
    have v8 := ir.len
    have tl : (twice ms).length = ms.length := twice_len
    refine ⟨_, rfl, rd_tup hv (by decide) rfl fun u2 hu2 => ?_⟩
    obtain ⟨pl2, ys2, rfl, sq2, all2⟩ := is_lst hu2
    have yl2 : ys2.length = ms.length := by rw [all2.len, List.length_map]
    refine ⟨pl2, rfl, ⟨_, sqL_full sq2⟩, fun D nD => ?_⟩
    have nDa : D ≠ a := fun z => tk.ne (by rw [← z]; exact nD)
    have nDA : D ∉ A0 := hA.out nD
    refine lc_list (K := K) (a := pl2) (xs := ys2) (fun i H4 => Same H H4 ∧ H4 D = some (.lst ((twice (ms.take i)).map V.int))) ⟨same_new nD, upd_same⟩ (fun i H4 _ ⟨s4, _⟩ => s4.seq (sqL_full sq2)) ?_ ?_
    · rintro i y H4 hi ⟨s4, eD⟩
      obtain ⟨d, hd', hy⟩ := iss_get' all2 hi
      obtain ⟨m, hm', rfl⟩ := some_map hd'
      obtain rfl := is_int hy
      refine ⟨rfl, _, rfl, _, _, rfl, rfl, .inl ⟨by decide, by decide⟩, _, eD, ?_, fun b' o e => ?_, ?_⟩
      · unfold twice
        rw [List.length_map, List.length_map, List.length_take]
        exact small1000 (by omega)
      · rw [upd_ne (ne_of_none e nD)]
        exact s4 _ _ e
      · rw [upd_same, List.take_add_one, hm']
        unfold twice
        rw [List.map_append, List.map_append]
        rfl
    rintro H4 ⟨s4, eD⟩
    rw [yl2, List.take_length] at eD
    have g4 : Go A0 H H4 := Go.of s4
    have hA4 := g4.held hA
    have tk4 := tk.keep s4
    refine ⟨_, rfl, rd_int (Is.mono g4 hv) (by decide) rfl ?_⟩
    refine ⟨_, _, rfl, rfl, .inl ⟨by decide, by decide⟩, _, _, rfl, ?_⟩
    -- marks == [] or a draw
    dsimp only [tSeq, tIfS, tNext]
    refine viaT (t := tOr _ _) (fun c' H' => Go A0 H4 H' ∧ PoolAt H' a ∧ H' D = some (.lst ((twice ms).map V.int)) ∧ (c' = false → twice ms ≠ [])) (fun Q' k' => ?_) ?_
    · refine ⟨_, rfl, by show 0 ≤ sizeLine; decide, fun p0 np0 => ?_⟩
      have sp0 : Same H4 (upd H4 p0 (.lst [])) := same_new np0
      have dL : LW.D K (upd H4 p0 (.lst [])) (.ref D) (.list ((twice ms).map PyData.int)) := .lst' (.inl (.inl (sp0 _ _ eD))) (DAll.same (hv_le (A := [])) (iss_ints _))
      have dE : LW.D K (upd H4 p0 (.lst [])) (.ref p0) (.list (([] : List Int).map PyData.int)) := .lst' (.inl (.inl upd_same)) DAll.nil
      refine ⟨_, _, dL.dp (noDictI _), dE.dp (noDictI _), shapedI _, shapedI [], _, rfl, ite2 (fun _ => ?_) (fun e => ?_)⟩
      · exact k' _ _ ⟨Go.of sp0, tk4.keep sp0, sp0 _ _ eD, fun z => nomatch z⟩
      · have ne : twice ms ≠ [] := fun y => by
          rw [y] at e
          exact e rfl
        refine ⟨_, rfl, a, 4, rfl, tk4.keep sp0, by decide, by decide, fun r H5 r0 r1 go5 tk5 => ⟨rfl, _, rfl, k' _ _ ⟨(Go.of sp0).trans (go5 A0 aA), tk5, (go5 [a] (by simp)).keep D _ (by simpa using nDa) (sp0 _ _ eD), fun _ => ne⟩⟩⟩
    rintro c1 H5 ⟨g45, tk5, eD5, hne⟩
    have g5 : Go A0 H H5 := g4.trans g45
    have hA5 := g5.held hA
    have hv5 := Is.mono g5 hv
    have SL5 : SqL K H5 D ((twice ms).map V.int) := .inl (.inl eD5)
    refine ite2 (fun e1 => ?_) (fun e1 => ?_)
    · -- another offset
      refine via (t := tIf _ _ _) (fun z H' => H' = H5 ∧ ∃ e : Int, z = .int e ∧ ((e = 1 ∧ 2 * s < 2 * b) ∨ (e = -1 ∧ s = b))) (fun Q' k' => ?_) ?_
      · refine ⟨_, rfl, _, rfl, rd_int hv5 (by decide) rfl ?_⟩
        refine ⟨_, _, rfl, rfl, .inl ⟨by decide, by decide⟩, _, _, rfl, rfl, _, rfl, ite2 (fun e => ?_) (fun e => ?_)⟩
        · exact k' _ _ ⟨rfl, 1, rfl, .inl ⟨rfl, of_decide_eq_true e⟩⟩
        · have e' : ¬ 2 * s < 2 * b := fun z => e (decide_eq_true z)
          exact ⟨_, rfl, k' _ _ ⟨rfl, -1, rfl, .inr ⟨rfl, by omega⟩⟩⟩
      rintro z H6 ⟨rfl, e, rfl, he⟩
      dsimp only [tSeq, tIfS, tNext]
      have irT : IR (2 * b) (twice ms) (2 * s + e) := ir.offe bb he
      have irN : IR (2 * b) [] (2 * s + e) := IR.bare irT.b0 irT.b1 irT.s0 irT.s1
      have he0 : e ≠ 0 := by rcases he with ⟨z, -⟩ | ⟨z, -⟩ <;> omega
      refine via (t := tOrV _ _) (fun z H' => ∃ c, z = .bl c ∧ Go A0 H6 H' ∧ PoolAt H' a ∧ H' D = some (.lst ((twice ms).map V.int))) (fun Q' k' => ?_) ?_
      · refine ⟨_, rfl, rfl, _, rfl, ite2 (fun _ => ?_) (fun _ => ?_)⟩
        · exact k' _ _ ⟨_, rfl, Go.of (Same.refl _), tk5, eD5⟩
        · refine ⟨_, rfl, by show 0 ≤ sizeLine; decide, fun p0 np0 => ?_⟩
          have sp0 : Same H6 (upd H6 p0 (.lst [])) := same_new np0
          have dL : LW.D K (upd H6 p0 (.lst [])) (.ref D) (.list ((twice ms).map PyData.int)) := .lst' (.inl (.inl (sp0 _ _ eD5))) (DAll.same (hv_le (A := [])) (iss_ints _))
          have dE : LW.D K (upd H6 p0 (.lst [])) (.ref p0) (.list (([] : List Int).map PyData.int)) := .lst' (.inl (.inl upd_same)) DAll.nil
          refine ⟨_, _, dL.dp (noDictI _), dE.dp (noDictI _), shapedI _, shapedI [], _, rfl, ite2 (fun _ => ?_) (fun e2 => ?_)⟩
          · exact k' _ _ ⟨_, rfl, Go.of sp0, tk5.keep sp0, sp0 _ _ eD5⟩
          · have ne : 0 < ((twice ms).map V.int).length := by
              rcases hq : twice ms with _ | ⟨x, xs⟩
              · rw [hq] at e2
                exact absurd rfl e2
              · simp
            obtain ⟨x, hx⟩ : ∃ x, ((twice ms).map V.int)[((twice ms).map V.int).length - 1]? = some (V.int x) := by
              rw [List.length_map] at ne
              exact ⟨_, by rw [List.getElem?_map, List.length_map, List.getElem?_eq_getElem (by omega)]; rfl⟩
            refine ⟨_, rfl, _, rfl, .inl ⟨D, _, -1, _, rfl, rfl, .inl (.inl (sp0 _ _ eD5)), atI_neg (k := 1) (by decide) (by omega) hx, ?_⟩⟩
            refine ⟨_, rfl, D, _, rfl, .inl (.inl (.inl (sp0 _ _ eD5))), ?_⟩
            rw [List.length_map, tl]
            refine ⟨_, _, rfl, rfl, .inl ⟨by decide, by decide⟩, ?_⟩
            refine ⟨_, rfl, rd_int (Is.mono (Go.of sp0) hv5) (by decide) rfl ?_⟩
            refine ⟨_, _, rfl, rfl, wide_mul (a := 20) (b := 80) (by omega) (by omega) (by decide) (by decide) (by decide), ?_⟩
            exact ⟨_, rfl, _, _, rfl, rfl, _, _, rfl, rfl, _, _, rfl, rfl, k' _ _ ⟨_, rfl, Go.of sp0, tk5.keep sp0, sp0 _ _ eD5⟩⟩
      rintro z H7 ⟨kept, rfl, g7, tk7, eD7⟩
      have hv7 := Is.mono g7 hv5
      have hA7 := g7.held hA5
      have g07 : Go A0 H H7 := g5.trans g7
      refine ⟨_, rfl, rd_int hv7 (by decide) rfl ?_⟩
      refine ⟨_, _, rfl, rfl, .inl ⟨by decide, by decide⟩, ?_⟩
      refine ⟨_, rfl, _, rfl, ite2 (fun ek => ?_) (fun ek => ?_)⟩
      · refine ⟨_, rfl, _, rfl, _, rfl, _, _, rfl, rfl, ?_⟩
        refine ⟨by show 3 ≤ sizeLine; decide, fun q nq => ?_⟩
        have g8 : Go A0 H7 (upd H7 q (.tup [.int (2 * b), .ref D, .int (2 * s + e)])) := Go.of (same_new nq)
        refine k _ _ _ _ _ (g07.trans g8) (tk7.keep (same_new nq)) ?_ irT (unl_offs ir irT he0)
        exact is_new_tup hA7 nq (DAll.cons (.int _) (DAll.cons (.lst' (.inl (.inl (by rw [hv_out nDA]; exact eD7))) (iss_ints _)) (DAll.cons (.int _) DAll.nil)))
      · refine ⟨by show 0 ≤ sizeLine; decide, fun p0 np0 => ?_⟩
        have sp0 : Same H7 (upd H7 p0 (.lst [])) := same_new np0
        refine ⟨_, rfl, _, rfl, _, _,
              rfl, rfl, ?_⟩
        refine ⟨by show 3 ≤ sizeLine; decide, fun q nq => ?_⟩
        have s8 := sp0.trans (same_new (o := .tup [.int (2 * b), .ref p0, .int (2 * s + e)]) nq)
        refine k _ _ _ _ _ (g07.trans (Go.of s8)) (tk7.keep s8) ?_ irN (unl_offs ir irN he0)
        exact is_new_tup (hd_new hA7 np0) nq (DAll.cons (.int _) (DAll.cons (.lst' (xs := []) (.inl (.inl (by rw [hv_out (hA7.out np0)]; exact upd_same))) DAll.nil) (DAll.cons (.int _) DAll.nil)))
    · have ne : twice ms ≠ [] := hne (by simpa using e1)
      have npos : 0 < ms.length := by
        rcases hq : ms with _ | ⟨x, xs⟩
        · rw [hq] at ne
          exact absurd rfl ne
        · simp
      refine ⟨_, rfl, _, rfl, D, _, rfl, .inl SL5, ?_⟩
      rw [List.length_map, tl]
      refine ⟨a, ((ms.length : Nat) : Int), rfl, tk5, by omega, by omega, fun r H6 r0 r1 go6 tk6 => ?_⟩
      have eD6 : H6 D = some (.lst ((twice ms).map V.int)) := (go6 [a] (by simp)).keep D _ (by simpa using nDa) eD5
      have g6 : Go A0 H H6 := g5.trans (go6 A0 aA)
      have hA6 := g6.held hA
      obtain ⟨x, hx⟩ : ∃ x, ms[r.toNat]? = some x := ⟨_, List.getElem?_eq_getElem (by omega)⟩
      have ht : (twice ms)[r.toNat]? = some (2 * x) := by
        unfold twice
        rw [List.getElem?_map, hx]
        rfl
      have ht' : ((twice ms).map V.int)[r.toNat]? = some (V.int (2 * x)) := by
        rw [List.getElem?_map, ht]
        rfl
      have x0 : 0 ≤ x := ir.nn x (List.mem_of_getElem? hx)
      dsimp only [tSeq, tIfS, tNext, tAsg, gName]
      refine via (t := tIf _ _ _) (fun z H' => ∃ e : Int, z = .int (2 * x + e) ∧ (e = 1 ∨ (e = -1 ∧ x ≠ 0)) ∧ Go A0 H6 H' ∧ PoolAt H' a ∧ H' D = some (.lst ((twice ms).map V.int))) (fun Q' k' => ?_) ?_
      · refine viaT (t := tOr _ _) (fun c' H' => Go A0 H6 H' ∧ PoolAt H' a ∧ H' D = some (.lst ((twice ms).map V.int)) ∧ (c' = false → x ≠ 0)) (fun Q2 k2 => ?_) ?_
        · refine ⟨_, rfl, _, rfl, .inl ⟨D, _, r, _, rfl, rfl, .inl (.inl eD6), atI_of r0 ht', rfl, _, rfl, ite2 (fun ex => ?_) (fun ex => ?_)⟩⟩
          · exact k2 _ _ ⟨Go.of (Same.refl _), tk6, eD6, fun z => nomatch z⟩
          · have xn : x ≠ 0 := fun z => ex (by rw [z]; rfl)
            exact ⟨_, rfl, a, 2, rfl, tk6, by decide, by decide, fun r2 H7 _ _ go7 tk7 => ⟨rfl, _, rfl, k2 _ _ ⟨go7 A0 aA, tk7, (go7 [a] (by simp)).keep D _ (by simpa using nDa) eD6, fun _ => xn⟩⟩⟩
        · rintro c' H7 ⟨g7, tk7, eD7, hc⟩
          cases c'
          · exact ⟨_, rfl, _, rfl, .inl ⟨D, _, r, _, rfl, rfl, .inl (.inl eD7), atI_of r0 ht', _, _, rfl, rfl, k' _ _ ⟨-1, rfl, .inr ⟨rfl, hc rfl⟩, g7, tk7, eD7⟩⟩⟩
          · exact ⟨_, rfl, _, rfl, .inl ⟨D, _, r, _, rfl, rfl, .inl (.inl eD7), atI_of r0 ht', _, _, rfl, rfl, k' _ _ ⟨1, rfl, .inl rfl, g7, tk7, eD7⟩⟩⟩
      rintro z H7 ⟨e, rfl, he, g7, tk7, eD7⟩
      have g07 : Go A0 H H7 := g6.trans g7
      refine ⟨_, rfl, _, rfl, D, _, _, r.toNat, rfl, rfl, eD7, ?_, ?_⟩
      · exact ix_nn r0 (by rw [List.length_map, tl]; omega)
      have eQ : ((twice ms).map V.int).set r.toNat (V.int (2 * x + e)) = ((twice ms).set r.toNat (2 * x + e)).map V.int := by
        rw [List.map_set]
      rw [eQ]
      have eD8 : (upd H7 D (.lst (((twice ms).set r.toNat (2 * x + e)).map V.int))) D = some (.lst (((twice ms).set r.toNat (2 * x + e)).map V.int)) := upd_same
      have g8 : Go A0 H (upd H7 D (.lst (((twice ms).set r.toNat (2 * x + e)).map V.int))) := Go.own nD g07
      have hA8 := g8.held hA
      have hv8 := Is.mono g8 hv
      have tk8 : PoolAt (upd H7 D (.lst (((twice ms).set r.toNat (2 * x + e)).map V.int))) a := tk7.own (fun z => nDa z.symm)
      dsimp only [tSeq, tIfS, tNext, tAsg, gName, tRet]
      refine ⟨_, rfl, rd_int hv8 (by decide) rfl ?_⟩
      refine ⟨_, _, rfl, rfl, .inl ⟨by decide, by decide⟩, ?_⟩
      refine ⟨_, rfl, _, rfl, ?_⟩
      refine ⟨by show 3 ≤ sizeLine; decide, fun q nq => ?_⟩
      refine k _ _ _ _ _ (g8.trans (Go.new nq)) (tk8.keep (same_new nq)) ?_ (ir.nudge bb hx he) (unl_nudge ir hx (by omega))
      exact is_new_tup hA8 nq (DAll.cons (.int _) (DAll.cons (.lst' (.inl (.inl (by rw [hv_out nDA]; exact eD8))) (iss_ints _)) (DAll.cons (.int _) DAll.nil)))
end

end LW

set_option Elab.async false
set_option linter.all false
set_option maxRecDepth 100000
set_option maxHeartbeats 4000100
set_option exponentiation.threshold 9000

namespace LW
open L2 PySem.Spec PyProof.Rows PySem
abbrev s__law_same : Stmt := topS 61
theorem sc__law_same : FnScope ["_law_one", "_law_two", "_law_many", "_law_told"] ["_law_one", "_law_two", "_law_many"] (defScope s__law_same) := ⟨rfl, rfl, rfl, by decide +kernel, rfl, by decide +kernel, by decide +kernel⟩
abbrev s__law_unlike : Stmt := topS 62
theorem sc__law_unlike : FnScope ["_law_one", "_law_two", "_law_told", "_law_each"] ["_law_one", "_law_two"] (defScope s__law_unlike) := ⟨rfl, rfl, rfl, by decide +kernel, rfl, by decide +kernel, by decide +kernel⟩
local macro_rules | `(tactic| walk_at "len") => `(tactic| skip)
/-! ### the same rules: the four answers agree -/
theorem difL {X : Option Dif} (h : ∀ n p q x y, X = some (n, (p, q), (x, y)) → n < 1000 ∧ x < 1000 ∧ y < 1000 ∧ OkM p ∧ OkM q) : (diffD X).showable = true ∧ (diffD X).hasDict = false ∧ (diffD X).depth ≤ 60 ∧ (diffD X).shown.length ≤ sizeLine := by
  match X, h with
  | none, _ =>
    refine ⟨by simp [diffD, PyData.showable], by simp [diffD, PyData.hasDict], by simp [diffD, PyData.depth], ?_⟩
    have e : (PyData.none).shown = ("None" : Str) := by simp [PyData.shown]
    show (PyData.none).shown.length ≤ _
    rw [e, sizeLine_eq]
    decide +kernel
  | some (n, (p, q), (x, y)), h =>
    obtain ⟨h1, h2, h3, hp, hq⟩ := h n p q x y rfl
    obtain ⟨a1, b1⟩ := okInt (i := (n : Nat)) (by omega) (by omega)
    obtain ⟨a2, b2⟩ := okInt (i := (x : Nat)) (by omega) (by omega)
    obtain ⟨a3, b3⟩ := okInt (i := (y : Nat)) (by omega) (by omega)
    obtain ⟨a4, b4⟩ := okInt hp.a hp.a2
    obtain ⟨a5, b5⟩ := okInt (Int.le_of_lt hp.b) hp.b2
    obtain ⟨a6, b6⟩ := okInt hq.a hq.a2
    obtain ⟨a7, b7⟩ := okInt (Int.le_of_lt hq.b) hq.b2
    refine ⟨?_, ?_, ?_, ?_⟩
    · simp only [diffD, encQ, PyData.showable, PyData.showableAll] at *
      simp only [a1, a2, a3, a4, a5, a6, a7, Bool.and_self]
    · simp [diffD, encQ, PyData.hasDict, PyData.hasDictAll]
    · simp [diffD, encQ, PyData.depth, PyData.depthAll]
    · have hl : (diffD (some (n, (p, q), (x, y)))).leavesShort 100 = true := by
        simp only [diffD, encQ, PyData.leavesShort, PyData.leavesShortAll] at *
        simp only [b1, b2, b3, b4, b5, b6, b7, Bool.and_self]
      refine Nat.le_trans (PyData.shown_le 100 (by decide) _ hl) ?_
      rw [sizeLine_eq]
      have w1 := wInt (i := (n : Nat)) (by omega) (by omega)
      have w2 := wInt (i := (x : Nat)) (by omega) (by omega)
      have w3 := wInt (i := (y : Nat)) (by omega) (by omega)
      have w4 := wInt hp.a hp.a2
      have w5 := wInt (Int.le_of_lt hp.b) hp.b2
      have w6 := wInt hq.a hq.a2
      have w7 := wInt (Int.le_of_lt hq.b) hq.b2
      simp only [diffD, encQ, w_tup, w_cons, w_nil]
      omega
theorem kindF {K : PySem.W.Frag} {H : Hp} {v : V} : ∀ {X : Option Dif}, LW.D K H v (diffD X) → diffD X = .none ∨ ∃ a, v = .ref a
  | none, _ => .inl rfl
  | some (n, (p, q), (x, y)), h => by
    have h' : LW.D K H v (.tuple [.int (n : Nat), .tuple [encQ p, encQ q], .tuple [.int (x : Nat), .int (y : Nat)]]) := h
    obtain ⟨a, _, e, _⟩ := h'.tuple
    exact .inr ⟨a, e⟩
theorem pick_ok {o o2 : Int × Int} {hd hd2 : List (Int × Int)} (vr : VR o hd) (vr2 : VR o2 hd2) {n p q x y} (h : fdiff (MQ o hd) (MQ o2 hd2) = some (n, (p, q), (x, y))) : n < 1000 ∧ x < 1000 ∧ y < 1000 ∧ OkM p ∧ OkM q := by
  unfold fdiff at h
  split at h
  · cases h
    refine ⟨by decide, by decide, by decide, ⟨by decide, by decide, by decide, by decide, by decide⟩, ⟨by decide, by decide, by decide, by decide, by decide⟩⟩
  · obtain ⟨i, hi, h1⟩ := find_mem h
    have hi' := List.mem_range.mp
          hi
    unfold diffN at h1
    obtain ⟨j, hj, h2⟩ := find_mem h1
    have hj' := List.mem_range.mp
          hj
    unfold pickD at h2
    split at h2
    · cases h2
      exact ⟨by omega, by omega, by omega, vr2.mark (by omega) (by omega), vr2.mark (by omega) (by omega)⟩
    · split at h2
      · cases h2
        exact ⟨by omega, by omega, by omega, vr.mark (by omega) (by omega), vr.mark (by omega) (by omega)⟩
      · cases h2
theorem optN_none {K : PySem.W.Frag} {H : Hp} {v : V} : ∀ {x : Option Nat}, LW.D K H v (optN x) → decide (v = V.non) = x.isNone
  | none, h => by rw [h.none_eq]; rfl
  | some n, h => by
    have h' : LW.D K H v (.int (n : Nat)) := h
    rw [h'.int_eq]; rfl

section
variable {P : Program} {w : World} {K : PySem.W.Frag} {mg : Str → Option Value} {base : Heap} {c : Addr}
/-- two rules with the same marks and the same offset -/
structure Ali (b : Int) (ms : List Int) (s : Int) (c : Int) (ns : List Int) (t : Int) : Prop where
  r : IR b ms s
  r2 : IR c ns t
  o : lowQ s b = lowQ t c
  m : ∀ k : Nat, markQ (lowQ s b) (lowL b ms) ((k : Nat) : Int) = markQ (lowQ t c) (lowL c ns) ((k : Nat) : Int)
theorem Ali.swap {b s c t : Int} {ms ns : List Int} (h : Ali b ms s c ns t) : Ali c ns t b ms s := ⟨h.r2, h.r, h.o.symm, fun k => (h.m k).symm⟩
theorem Ali.refl {b s : Int} {ms : List Int} (r : IR b ms s) : Ali b ms s b ms s := ⟨r, r, rfl, fun _ => rfl⟩
theorem Ali.M {b s c t : Int} {ms ns : List Int} (h : Ali b ms s c ns t) : MQ (lowQ s b) (lowL b ms) = MQ (lowQ t c) (lowL c ns) := funext h.m
theorem Ali.fd {b s c t : Int} {ms ns : List Int} (h : Ali b ms s c ns t) : fdiff (MQ (lowQ s b) (lowL b ms)) (MQ (lowQ t c) (lowL c ns)) = none := by
  rw [← h.M, fdiff_self]
theorem Ali.ld {b s c t : Int} {ms ns : List Int} (h : Ali b ms s c ns t) (n : Nat) : (if n < 2 then (0 : Int) else leadF (bordersF (MQ (lowQ s b) (lowL b ms)) n) (bordersF (MQ (lowQ t c) (lowL c ns)) n)) = 0 := by
  rw [← h.M]
  split
  · rfl
  · exact lead_self h.r n
theorem Ali.uk {b s c t : Int} {ms ns : List Int} {x : Option (Nat × Nat)} (h : Ali b ms s c ns t) (f : IsFirst (unk (lowQ s b) (lowL b ms) (lowQ t c) (lowL c ns)) 10 x) : x = none := by
  have e : unk (lowQ s b) (lowL b ms) (lowQ t c) (lowL c ns) = unk (lowQ s b) (lowL b ms) (lowQ s b) (lowL b ms) := by
    funext k l
    unfold unk
    rw [h.m k, h.m l]
  rw [e] at f
  exact unk_self f
theorem Ali.eq {b s c t : Int} {ms ns : List Int} (h : Ali b ms s c ns t) : (decide (lowQ s b = lowQ t c) && decide (startQ (lowQ s b) (lowL b ms) = startQ (lowQ t c) (lowL c ns))) = true := by
  have e : startQ (lowQ s b) (lowL b ms) = startQ (lowQ t c) (lowL c ns) := by
    unfold startQ
    exact List.map_congr_left fun k _ => h.m k
  rw [decide_eq_true h.o, decide_eq_true e]
  rfl
theorem toldOk : (PyData.list [.none, .bool true, .none, .int 0]).showable = true ∧ (PyData.list [.none, .bool true, .none, .int 0]).hasDict = false ∧ (PyData.list [.none, .bool true, .none, .int 0]).depth ≤ 60 ∧ (PyData.list [.none, .bool true, .none, .int 0]).shown.length ≤ sizeLine := by
  obtain ⟨a1, b1⟩ := okInt (i := 0) (by decide) (by decide)
  refine ⟨?_, ?_, ?_, ?_⟩
  · simp only [PyData.showable, PyData.showableAll] at *
    simp only [a1, Bool.and_self]
  · simp [PyData.hasDict, PyData.hasDictAll]
  · simp [PyData.depth, PyData.depthAll]
  · have hl : (PyData.list [.none, .bool true, .none, .int 0]).leavesShort 100 = true := by
      simp only [PyData.leavesShort, PyData.leavesShortAll] at *
      simp only [b1, Bool.and_self]
    refine Nat.le_trans (PyData.shown_le 100 (by decide) _ hl) ?_
    rw [sizeLine_eq]
    decide +kernel
def sp__law_same (K : PySem.W.Frag) (c : Addr) : Sp := fun vs H Q _ => ∃ (r r2 : Addr) (A : List Addr) (b s b2 s2 : Int) (ms ms2 : List Int) (n : Nat), vs = [.ref r, .ref r2, .int (n : Nat)] ∧
  RuleAt K c A H r (lowQ s b) (lowL b ms) ∧ RuleAt K c A H r2 (lowQ s2 b2) (lowL b2 ms2) ∧ Ali b ms s b2 ms2 s2 ∧ Hd A H ∧ n ≤ 200 ∧
  ∀ H', Same H H' → Q (.bl true) H'
theorem calG__law_same (B : Bl mg) (DD : OwnDef K mg "_law_same" s__law_same) (C_first_difference : Cal P w K mg base 6 "first_difference" (sp_first_difference K c) []) (C_same_divisions : Cal P w K mg base 7 "same_divisions" (sp_same_divisions K c) []) (C_first_unkind : Cal P w K mg base 5 "first_unkind" (sp_first_unkind K c) []) (C_most_apart : Cal P w K mg base 6 "most_apart" (sp_most_apart K c) []) (OE : OwnEqs P w K mg base 1 c (sp_Rule_eq K c)) :
    CalG P w K mg base 16 "_law_same" (sp__law_same K c) [] := by
  obtain ⟨f, fd, F, hm⟩ := DD.ex
  refine ⟨f, fd, ["_law_one", "_law_two", "_law_many"], [], Fun_okG F sc__law_same (fun vs H Q E h => ?_) (fun cdv A outer s H vs Q E hr quiet h => ?_), hm, F.kp, F.binds (fun _ _ _ _ _ _ us hl => match us, hl with | [_, _, _], _ => rfl), .nil⟩
  · obtain ⟨_, _, _, _, _, _, _, _, _, _, rfl, _⟩ := h; rfl
  · obtain ⟨r, r2, A0, b, s, b2, s2, ms, ms2, n, rfl, R1, R2, al, hA, hn, k⟩ := h
    refine ⟨_, (pss_cons (ps_set (i := 3) sc__law_same.nd rfl (Or.inl rfl) (pe_lst (pa_cons (pe_c C_first_difference hr (by decide) (by rfl) (pa_cons (pv 0) (pa_cons (pv 1) pa_nil))) (pa_cons (pe_c C_same_divisions hr (by decide) (by rfl) (pa_cons (pv 0) (pa_cons (pv 1) pa_nil))) (pa_cons (pe_c C_first_unkind hr (by decide) (by rfl) (pa_cons (pv 0) (pa_cons (pv 1) pa_nil))) (pa_cons (pe_c C_most_apart hr (by decide) (by rfl) (pa_cons (pv 0) (pa_cons (pv 1) (pa_cons (pv 2) pa_nil)))) pa_nil))))))
      (pss_one (ps_ret (pe_and (pe_cmpR op_eq (pe_callB (call_reprN quiet hr) (by rfl) B.repr (by decide +kernel) (pa_cons (pv 3) pa_nil)) (pe_callB (call_reprN quiet hr) (by rfl) B.repr (by decide +kernel) (pa_cons (pe_lst (pa_cons pe_non (pa_cons pe_bl (pa_cons pe_non (pa_cons pe_int pa_nil))))) pa_nil)) (nomark _)) (pe_and (pe_cmpR (op_eqO OE hr (by decide)) (pv 0) (pv 1) (nomark _)) (pe_one (pe_not (pe_cmpR (op_neO OE hr (by decide)) (pv 0) (pv 1) (nomark _))))))))), ?_⟩
    have V1 := al.r.vr
    have V2 := al.r2.vr
    refine ⟨_, rfl, _, rfl, r, r2, A0, _, _, _, _, rfl, R1, V1, R2, V2, hA, fun v1 H1 s1 h1 => ?_⟩
    rw [al.fd] at h1
    obtain rfl := is_non h1
    have hA1 := (Go.of (A := A0) s1).held hA
    refine ⟨_, rfl, _, rfl, r, r2, A0, _, _, _, _, rfl, R1.same s1, V1, R2.same s1, V2, hA1, fun H2 s2' => ?_⟩
    rw [al.fd]
    have s12 := s1.trans s2'
    have hA2 := (Go.of (A := A0) s12).held hA
    refine ⟨_, rfl, _, rfl, r, r2, A0, _, _, _, _, rfl, R1.same s12, V1, R2.same s12, V2, hA2, fun v3 H3 x s3 f3 h3 => ?_⟩
    obtain rfl := al.uk f3
    obtain rfl := is_non h3
    have s13 := s12.trans s3
    have hA3 := (Go.of (A := A0) s13).held hA
    refine ⟨_, rfl, _, rfl, _, rfl, r, r2, A0, _, _, _, _, n, rfl, R1.same s13, V1, R2.same s13, V2, hA3, hn, fun H4 s4 => ?_⟩
    rw [al.ld n]
    have s14 := s13.trans s4
    refine ⟨by show 4 ≤ sizeLine; decide, fun p5 n5 => ?_⟩
    obtain ⟨z1, z2, z3, z4⟩ := toldOk
    have dB : ∀ {H : Hp} {p : Addr}, H p = some (.lst [.non, .bl true, .non, .int 0]) → LW.D K H (.ref p) (.list [.none, .bool true, .none, .int 0]) := fun e => .lst' (.inl (.inl e)) (DAll.cons .non (DAll.cons (.bl _) (DAll.cons .non (DAll.cons (.int _) DAll.nil))))
    refine ⟨_, rfl, .ref p5, _, rfl, dB upd_same, .inr ⟨_, rfl⟩, z1, z2, z3, z4, ?_⟩
    have s15 := s14.trans (same_new n5 (o := .lst [.non, .bl (Option.none (α := Dif)).isNone, .non, .int 0]))
    refine ⟨by show 4 ≤ sizeLine; decide, fun p6 n6 => ?_⟩
    refine ⟨.ref p6, _, rfl, dB upd_same, .inr ⟨_, rfl⟩, z1, z2, z3, z4, rfl, true, congrArg V.bl (decide_eq_true rfl), ?_⟩
    have s16 := s15.trans (same_new n6 (o := .lst [.non, .bl true, .non, .int 0]))
    have R16 := R1.same s16
    have R26 := R2.same s16
    obtain ⟨dx, v0, v1, v2, v3, e1, _⟩ := R16.ex
    obtain ⟨dx2, w0, w1, w2, w3, e2, _⟩ := R26.ex
    refine iteT' rfl ⟨_, rfl, _, rfl, r, r2, dx, dx2, _, _, rfl, rfl, e1, e2, r, r2, A0, _, _, _, _, rfl, R16, R26, true, congrArg V.bl al.eq, true, rfl, ?_⟩
    refine iteT' rfl ⟨_, rfl, _, rfl, r, r2, dx, dx2, _, _, rfl, rfl, e1, e2, r, r2, A0, _, _, _, _, rfl, R16, R26, true, congrArg V.bl al.eq, ?_⟩
    exact ⟨_, rfl, k _ s16⟩
end
/-! ### rules that differ -/
def rLenS (K : PySem.W.Frag) : List V → Hp → VK → Prop := fun xs H Q => ∃ p ys, xs = [V.ref p] ∧ (SqL K H p ys ∨ SqT K H p ys) ∧ Q (V.int ↑ys.length) H
section
variable {P : Program} {w : World} {K : PySem.W.Frag} {mg : Str → Option Value} {base : Heap} {c : Addr}
def sp__law_unlike (K : PySem.W.Frag) (c : Addr) : Sp := fun vs H Q _ => ∃ (r r2 : Addr) (A : List Addr) (b s b2 s2 : Int) (ms ms2 : List Int), vs = [.ref r, .ref r2] ∧
  RuleAt K c A H r (lowQ s b) (lowL b ms) ∧ RuleAt K c A H r2 (lowQ s2 b2) (lowL b2 ms2) ∧ IR b ms s ∧ IR b2 ms2 s2 ∧ Unl b ms s b2 ms2 s2 ∧ Hd A H ∧
  ∀ H', Same H H' → Q (.bl true) H'
theorem isNone_ne {α : Type} {x : Option α} (h : x ≠ none) : x.isNone = false := by
  cases x
  · exact absurd rfl h
  · rfl
theorem pairN {K : PySem.W.Frag} {A : List Addr} {H : Hp} {v : V} : ∀ {x : Option (Nat × Nat)}, Is K A H v (pairD2 x) → decide (v = V.non) = x.isNone
  | none, h => by rw [is_non h]; rfl
  | some (k, l), h => by
    have h' : Is K A H v (.tuple [.int (k : Nat), .int (l : Nat)]) := h
    obtain ⟨a, _, e, _⟩ := h'.full.tuple
    rw [e]
    rfl
theorem cal__law_unlike (B : Bl mg) (DD : OwnDef K mg "_law_unlike" s__law_unlike) (C_first_difference : Cal P w K mg base 6 "first_difference" (sp_first_difference K c) []) (C_same_divisions : Cal P w K mg base 7 "same_divisions" (sp_same_divisions K c) []) (C_first_unkind : Cal P w K mg base 5 "first_unkind" (sp_first_unkind K c) []) (OE : OwnEqs P w K mg base 1 c (sp_Rule_eq K c)) (CR_first_difference : CalR P w K mg base 6 "first_difference" ["other_rule", "rule"] (sp_first_difference K c)) : Cal P w K mg base 16 "_law_unlike" (sp__law_unlike K c) [] := by
  obtain ⟨f, fd, F, hm⟩ := DD.ex
  refine ⟨f, fd, ["_law_one", "_law_two"], [], F.ok sc__law_unlike (fun vs H Q E h => ?len) (fun cdv A outer s H vs Q E hr h => ?run), hm, F.kp, F.binds (fun _ _ _ _ _ _ us hl => match us, hl with | [_, _], _ => rfl), .nil⟩
  case len => first | (obtain ⟨_, rfl, _⟩ := h; rfl) | (obtain ⟨_, _, rfl, _⟩ := h; rfl) | (obtain ⟨_, _, _, rfl, _⟩ := h; rfl) | (obtain ⟨_, _, _, _, rfl, _⟩ := h; rfl) | (obtain ⟨_, _, _, _, _, rfl, _⟩ := h; rfl) | (obtain ⟨_, _, _, _, _, _, rfl, _⟩ := h; rfl) | (obtain ⟨_, _, _, _, _, _, _, rfl, _⟩ := h; rfl) | (obtain ⟨_, _, _, _, _, _, _, _, rfl, _⟩ := h; rfl) | (obtain ⟨_, _, _, _, _, _, _, _, _, rfl, _⟩ := h; rfl) | (obtain ⟨_, _, _, _, _, _, _, _, _, _, rfl, _⟩ := h; rfl) | (obtain ⟨_, _, _, _, _, _, _, _, _, _, _, rfl, _⟩ := h; rfl) | (obtain ⟨_, _, _, _, _, _, _, _, _, _, _, _, rfl, _⟩ := h; rfl) | (obtain ⟨_, _, _, _, _, _, _, _, _, _, _, _, _, rfl, _⟩ := h; rfl) | (obtain ⟨_, _, _, _, _, _, _, _, _, _, _, _, _, _, rfl, _⟩ := h; rfl)
  case run =>
    obtain ⟨r, r2, A0, b, s, b2, s2, ms, ms2, rfl, R1, R2, ir, ir2, un, hA, k⟩ := h
    refine ⟨_, (pss_cons (ps_if (PW.pt (pw_or (pt_cmpR (op_eqO OE hr (by decide)) (pv 0) (pv 1) (nomark _)) (pw_or (pt_not (pt_cmpR (op_neO OE hr (by decide)) (pv 0) (pv 1) (nomark _))) (pw_or (pt_cmpR op_isnot_bl (pe_c C_same_divisions hr (by decide) (by rfl) (pa_cons (pv 0) (pa_cons (pv 1) pa_nil))) pe_bl (nomark _)) (pw_or1 (pt_cmpR op_isnot_bl (pe_c C_same_divisions hr (by decide) (by rfl) (pa_cons (pv 1) (pa_cons (pv 0) pa_nil))) pe_bl (nomark _))))))) (pss_one (ps_ret pe_bl)) pss_nil)
      (pss_cons (ps_if (PW.pt (pw_and (pt_cmpR op_isN (pe_c C_first_unkind hr (by decide) (by rfl) (pa_cons (pv 0) (pa_cons (pv 1) pa_nil))) pe_non (nomark _)) (pw_and1 (pt_cmpR op_isN (pe_c C_first_unkind hr (by decide) (by rfl) (pa_cons (pv 1) (pa_cons (pv 0) pa_nil))) pe_non (nomark _))))) (pss_one (ps_ret pe_bl)) pss_nil)
      (pss_cons (ps_set (i := 2) sc__law_unlike.nd rfl (Or.inl rfl) (pe_lst (pa_cons (pe_c C_first_difference hr (by decide) (by rfl) (pa_cons (pv 0) (pa_cons (pv 1) pa_nil))) (pa_cons (pe_ckR CR_first_difference hr (by decide) (by rfl) (pk_cons (pv 0) (pk_cons (pv 1) pk_nil))) pa_nil))))
      (pss_cons (ps_if (pt_not (pt_val (pe_callB (cr_all rfl) (by rfl) B.all (by decide +kernel) (pa_cons (pe_lc (own := [("_law_each", 3)]) (by rfl) sc__law_unlike.nd (pi_list (pv 2)) (blkOk_by (own := [("_law_each", 3)]) (N := ["_law_one", "_law_two", "_law_told", "_law_each"]) (sc := defScope s__law_unlike) (by decide +kernel)) (fun _ _ _ _ _ => (pg_name (i := 3) sc__law_unlike.nd rfl (Or.inl rfl))) (fun _ _ _ _ _ => pts_nil) (fun _ _ _ _ _ => (pe_and (pe_callB (r := rIsi K) call_isi (by rfl) B.isinstance (by decide +kernel) (pa_cons (pv 3) (pa_cons (pe_bltn (v := .ty "tuple") (by rfl) B.tuple (by decide +kernel) rfl) pa_nil))) (pe_one (pe_cmpR op_eq (pe_callB (r := rLenS K) call_len_seq (by rfl) B.len (by decide +kernel) (pa_cons (pv 3) pa_nil)) pe_int (nomark _)))))) pa_nil)))) (pss_one (ps_ret pe_bl)) pss_nil)
      (pss_one (ps_ret (pe_cmpR op_eq (pe_callB SkE.call_repr_int (by rfl) B.repr (by decide +kernel) (pa_cons (pe_ix ix_seq (pe_ix ix_seq (pv 2) pe_int (fun _ _ => rfl)) pe_int (fun _ _ => rfl)) pa_nil)) (pe_callB SkE.call_repr_int (by rfl) B.repr (by decide +kernel) (pa_cons (pe_ix ix_seq (pe_ix ix_seq (pv 2) pe_int (fun _ _ => rfl)) pe_int (fun _ _ => rfl)) pa_nil)) (nomark _)))))))), ?_⟩
    have V1 := ir.vr
    have V2 := ir2.vr
    obtain ⟨dx, v0, v1, v2, v3, e1, _⟩ := R1.ex
    obtain ⟨dx2, w0, w1, w2, w3, e2, _⟩ := R2.ex
    have N1 := un.fdiff ir ir2
    have N2 := un.swap.fdiff ir2 ir
    have E1 := fdiff_due ir ir2
    have E2 : (fdiff (MQ (lowQ s2 b2) (lowL b2 ms2)) (MQ (lowQ s b) (lowL b ms))).map (·.1) = dueN (unlI b ms s b2 ms2 s2) := by rw [fdiff_due ir2 ir, unlI_swap]
    have kO := fun n p q x y h => pick_ok V1 V2 (n := n) (p := p) (q := q) (x := x) (y := y) h
    dsimp only [tSeq, tIfS, tNext]
    refine viaT (t := tOr _ _) (fun c' H' => Same H H' ∧ c' = false) (fun Q' k' => ?_) ?_
    · refine ⟨_, rfl, _, rfl, r, r2, dx, dx2, _, _, rfl, rfl, e1, e2, r, r2, A0, _, _, _, _, rfl, R1, R2, false, congrArg V.bl (un.eq ir ir2), false, rfl, ite2 (fun e => nomatch e) (fun _ => ?_)⟩
      refine ⟨_, rfl, _, rfl, r, r2, dx, dx2, _, _, rfl, rfl, e1, e2, r, r2, A0, _, _, _, _, rfl, R1, R2, false, congrArg V.bl (un.eq ir ir2), true, rfl, ite2 (fun e => nomatch e) (fun _ => ?_)⟩
      refine ⟨_, rfl, _, rfl, r, r2, A0, _, _, _, _, rfl, R1, V1, R2, V2, hA, fun H1 s1 => ⟨_, _, rfl, rfl, false, ?_, ite2 (fun e => nomatch e) (fun _ => ?_)⟩⟩
      · rw [isNone_ne N1]; rfl
      refine ⟨_, rfl, _, rfl, r2, r, A0, _, _, _, _, rfl, R2.same s1, V2, R1.same s1, V1, (Go.of (A := A0) s1).held hA, fun H2 s2' => ⟨_, _, rfl, rfl, false, ?_, k' _ _ ⟨s1.trans s2', rfl⟩⟩⟩
      rw [isNone_ne N2]; rfl
    rintro c1 H3 ⟨s3, rfl⟩
    refine ite2 (fun e => nomatch e) (fun _ => ?_)
    have hA3 := (Go.of (A := A0) s3).held hA
    have R13 := R1.same s3
    have R23 := R2.same s3
    refine viaT (t := tAnd _ _) (fun c' H' => Same H3 H' ∧ c' = false) (fun Q' k' => ?_) ?_
    · refine ⟨_, rfl, _, rfl, r, r2, A0, _, _, _, _, rfl, R13, V1, R23, V2, hA3, fun v4 H4 x4 s4 f4 h4 => ⟨rfl, _, rfl, ite2 (fun t4 => ?_) (fun _ => k' _ _ ⟨s4, rfl⟩)⟩⟩
      refine ⟨_, rfl, _, rfl, r2, r, A0, _, _, _, _, rfl, R23.same s4, V2, R13.same s4, V1, (Go.of (A := A0) s4).held hA3, fun v5 H5 x5 s5 f5 h5 => ⟨rfl, _, rfl, k' _ _ ⟨s4.trans s5, ?_⟩⟩⟩
      rw [pairN h4] at t4
      rw [pairN h5]
      match x4, x5, f4, f5, t4 with
      | none, none, f4, f5, _ => exact (un.unk ir ir2 f4 f5).elim
      | none, some _, _, _, _ => rfl
      | some _, _, _, _, t4 => cases t4
    rintro c1 H5 ⟨s5, rfl⟩
    refine ite2 (fun e => nomatch e) (fun _ => ?_)
    have s35 := s3.trans s5
    have hA5 := (Go.of (A := A0) s35).held hA
    have R15 := R1.same s35
    have R25 := R2.same s35
    refine ⟨_, rfl, _, rfl, r, r2, A0, _, _, _, _, rfl, R15, V1, R25, V2, hA5, fun v6 H6 s6 h6 => ?_⟩
    have hA6 := (Go.of (A := A0) s6).held hA5
    refine ⟨_, rfl, _, rfl, r2, r, A0, _, _, _, _, rfl, R25.same s6, V2, R15.same s6, V1, hA6, fun v7 H7 s7 h7 => ?_⟩
    have hA7 := (Go.of (A := A0) s7).held hA6
    refine ⟨by show 2 ≤ sizeLine; decide, fun l nl => ?_⟩
    have hT := is_new_lst hA7 nl (DAll.cons (Is.mono (Go.of s7) h6) (DAll.cons h7 DAll.nil))
    have s58 : Same H5 (upd H7 l (.lst [v6, v7])) := (s6.trans s7).trans (same_new nl)
    have e8 : (upd H7 l (.lst [v6, v7])) l = some (.lst [v6, v7]) := upd_same
    have s78 : Same H7 (upd H7 l (.lst [v6, v7])) := same_new nl
    have h68 := (Is.mono (Go.of (A := A0) (s7.trans s78)) h6).full
    have h78 := (Is.mono (Go.of (A := A0) s78) h7).full
    generalize (upd H7 l (.lst [v6, v7])) = H8 at hT s58 e8 h68 h78 ⊢
    obtain ⟨⟨n, ⟨p, q⟩, x, y⟩, D1⟩ := Option.ne_none_iff_exists'.mp N1
    obtain ⟨⟨n', ⟨p', q'⟩, x', y'⟩, D2⟩ := Option.ne_none_iff_exists'.mp N2
    have kn := kO n p q x y D1
    rw [D1] at hT E1 h68
    rw [D2] at hT E2 h78
    have en : n = n' := by
      rw [← E2] at E1
      exact Option.some.inj E1
    subst en
    dsimp only [gName, tSeq, tIfS, tNext, tNot, tB]
    have log : (((n : Nat) : Int)).natAbs.log2 < 1920 := log_small kn.1
    have dv : ∀ {H' : Hp} {v : V} {z : Nat} {p q : Int × Int} {x y : Nat}, LW.D K H' v (diffD (some (z, (p, q), (x, y)))) → ∃ a ys, v = .ref a ∧ SqT K H' a ys ∧ ys.length = 3 := fun {H' v z p q x y} h => by
      have h' : LW.D K H' v (.tuple [.int (z : Nat), .tuple [encQ p, encQ q], .tuple [.int (x : Nat), .int (y : Nat)]]) := h
      obtain ⟨a, ys, e, sq, al⟩ := h'.tuple
      exact ⟨a, ys, e, sq, al.len⟩
    refine ⟨_, rfl, l, rfl, ⟨_, .inl (.inl e8)⟩, fun d0 nD => ?_⟩
    refine lc_list (K := K) (a := l) (xs := [v6, v7]) (fun i H9 => Same H8 H9 ∧ H9 d0 = some (.lst ((List.replicate i true).map V.bl))) ⟨same_new nD, upd_same⟩ (fun i H9 _ ⟨s9, _⟩ => .inl (.inl (s9 _ _ e8))) ?_ ?_
    · rintro i v H9 hi ⟨s9, eD⟩
      have i2 : i < 2 := (List.getElem?_eq_some_iff.mp hi).1
      have hw : ∃ z p q x y, LW.D K H9 v (diffD (some (z, (p, q), (x, y)))) := by
        match i, hi with
        | 0, hi => cases hi; exact ⟨_, _, _, _, _, D.same s9 h68⟩
        | 1, hi => cases hi; exact ⟨_, _, _, _, _, D.same s9 h78⟩
      obtain ⟨z, p1, q1, x1, y1, hw⟩ := hw
      obtain ⟨b', ys, rfl, sq, l3⟩ := dv hw
      refine ⟨rfl, _, rfl, _, _, _, _, _, rfl, .ty _, hw.ty, kit_ty (kit_tup _), true, rfl, iteT' rfl ?_⟩
      refine ⟨_, rfl, b', ys, rfl, .inr sq, rfl, _, eD, ?_, fun b' o e => ?_, ?_⟩
      · rw [List.length_map, List.length_replicate]
        exact small1000 (by omega)
      · rw [upd_ne (ne_of_none e nD)]
        exact s9 _ _ e
      · rw [upd_same, l3, List.replicate_succ', List.map_append]
        rfl
    rintro H9 ⟨s9, eD⟩
    refine ⟨d0, [true, true], rfl, .inl (.inl eD), true, rfl, ite2 (fun e => nomatch e) (fun _ => ?_)⟩
    have hT9 := Is.mono (Go.of (A := A0) s9) hT
    refine ⟨_, rfl, rd_lst hT9 (by decide) rfl fun w1 hw1 => ?_⟩
    refine rd_int (show Is K A0 H9 w1 (.tuple [.int (n : Nat), .tuple [encQ p, encQ q], .tuple [.int (x : Nat), .int (y : Nat)]]) from hw1) (by decide) rfl ?_
    refine ⟨_, rfl, log, ?_⟩
    refine ⟨_, rfl, rd_lst hT9 (by decide) rfl fun w2 hw2 => ?_⟩
    refine rd_int (show Is K A0 H9 w2 (.tuple [.int (n : Nat), .tuple [encQ p', encQ q'], .tuple [.int (x' : Nat), .int (y' : Nat)]]) from hw2) (by decide) rfl ?_
    refine ⟨_, rfl, log, rfl, ?_⟩
    rw [decide_eq_true rfl]
    exact k H9 (s35.trans (s58.trans s9))
end

end LW

set_option Elab.async false
set_option linter.all false
set_option maxRecDepth 100000
set_option maxHeartbeats 4000100
set_option exponentiation.threshold 9000

namespace LW
open L2 PySem.Spec PyProof.Rows PySem
abbrev s__law_plain_right : Stmt := topS 63
theorem sc__law_plain_right : FnScope ["_law_pool_here", "_law_top", "_law_by", "_law_bottom", "_law_one", "_law_two", "_law_many", "_law_three"] ["_law_pool_here"] (defScope s__law_plain_right) := ⟨rfl, rfl, rfl, by decide +kernel, rfl, by decide +kernel, by decide +kernel⟩
local macro_rules | `(tactic| walk_at "len") => `(tactic| skip)
/-! ### plain rules -/
/-- a rule's numbers as they may be given -/
theorem VR.vhD {o : Int × Int} {ds : List PyData} (r : VR o (ds.map lowD)) (hn : ∀ d ∈ ds, isNumD d = true ∧ ∀ a b, d = encQ (a, b) → b.natAbs < 2 ^ 8000) : VH o ds where
  len := by have := r.len; rwa [List.length_map] at this
  o2 := r.vh.o2
  num := by
    intro d hd
    obtain ⟨ok, low⟩ := r.oks (lowD d) (List.mem_map.mpr ⟨d, hd, rfl⟩)
    refine ⟨(hn d hd).1, (hn d hd).2, ?_, ?_⟩
    · have := ok.a; have := ok.a2; omega
    · have := ok.b; have := ok.b2; omega
  next := by
    intro i d e
    have hm : d ∈ ds := List.mem_of_getElem? e
    have e2 : (ds.map lowD)[i]? = some (lowD d) := by rw [List.getElem?_map, e]; rfl
    have hil : i < (ds.map lowD).length := (List.getElem?_eq_some_iff.mp e2).1
    obtain ⟨ok, low⟩ := r.oks (lowD d) (List.mem_map.mpr ⟨d, hm, rfl⟩)
    rw [List.map_take]
    unfold nextD
    rw [(hn d hm).1, Bool.true_and]
    cases i with
    | zero => exact decide_eq_true ok.a
    | succ i =>
      have e1 : ((ds.map lowD).take (i + 1)).getLast? = some (ds.map lowD)[i] := by
        rw [List.getLast?_eq_getElem?, List.length_take, Nat.min_eq_left (by omega), List.getElem?_take_of_lt (by omega)]
        simp only [Nat.add_sub_cancel]
        exact List.getElem?_eq_getElem (by omega)
      rw [e1]
      exact decide_eq_true (r.inc i _ _ (List.getElem?_eq_getElem (by omega)) e2)
  last := by
    have := r.last
    rwa [List.length_map] at this
theorem low_scale {t b x : Int} (ht : 0 ≤ t) (hb : 0 < b) (hx : 0 < x) : lowQ (t * x) (b * x) = lowQ t b := by
  obtain ⟨T, rfl⟩ := Int.eq_ofNat_of_zero_le ht
  obtain ⟨B, rfl⟩ := Int.eq_ofNat_of_zero_le (Int.le_of_lt hb)
  obtain ⟨X, rfl⟩ := Int.eq_ofNat_of_zero_le (Int.le_of_lt hx)
  have e1 : ((T : Int) * (X : Int)).natAbs = T * X := by rw [← Int.natCast_mul, Int.natAbs_natCast]
  have e2 : ((B : Int) * (X : Int)).natAbs = B * X := by rw [← Int.natCast_mul, Int.natAbs_natCast]
  unfold lowQ
  rw [e1, e2, Int.natAbs_natCast, Int.natAbs_natCast, Nat.gcd_mul_right, Int.natCast_mul]
  refine Prod.ext ?_ ?_
  · exact Int.mul_ediv_mul_of_pos_left _ _ hx
  · exact Int.mul_ediv_mul_of_pos_left _ _ hx
theorem num_enc {a b : Int} (hb : 0 < b) (h : b < 10 ^ 100) : isNumD (encQ (a, b)) = true ∧ ∀ x y, encQ (a, b) = encQ (x, y) → y.natAbs < 2 ^ 8000 := by
  refine ⟨enc_num hb, fun x y z => ?_⟩
  have z1 : PyData.tuple [.int a, .int b] = PyData.tuple [.int x, .int y] := z
  injection z1 with z1
  injection z1 with _ z1
  injection z1 with z1
  injection z1 with z1
  rw [← z1]
  exact Nat.lt_trans (show b.natAbs < 10 ^ 100 by omega) (by decide +kernel)
theorem off_enc {a b : Int} (ha : 0 ≤ a) (hb : 0 < b) (h : a ≤ b) : isOffD (encQ (a, b)) = true := by
  unfold isOffD
  have e : lowD (encQ (a, b)) = lowQ a b := rfl
  rw [enc_num (q := (a, b)) hb, e, decide_eq_true (low_nn ha), decide_eq_true (low_le (o := (a, b)) hb h)]
  rfl
section
variable {P : Program} {w : World} {K : PySem.W.Frag} {mg : Str → Option Value} {base : Heap} {c : Addr}
theorem hv_two {A : List Addr} {H : Hp} {x dx : Addr} {o o' : HO} (nx : H x = none) (ndx : H dx = none) : Same (hv A H) (hv (x :: A) (upd (upd H dx o) x o')) := fun b y e => by
  have hb : b ∉ A := fun z => by rw [hv_in z] at e; cases e
  rw [hv_out hb] at e
  have b1 : b ≠ x := ne_of_none e nx
  have b2 : b ≠ dx := ne_of_none e ndx
  rw [hv_out (by simp [b1, hb]), upd_ne b1, upd_ne b2]
  exact e
/-- Rule(..), at good numbers -/
theorem rd_newD {A : List Addr} {H : Hp} {Q : Hp → Prop} {E : XK} {v : V} {rest : List V} {d : PyData} {ds : List PyData} (hv : Is K A H v d) (hr : Iss K A H rest ds) (hA : Hd A H) (off : isOffD d = true) (sz : ∀ a b, d = encQ (a, b) → b.natAbs < 2 ^ 8000) (vh : VH (lowD d) ds)
    {x dx : Addr} (nx : H x = Option.none) (ndx : H dx = Option.none) (ne : dx ≠ x) (k : ∀ H', Same H H' → x ∉ A → RuleAt K c A H' x (lowD d) (ds.map lowD) → Q H') : sp_Rule_new K c (V.ref x :: v :: rest) (upd (upd H dx (HO.own x)) x (HO.ins c dx [])) (fun v H2 => v = V.non ∧ Q H2) E := by
  have s1 : Same H (upd H dx (.own x)) := same_new ndx
  have nx1 : (upd H dx (HO.own x)) x = none := by rw [upd_ne (fun z => ne z.symm)]; exact nx
  have xA : x ∉ A := hA.out nx
  have e0 : (upd (upd H dx (.own x)) x (.ins c dx [])) x = some (.ins c dx []) := upd_same
  have hA2 : Hd A (upd (upd H dx (.own x)) x (.ins c dx [])) := hd_new (hd_new hA ndx) nx1
  refine ⟨x, dx, v, rest, A, d, ds, rfl, e0, xA, hA2, D.same (hv_two nx ndx) hv, DAll.same (hv_two nx ndx) hr, off, sz, vh, fun H' keep R => ⟨rfl, ?_⟩⟩
  refine k H' (fun b o e => ?_) xA R
  have n1 : b ≠ x := ne_of_none e nx
  exact keep b o n1 (by rw [upd_ne n1]; exact s1 b o e)
end

theorem longer_one {b s : Int} : longer b [] s 1 = [s] := by
  simp [longer, List.range_succ]
theorem longer_two {b s : Int} : longer b [] s 2 = [s, b + s] := by
  simp [longer, List.range_succ]
section
variable {P : Program} {w : World} {K : PySem.W.Frag} {mg : Str → Option Value} {base : Heap} {c : Addr}
def sp__law_plain_right (K : PySem.W.Frag) (c : Addr) : Sp := fun vs H Q _ => ∃ (a : Addr), vs = [.ref a] ∧ PoolAt H a ∧ ∀ H', Go [a] H H' → Q (.bl true) H'
theorem calG__law_plain_right (B : Bl mg) (DD : OwnDef K mg "_law_plain_right" s__law_plain_right) (C__law_draw : Cal P w K mg base 1 "_law_draw" (sp__law_draw K c) []) (C__law_same : CalG P w K mg base 16 "_law_same" (sp__law_same K c) []) (MR : MakR P w K mg base 7 "Rule" c (sp_Rule_new K c)) :
    CalG P w K mg base 25 "_law_plain_right" (sp__law_plain_right K c) [] := by
  obtain ⟨f, fd, F, hm⟩ := DD.ex
  refine ⟨f, fd, ["_law_pool_here"], [], Fun_okG F sc__law_plain_right (fun vs H Q E h => ?_) (fun cdv A outer s H vs Q E hr quiet h => ?_), hm, F.kp, F.binds (fun _ _ _ _ _ _ us hl => match us, hl with | [_], _ => rfl), .nil⟩
  · obtain ⟨_, rfl, _⟩ := h; rfl
  · obtain ⟨a, rfl, tk, k⟩ := h
    have hq : (A.deeper (envOfC "_law_plain_right" (defScope s__law_plain_right) s.heap.objs.size f cdv)).guards = some [] := quiet
    refine ⟨_, (pss_cons (ps_par (i := 1) (j := 2) (by rfl) sc__law_plain_right.nd rfl rfl (by decide) rfl rfl (pa_cons (pe_c C__law_draw hr (by decide) (by rfl) (pa_cons (pv 0) (pa_cons pe_int pa_nil))) (pa_cons (pe_op op_add pe_int (pe_c C__law_draw hr (by decide) (by rfl) (pa_cons (pv 0) (pa_cons (pe_op op_pow pe_int pe_int) pa_nil)))) pa_nil)) (by rfl))
      (pss_cons (ps_set (i := 3) sc__law_plain_right.nd rfl (Or.inl rfl) (pe_op op_add (pe_op op_add (pv 1) pe_int) (pe_c C__law_draw hr (by decide) (by rfl) (pa_cons (pv 0) (pa_cons pe_int pa_nil)))))
      (pss_cons (ps_par (i := 4) (j := 5) (by rfl) sc__law_plain_right.nd rfl rfl (by decide) rfl rfl (pa_cons (pe_mkP MR hr (by decide) (by rfl) (pa_cons (pe_tup (pa_cons (pv 1) (pa_cons (pv 3) pa_nil))) pa_nil)) (pa_cons (pe_mkP MR hr (by decide) (by rfl) (pa_cons (pe_tup (pa_cons (pe_op op_mul (pv 1) (pv 2)) (pa_cons (pe_op op_mul (pv 3) (pv 2)) pa_nil))) (pa_cons (pe_tup (pa_cons (pe_op op_mul (pv 1) (pv 2)) (pa_cons (pe_op op_mul (pv 3) (pv 2)) pa_nil))) pa_nil))) pa_nil)) (by rfl))
      (pss_cons (ps_set (i := 6) sc__law_plain_right.nd rfl (Or.inl rfl) (pe_c C__law_draw hr (by decide) (by rfl) (pa_cons (pv 0) (pa_cons pe_int pa_nil))))
      (pss_cons (ps_set (i := 7) sc__law_plain_right.nd rfl (Or.inl rfl) (pe_mkP MR hr (by decide) (by rfl) (pa_cons (pe_tup (pa_cons (pv 1) (pa_cons (pv 3) pa_nil))) (pa_cons (pe_tup (pa_cons (pe_op op_mul (pv 1) (pv 2)) (pa_cons (pe_op op_mul (pv 3) (pv 2)) pa_nil))) (pa_cons (pe_tup (pa_cons (pe_op op_add (pv 3) (pv 1)) (pa_cons (pv 3) pa_nil))) pa_nil)))))
      (pss_one (ps_ret (pe_and (pe_cG hq C__law_same hr (by decide) (by rfl) (pa_cons (pv 4) (pa_cons (pv 5) (pa_cons (pv 6) pa_nil)))) (pe_and (pe_cG hq C__law_same hr (by decide) (by rfl) (pa_cons (pv 5) (pa_cons (pv 7) (pa_cons (pv 6) pa_nil)))) (pe_one (pe_cG hq C__law_same hr (by decide) (by rfl) (pa_cons (pv 7) (pa_cons (pv 4) (pa_cons (pv 6) pa_nil)))))))))))))), ?_⟩
    have hA : Hd [a] H := by
      obtain ⟨x, y, z, e, _⟩ := tk.ex
      exact Hd.cons e Hd.nil
    have am : a ∈ [a] := by simp
    refine ⟨_, rfl, a, 1000, rfl, tk, by decide, by decide, fun t H1 t0 t1 go1 tk1 => ?_⟩
    refine ⟨_, rfl, _, _, rfl, rfl, (by refine ⟨by decide, by decide, by decide⟩), a, _, rfl, tk1, by decide, by decide, fun y H2 y0 y1 go2 tk2 => ⟨_, _, rfl, rfl, ?_⟩⟩
    have e6 : (10 : Int) ^ (6 : Int).toNat = 1000000 := by decide
    rw [e6] at y1
    dsimp only
    generalize ex : 1 + y = x
    refine ⟨_, _, rfl, ?_⟩
    refine ⟨_, rfl, _, _, rfl, rfl, _, rfl, a, 1000, rfl, tk2, by decide, by decide, fun z H3 z0 z1 go3 tk3 => ⟨_, _, rfl, rfl, ?_⟩⟩
    dsimp only
    generalize eb : t + 1 + z = b
    have g03 : Go [a] H H3 := ((go1 [a] am).trans (go2 [a] am)).trans (go3 [a] am)
    have hA3 := g03.held hA
    have b0 : 0 < b := by omega
    have x0 : 0 < x := by omega
    have tx0 : 0 ≤ t * x := Int.mul_nonneg t0 (by omega)
    have bx0 : 0 < b * x := Int.mul_pos b0 x0
    have bx1 : b * x ≤ 2000 * 1000001 := Int.mul_le_mul (by omega) (by omega) (by omega) (by omega)
    have tbx : t * x ≤ b * x := Int.mul_le_mul_of_nonneg_right (by omega) (by omega)
    have r1 : IR b [] t := IR.bare b0 (by omega) t0 (by omega)
    have r2 : IR (b * x) [] (t * x) := IR.bare bx0 (by omega) tx0 tbx
    have sc := low_scale (x := x) t0 b0 x0
    have l1 := r1.longer (n := 2) (by omega)
    have l2 := r2.longer (n := 1) (by omega)
    have a12 : Ali b [] t (b * x) (longer (b * x) [] (t * x) 1) (t * x) := ⟨r1, l2, sc.symm, fun k => by rw [longer_marks r2 1 k, sc]; rfl⟩
    have a23 : Ali (b * x) (longer (b * x) [] (t * x) 1) (t * x) b (longer b [] t 2) t := ⟨l2, l1, sc, fun k => by rw [longer_marks r2 1 k, longer_marks r1 2 k, sc]; rfl⟩
    have a31 : Ali b (longer b [] t 2) t b [] t := ⟨l1, r1, rfl, fun k => longer_marks r1 2 k⟩
    have nb := num_enc (a := t) b0 (by omega)
    have nx2 := num_enc (a := t * x) bx0 (by omega)
    have nb3 := num_enc (a := b + t) b0 (by omega)
    -- the first
    refine ⟨_, rfl, _, rfl, by show 2 ≤ sizeLine; decide, fun p1 n1 => ?_⟩
    have hA4 := hd_new (o := .tup [.int t, .int b]) hA3 n1
    have i1 : Is K [a] (upd H3 p1 (.tup [.int t, .int b])) (.ref p1) (encQ (t, b)) := is_new_tup hA3 n1 (DAll.cons (.int _) (DAll.cons (.int _) DAll.nil))
    have s34 : Same H3 (upd H3 p1 (.tup [.int t, .int b])) := same_new n1
    generalize (upd H3 p1 (.tup [.int t, .int b])) = H4 at hA4 i1 s34 ⊢
    refine fun q1 dx nq ndx ne => rd_newD i1 DAll.nil hA4 (off_enc t0 b0 (by omega)) nb.2 r1.vr.vh nq ndx ne fun H5 s5 na1 R1 => ?_
    have hA5 := (Go.of (A := [a]) s5).held hA4
    have s35 := s34.trans s5
    have m2 : ([encQ (t * x, b * x)] : List PyData).map lowD = lowL (b * x) (longer (b * x) [] (t * x) 1) := by rw [longer_one]; rfl
    have m3 : ([encQ (t * x, b * x), encQ (b + t, b)] : List PyData).map lowD = lowL b (longer b [] t 2) := by
      rw [longer_two]
      show [lowQ (t * x) (b * x), lowQ (b + t) b] = [lowQ t b, lowQ (b + t) b]
      rw [sc]
    have vh2 : VH (lowD (encQ (t * x, b * x))) [encQ (t * x, b * x)] := VR.vhD (by rw [m2]; exact l2.vr) fun d hd => by
      rw [List.mem_singleton.mp hd]
      exact nx2
    have vh3 : VH (lowD (encQ (t, b))) [encQ (t * x, b * x), encQ (b + t, b)] := VR.vhD (by rw [m3]; exact l1.vr) fun d hd => by
      rcases List.mem_cons.mp hd with z | z
      · rw [z]; exact nx2
      · rw [List.mem_singleton.mp z]; exact nb3
    have ct : CMul t x := .inl ⟨by omega, by omega⟩
    have cb : CMul b x := .inl ⟨by omega, by omega⟩
    -- the second
    refine ⟨_, rfl, _, rfl, _, _, rfl, rfl, ct, _, rfl, _, rfl, _, _, rfl, rfl, cb, by show 2 ≤ sizeLine; decide, fun p2 n2 => ?_⟩
    have hA6 := hd_new (o := .tup [.int (t * x), .int (b * x)]) hA5 n2
    have i2 : Is K [a] (upd H5 p2 (.tup [.int (t * x), .int (b * x)])) (.ref p2) (encQ (t * x, b * x)) := is_new_tup hA5 n2 (DAll.cons (.int _) (DAll.cons (.int _) DAll.nil))
    have s56 : Same H5 (upd H5 p2 (.tup [.int (t * x), .int (b * x)])) := same_new n2
    dsimp only
    generalize (upd H5 p2 (.tup [.int (t * x), .int (b * x)])) = H6 at hA6 i2 s56 ⊢
    refine ⟨_, rfl, _, rfl, _, _, rfl, rfl, ct, _, rfl, _, rfl, _, _, rfl, rfl, cb, by show 2 ≤ sizeLine; decide, fun p3 n3 => ?_⟩
    have hA7 := hd_new (o := .tup [.int (t * x), .int (b * x)]) hA6 n3
    have i3 : Is K [a] (upd H6 p3 (.tup [.int (t * x), .int (b * x)])) (.ref p3) (encQ (t * x, b * x)) := is_new_tup hA6 n3 (DAll.cons (.int _) (DAll.cons (.int _) DAll.nil))
    have s67 : Same H6 (upd H6 p3 (.tup [.int (t * x), .int (b * x)])) := same_new n3
    have i27 := Is.mono (Go.of (A := [a]) s67) i2
    dsimp only
    generalize (upd H6 p3 (.tup [.int (t * x), .int (b * x)])) = H7 at hA7 i3 i27 s67 ⊢
    refine fun q2 dx nq ndx ne => rd_newD i27 (DAll.cons i3 DAll.nil) hA7 (off_enc tx0 bx0 tbx) nx2.2 vh2 nq ndx ne fun H8 s8 na2 R2 => ?_
    rw [m2] at R2
    have hA8 := (Go.of (A := [a]) s8).held hA7
    have s58 := (s56.trans s67).trans s8
    have s38 := s35.trans s58
    refine ⟨_, _, rfl, ?_⟩
    -- the items
    refine ⟨_, rfl, a, 201, rfl, tk3.keep s38, by decide, by decide, fun n H9 n0 n1' go9 tk9 => ?_⟩
    obtain ⟨N, rfl⟩ := Int.eq_ofNat_of_zero_le n0
    have hA9 := (go9 [a] am).held hA8
    -- the third
    refine ⟨_, rfl, _, rfl, by show 2 ≤ sizeLine; decide, fun p4 n4 => ?_⟩
    have hAa := hd_new (o := .tup [.int t, .int b]) hA9 n4
    have i4 : Is K [a] (upd H9 p4 (.tup [.int t, .int b])) (.ref p4) (encQ (t, b)) := is_new_tup hA9 n4 (DAll.cons (.int _) (DAll.cons (.int _) DAll.nil))
    have s9a : Same H9 (upd H9 p4 (.tup [.int t, .int b])) := same_new n4
    dsimp only
    generalize (upd H9 p4 (.tup [.int t, .int b])) = Ha at hAa i4 s9a ⊢
    refine ⟨_, rfl, _, rfl, _, _, rfl, rfl, ct, _, rfl, _, rfl, _, _, rfl, rfl, cb, by show 2 ≤ sizeLine; decide, fun p5 n5 => ?_⟩
    have hAb := hd_new (o := .tup [.int (t * x), .int (b * x)]) hAa n5
    have i5 : Is K [a] (upd Ha p5 (.tup [.int (t * x), .int (b * x)])) (.ref p5) (encQ (t * x, b * x)) := is_new_tup hAa n5 (DAll.cons (.int _) (DAll.cons (.int _) DAll.nil))
    have sab : Same Ha (upd Ha p5 (.tup [.int (t * x), .int (b * x)])) := same_new n5
    dsimp only
    generalize (upd Ha p5 (.tup [.int (t * x), .int (b * x)])) = Hb at hAb i5 sab ⊢
    refine ⟨_, rfl, _, rfl, _, _, rfl, rfl, _, rfl, by show 2 ≤ sizeLine; decide, fun p6 n6 => ?_⟩
    have hAc := hd_new (o := .tup [.int (b + t), .int b]) hAb n6
    have i6 : Is K [a] (upd Hb p6 (.tup [.int (b + t), .int b])) (.ref p6) (encQ (b + t, b)) := is_new_tup hAb n6 (DAll.cons (.int _) (DAll.cons (.int _) DAll.nil))
    have sbc : Same Hb (upd Hb p6 (.tup [.int (b + t), .int b])) := same_new n6
    have i4c := Is.mono (Go.of (A := [a]) (sab.trans sbc)) i4
    have i5c := Is.mono (Go.of (A := [a]) sbc) i5
    dsimp only
    generalize (upd Hb p6 (.tup [.int (b + t), .int b])) = Hc at hAc i6 i4c i5c sbc ⊢
    refine fun q3 dx nq3 ndx ne => rd_newD i4c (DAll.cons i5c (DAll.cons i6 DAll.nil)) hAc (off_enc t0 b0 (by omega)) nb.2 vh3 nq3 ndx ne fun Hd' sd _ R3 => ?_
    rw [m3] at R3
    have s9d : Same H9 Hd' := ((s9a.trans sab).trans sbc).trans sd
    have g8d : Go [a] H8 Hd' := (go9 [a] am).trans (Go.of s9d)
    have gd : Go [a] H Hd' := (g03.trans (Go.of s38)).trans g8d
    have hAd := gd.held hA
    have R1d := (R1.same s58).go na1 g8d
    have R2d := R2.go na2 g8d
    have e1 : lowD (encQ (t, b)) = lowQ t b := rfl
    have e2 : lowD (encQ (t * x, b * x)) = lowQ (t * x) (b * x) := rfl
    rw [e1] at R1d R3
    rw [e2] at R2d
    have hN : N ≤ 200 := by omega
    dsimp only [gName, tSeq, tRet]
    refine ⟨_, rfl, _, rfl, _, rfl, q1, q2, [a], b, t, b * x, t * x, [], longer (b * x) [] (t * x) 1, N, rfl, R1d, R2d, a12, hAd, hN, fun He se => ⟨true, rfl, iteT' rfl ?_⟩⟩
    refine ⟨_, rfl, _, rfl, _, rfl, q2, q3, [a], b * x, t * x, b, t, longer (b * x) [] (t * x) 1, longer b [] t 2, N, rfl, R2d.same se, R3.same se, a23, (Go.of (A := [a]) se).held hAd, hN, fun Hf sf => ⟨true, rfl, iteT' rfl ?_⟩⟩
    have sef := se.trans sf
    refine ⟨_, rfl, _, rfl, _, rfl, q3, q1, [a], b, t, b, t, longer b [] t 2, [], N, rfl, R3.same sef, R1d.same sef, a31, (Go.of (A := [a]) sef).held hAd, hN, fun Hg sg => ?_⟩
    exact k _ (gd.trans (Go.of (sef.trans sg)))
end

end LW

set_option Elab.async false
set_option linter.all false
set_option maxRecDepth 100000
set_option maxHeartbeats 4000100
set_option exponentiation.threshold 9000

namespace LW
open L2 PySem.Spec PyProof.Rows PySem
abbrev s__law_right : Stmt := topS 64
theorem sc__law_right : FnScope ["_law_pool_here", "_law_own", "_law_longer_here", "_law_one", "_law_two", "_law_many", "_law_other"] ["_law_pool_here"] (defScope s__law_right) := ⟨rfl, rfl, rfl, by decide +kernel, rfl, by decide +kernel, by decide +kernel⟩
abbrev s_law : Stmt := topS 65
theorem sc_law : FnScope ["_law_script", "_law_at"] ["_law_script"] (defScope s_law) := ⟨rfl, rfl, rfl, by decide +kernel, rfl, by decide +kernel, by decide +kernel⟩
local macro_rules | `(tactic| walk_at "len") => `(tactic| skip)
/-! ### the law's own def -/
section
variable {P : Program} {w : World} {K : PySem.W.Frag} {mg : Str → Option Value} {base : Heap} {c : Addr}
def sp__law_right (K : PySem.W.Frag) (c : Addr) : Sp := fun vs H Q _ => ∃ (a : Addr), vs = [.ref a] ∧ PoolAt H a ∧ ∀ H', Go [a] H H' → Q (.bl true) H'
theorem calG__law_right (B : Bl mg) (DD : OwnDef K mg "_law_right" s__law_right) (C__law_rule : Cal P w K mg base 3 "_law_rule" (sp__law_rule K c) []) (C__law_draw : Cal P w K mg base 1 "_law_draw" (sp__law_draw K c) []) (C__law_pick : Cal P w K mg base 2 "_law_pick" (sp__law_pick K c) []) (C__law_longer : Cal P w K mg base 1 "_law_longer" (sp__law_longer K c) []) (C__law_made : Cal P w K mg base 18 "_law_made" (sp__law_made K c) []) (C__law_moved : Cal P w K mg base 2 "_law_moved" (sp__law_moved K c) []) (C__law_same : CalG P w K mg base 16 "_law_same" (sp__law_same K c) []) (C__law_unlike : Cal P w K mg base 16 "_law_unlike" (sp__law_unlike K c) []) (C__law_plain_right : CalG P w K mg base 25 "_law_plain_right" (sp__law_plain_right K c) []) :
    CalG P w K mg base 34 "_law_right" (sp__law_right K c) [] := by
  obtain ⟨f, fd, F, hm⟩ := DD.ex
  refine ⟨f, fd, ["_law_pool_here"], [], Fun_okG F sc__law_right (fun vs H Q E h => ?_) (fun cdv A outer s H vs Q E hr quiet h => ?_), hm, F.kp, F.binds (fun _ _ _ _ _ _ us hl => match us, hl with | [_], _ => rfl), .nil⟩
  · obtain ⟨_, rfl, _⟩ := h; rfl
  · obtain ⟨a, rfl, tk, k⟩ := h
    have hq : (A.deeper (envOfC "_law_right" (defScope s__law_right) s.heap.objs.size f cdv)).guards = some [] := quiet
    refine ⟨_, (pss_cons (ps_set (i := 1) sc__law_right.nd rfl (Or.inl rfl) (pe_c C__law_rule hr (by decide) (by rfl) (pa_cons (pv 0) (pa_cons (pe_lst (pa_cons pe_int (pa_cons pe_int (pa_cons pe_int (pa_cons pe_int (pa_cons pe_int (pa_cons (pe_op op_add (pe_op op_pow pe_int pe_int) pe_int) pa_nil))))))) pa_nil))))
      (pss_cons (ps_set (i := 2) sc__law_right.nd rfl (Or.inl rfl) (pe_c C__law_longer hr (by decide) (by rfl) (pa_cons (pv 1) (pa_cons (pe_c C__law_draw hr (by decide) (by rfl) (pa_cons (pv 0) (pa_cons pe_int pa_nil))) pa_nil))))
      (pss_cons (ps_par (i := 3) (j := 4) (by rfl) sc__law_right.nd rfl rfl (by decide) rfl rfl (pa_cons (pe_c C__law_made hr (by decide) (by rfl) (pa_cons (pv 1) pa_nil)) (pa_cons (pe_c C__law_made hr (by decide) (by rfl) (pa_cons (pv 2) pa_nil)) pa_nil)) (by rfl))
      (pss_cons (ps_set (i := 5) sc__law_right.nd rfl (Or.inl rfl) (pe_c C__law_pick hr (by decide) (by rfl) (pa_cons (pv 0) (pa_cons (pe_lst (pa_cons pe_int (pa_cons pe_int (pa_cons pe_int (pa_cons pe_int (pa_cons pe_int (pa_cons (pe_c C__law_draw hr (by decide) (by rfl) (pa_cons (pv 0) (pa_cons pe_int pa_nil))) pa_nil))))))) pa_nil))))
      (pss_cons (ps_set (i := 6) sc__law_right.nd rfl (Or.inl rfl) (pe_c C__law_made hr (by decide) (by rfl) (pa_cons (pe_c C__law_moved hr (by decide) (by rfl) (pa_cons (pv 0) (pa_cons (pv 2) pa_nil))) pa_nil)))
      (pss_cons (ps_if (PW.pt (pw_or (pt_not (pt_val (pe_cG hq C__law_same hr (by decide) (by rfl) (pa_cons (pv 3) (pa_cons (pv 4) (pa_cons (pv 5) pa_nil)))))) (pw_or (pt_not (pt_val (pe_cG hq C__law_same hr (by decide) (by rfl) (pa_cons (pv 4) (pa_cons (pv 3) (pa_cons (pv 5) pa_nil)))))) (pw_or1 (pt_not (pt_val (pe_cG hq C__law_same hr (by decide) (by rfl) (pa_cons (pv 3) (pa_cons (pv 3) (pa_cons (pv 5) pa_nil)))))))))) (pss_one (ps_ret pe_bl)) pss_nil)
      (pss_cons (ps_if (PW.pt (pw_or (pt_not (pt_val (pe_c C__law_unlike hr (by decide) (by rfl) (pa_cons (pv 3) (pa_cons (pv 6) pa_nil))))) (pw_or1 (pt_not (pt_val (pe_c C__law_unlike hr (by decide) (by rfl) (pa_cons (pv 6) (pa_cons (pv 4) pa_nil)))))))) (pss_one (ps_ret pe_bl)) pss_nil)
      (pss_one (ps_ret (pe_and (pe_cG hq C__law_same hr (by decide) (by rfl) (pa_cons (pv 3) (pa_cons (pv 4) (pa_cons (pv 5) pa_nil)))) (pe_one (pe_cG hq C__law_plain_right hr (by decide) (by rfl) (pa_cons (pv 0) pa_nil))))))))))))), ?_⟩
    have hA : Hd [a] H := by
      obtain ⟨x, y, z, e, _⟩ := tk.ex
      exact Hd.cons e Hd.nil
    have am : a ∈ [a] := by simp
    refine ⟨_, rfl, _, _, rfl, rfl, (by refine ⟨by decide, by decide, by decide⟩), _, _, rfl, rfl, by show 6 ≤ sizeLine; decide, fun l nl => ?_⟩
    have nla : l ≠ a := fun z => tk.ne (by rw [← z]; exact nl)
    refine ⟨a, l, [a], [1, 2, 3, 10, 997, 10 ^ (12 : Int).toNat + 39], rfl, tk.keep (same_new nl), am, hd_new hA nl, .inl (.inl upd_same), nla, by decide, by decide, ?_, fun u H1 b ms s1 g1 tk1 raw ir bb => ?_⟩
    · intro x hx
      have e12 : (10 : Int) ^ (12 : Int).toNat = 1000000000000 := by decide
      rw [e12] at hx
      simp only [List.mem_cons, List.not_mem_nil,
            or_false] at hx
      omega
    have g01 : Go [a] H H1 := (Go.new nl).trans g1
    refine ⟨_, rfl, _, rfl, a, 9, rfl, tk1, by decide, by decide, fun n H2 n0 n1 go2 tk2 => ?_⟩
    obtain ⟨N, rfl⟩ := Int.eq_ofNat_of_zero_le n0
    have g02 := g01.trans (go2 [a] am)
    have hA2 := g02.held hA
    have raw2 := raw.go (go2 [a] am)
    refine ⟨u, [a], b, s1, ms, N, rfl, hA2, raw2, ir, bb, by omega, fun u2 H3 s3 hu2 => ?_⟩
    have ir2 := ir.longer (n := N) (by omega)
    have hA3 := (Go.of (A := [a]) s3).held hA2
    have hu3 : Is K [a] H3 u (irD b ms s1) := Is.mono (Go.of (A := [a]) s3) raw2.is
    -- the two rules
    refine ⟨_, rfl, u, [a], b, s1, ms, rfl, hA3, hu3, ir, fun r1 H4 s4 nr1 R1 => ?_⟩
    have hA4 := (Go.of (A := [a]) s4).held hA3
    refine ⟨_, rfl, u2, [a], b, s1, longer b ms s1 N, rfl, hA4, Is.mono (Go.of s4) hu2, ir2, fun r2 H5 s5 nr2 R2 => ⟨_, _, rfl, ?_⟩⟩
    have s25 := (s3.trans s4).trans s5
    have hA5 := (Go.of (A := [a]) s5).held hA4
    have tk5 := tk2.keep s25
    have hu5 := Is.mono (Go.of (A := [a]) (s4.trans s5)) hu2
    -- the items
    refine ⟨_, rfl, _, rfl, a, 40, rfl, tk5, by decide, by decide, fun m H6 m0 m1 go6 tk6 => ?_⟩
    refine ⟨by show 6 ≤ sizeLine; decide, fun l2 nl2 => ?_⟩
    have nla2 : l2 ≠ a := fun z => tk6.ne (by rw [← z]; exact nl2)
    refine ⟨a, l2, _, rfl, tk6.keep (same_new nl2), .inl (.inl upd_same), nla2, by simp, by simp, fun v H7 hv go7 tk7 => ?_⟩
    obtain ⟨M, rfl, hM⟩ : ∃ M : Nat, v = V.int (M : Nat) ∧ M ≤ 200 := by
      simp only [List.mem_cons, List.not_mem_nil, or_false] at hv
      rcases hv with z | z | z | z | z | z
      · exact ⟨0, z, by decide⟩
      · exact ⟨1, z, by decide⟩
      · exact ⟨2, z, by decide⟩
      · exact ⟨3, z, by decide⟩
      · exact ⟨200, z, by decide⟩
      · exact ⟨m.toNat, by rw [z, Int.toNat_of_nonneg m0], by omega⟩
    have g57 : Go [a] H5 H7 := ((go6 [a] am).trans (Go.new nl2)).trans (go7 [a] am)
    have hA7 := g57.held hA5
    have hu7 := Is.mono g57 hu5
    -- the other
    refine ⟨_, rfl, _, rfl, a, u2, [a], b, s1, longer b ms s1 N, rfl, tk7, am, hA7, hu7, ir2, bb, fun u3 H8 b3 ms3 s3' g8 tk8 hu8 ir3 un => ?_⟩
    have hA8 := g8.held hA7
    refine ⟨u3, [a], b3, s3', ms3, rfl, hA8, hu8, ir3, fun r3 H9 s9 nr3 R3 => ?_⟩
    have g59 : Go [a] H5 H9 := (g57.trans g8).trans (Go.of s9)
    have hA9 := g59.held hA5
    have R19 := (R1.same s5).go nr1 g59
    have R29 := R2.go nr2 g59
    have g09 : Go [a] H H9 := (g02.trans (Go.of s25)).trans g59
    have tk9 := tk8.keep s9
    have a12 : Ali b ms s1 b (longer b ms s1 N) s1 := ⟨ir, ir2, rfl, fun k => (longer_marks ir N k).symm⟩
    have un1 : Unl b ms s1 b3 ms3 s3' := by
      obtain ⟨j, hj, z⟩ := un
      rw [longer_at] at z
      exact ⟨j, hj, z⟩
    dsimp only [gName, tSeq, tIfS, tNext, tRet]
    refine viaT (t := tOr _ _) (fun c' H' => Same H9 H' ∧ c' = false) (fun Q' k' => ?_) ?_
    · refine ⟨_, rfl, _, rfl, _, rfl, r1, r2, [a], b, s1, b, s1, ms, longer b ms s1 N, M, rfl, R19, R29, a12, hA9, hM, fun Ha sa => ⟨true, rfl, ite2 (fun e => nomatch e) (fun _ => ?_)⟩⟩
      have hAa := (Go.of (A := [a]) sa).held hA9
      refine ⟨_, rfl, _, rfl, _, rfl, r2, r1, [a], b, s1, b, s1, longer b ms s1 N, ms, M, rfl, R29.same sa, R19.same sa, a12.swap, hAa, hM, fun Hb sb => ⟨true, rfl, ite2 (fun e => nomatch e) (fun _ => ?_)⟩⟩
      have sab := sa.trans sb
      have hAb := (Go.of (A := [a]) sab).held hA9
      exact ⟨_, rfl, _, rfl, _, rfl, r1, r1, [a], b, s1, b, s1, ms, ms, M, rfl, R19.same sab, R19.same sab, Ali.refl ir, hAb, hM, fun Hc sc => ⟨true, rfl, k' _ _ ⟨sab.trans sc, rfl⟩⟩⟩
    rintro c1 Hc ⟨sc, rfl⟩
    refine ite2 (fun e => nomatch e) (fun _ => ?_)
    have hAc := (Go.of (A := [a]) sc).held hA9
    refine viaT (t := tOr _ _) (fun c' H' => Same Hc H' ∧ c' = false) (fun Q' k' => ?_) ?_
    · refine ⟨_, rfl, _, rfl, r1, r3, [a], b, s1, b3, s3', ms, ms3, rfl, R19.same sc, R3.same sc, ir, ir3, un1, hAc, fun Hd' sd => ⟨true, rfl, ite2 (fun e => nomatch e) (fun _ => ?_)⟩⟩
      exact ⟨_, rfl, _, rfl, r3, r2, [a], b3, s3', b, s1, ms3, longer b ms s1 N, rfl, R3.same (sc.trans sd), R29.same (sc.trans sd), ir3, ir2, un.swap, (Go.of (A := [a]) sd).held hAc, fun He se => ⟨true, rfl, k' _ _ ⟨sd.trans se, rfl⟩⟩⟩
    rintro c1 Hd' ⟨sd, rfl⟩
    refine ite2 (fun e => nomatch e) (fun _ => ?_)
    have scd := sc.trans sd
    have hAd := (Go.of (A := [a]) scd).held hA9
    refine ⟨_, rfl, _, rfl, _, rfl, r1, r2, [a], b, s1, b, s1, ms, longer b ms s1 N, M, rfl, R19.same scd, R29.same scd, a12, hAd, hM, fun He se => ⟨true, rfl, iteT' rfl ?_⟩⟩
    refine ⟨_, rfl, a, rfl, tk9.keep (scd.trans se), fun Hf gf => ?_⟩
    exact k _ ((g09.trans (Go.of (scd.trans se))).trans gf)
end

end LW

set_option Elab.async false
set_option linter.all false
set_option maxRecDepth 100000
set_option maxHeartbeats 4000100
set_option exponentiation.threshold 9000

namespace LW
open L2 PySem.Spec PyProof.Rows PySem
local macro_rules | `(tactic| walk_at "len") => `(tactic| skip)
/-! ### the law -/
section
variable {P : Program} {w : World} {K : PySem.W.Frag} {mg : Str → Option Value} {base : Heap} {c : Addr}
def sp_law (K : PySem.W.Frag) : Sp := fun vs H Q _ => ∃ (a : Addr) (ns : List Int), vs = [.ref a] ∧ SqL K H a (ns.map V.int) ∧ ns.length ≤ 63 ∧ ∀ H', Q (.bl true) H'
theorem ok_law {f : Addr} {fd : FuncData} (B : Bl mg) (F : Fun K "law" "law" s_law f fd) (C__law_pool : Cal P w K mg base 1 "_law_pool" (sp__law_pool K c) []) (C__law_right : CalG P w K mg base 34 "_law_right" (sp__law_right K c) []) :
    FnG P w K mg base CX0 35 f fd ["_law_script"] (sp_law K) := by
  refine Fun_okG F sc_law (fun vs H Q E h => ?_) (fun cdv A outer s H vs Q E hr quiet h => ?_)
  · obtain ⟨_, _, rfl, _⟩ := h
    rfl
  · obtain ⟨a, ns, rfl, hS, hn, q⟩ := h
    have hq : (A.deeper (envOfC "law" (defScope s_law) s.heap.objs.size f cdv)).guards = some [] := quiet
    refine ⟨_, (pss_cons (ps_for PassesOwn.never rfl (pi_range1 (by rfl) B.range (pa_cons (pe_callB (call_max2 rfl) (by rfl) B.max (by decide +kernel) (pa_cons pe_int (pa_cons (pe_callB (call_min2 rfl) (by rfl) B.min (by decide +kernel) (pa_cons (pe_callB call_len_seq (by rfl) B.len (by decide +kernel) (pa_cons (pv 0) pa_nil)) (pa_cons pe_int pa_nil))) pa_nil))) pa_nil)) (pg_name (i := 1) sc_law.nd rfl (Or.inl rfl)) (pss_one (ps_if (pt_not (pt_val (pe_cG hq C__law_right hr (by decide) (by rfl) (pa_cons (pe_c C__law_pool hr (by decide) (by rfl) (pa_cons (pv 0) (pa_cons (pv 1) pa_nil))) pa_nil)))) (pss_one (ps_ret pe_bl)) pss_nil)))
      (pss_one (ps_ret
            pe_bl))), ?_⟩
    obtain ⟨H1, eH1⟩ : ∃ H1, H1 = H := ⟨_, rfl⟩
    rw [← eH1]
    have s1 : Same H H1 := by rw [eH1]; exact Same.refl _
    obtain ⟨N, eN, hN⟩ : ∃ N : Int, (if (if (6 : Int) < ((ns.map V.int).length : Int) then (6 : Int) else ((ns.map V.int).length : Int)) > 2 then (if (6 : Int) < ((ns.map V.int).length : Int) then (6 : Int) else ((ns.map V.int).length : Int)) else 2) = N ∧ 2 ≤ N ∧ N ≤ 6 := ⟨_, rfl, by split <;> (try split) <;> omega, by split <;> (try split) <;> omega⟩
    have hS1 := s1.seq hS
    refine ⟨_, rfl, a, _, rfl, .inl hS1, _, _, rfl, _, _, rfl, N, congrArg (fun z => [V.int z]) eN, by omega, by omega, ?_⟩
    refine for_range (lo := 0) (n := N.toNat) (fun i σ H2 => ∃ x1 : Option V, σ = [some (.ref a), x1] ∧ Same H1 H2) ⟨none, rfl, Same.refl _⟩ ?_ ?_
    · rintro i σ H2 hi ⟨x1, rfl, s2⟩
      refine ⟨_, rfl, _, rfl, a, ns, _, rfl, s2.seq hS1, by omega, by omega, by omega, fun p H3 sm3 np tk => ?_⟩
      refine ⟨p, rfl, tk, fun H4 go => ⟨_, rfl, ?_⟩⟩
      have sm4 : Same H2 H4 := fun b o e => go.keep b o (by simpa using ne_of_none e np) (sm3 b o e)
      exact ⟨_, rfl, s2.trans sm4⟩
    · rintro σ H2 ⟨x1, rfl, s2⟩
      exact q _
end

end LW

set_option Elab.async false
set_option linter.all false
set_option maxRecDepth 100000
set_option maxHeartbeats 4000100
set_option exponentiation.threshold 9000
namespace LW
open L2 PySem.Spec PyProof.Rows PySem
/-- the class Rule -/
structure RuK (K : PySem.W.Frag) (c : Addr) : Prop where
  mark : ∃ (f : Addr) (fd : FuncData), Fun K "mark" "Rule.mark" s_Rule_mark f fd ∧ Meth K c "mark" f
  init : ∃ (f : Addr) (fd : FuncData), Fun K "__init__" "Rule.__init__" s_Rule___init__ f fd ∧ Mk K c f
  read : ∃ (mc : Value) (p f : Addr) (fd : FuncData), Fun K "read" "Rule.read" s_Rule_read f fd ∧ SMet K c mc "read" p f
/-- marks as integers -/
structure WhK (K : PySem.W.Frag) (c : Addr) : Prop where
  whole : ∃ (f : Addr) (fd : FuncData), Fun K "whole_mark" "Rule.whole_mark" s_Rule_whole_mark f fd ∧ Meth K c "whole_mark" f
/-- rules compared with == -/
structure EqK (K : PySem.W.Frag) (c : Addr) : Prop where
  eq : ∃ (f : Addr) (fd : FuncData), Fun K "__eq__" "Rule.__eq__" s_Rule___eq__ f fd ∧ Meth K c "__eq__" f
  ne : PySem.W.findIn K (.ref c) "__ne__" = some (some (.builtin "object.__ne__"))
theorem finishL {l : PySem.W.OpenLaw} {w : World} {K : PySem.W.Frag} {h : Heap} {mg : Str → Option Value} {fa c : Addr} (X : K.In h) (G : h.Ns mainGlobals mg) (hfa : mg "law" = some (.ref fa)) (B : Bl mg) (T : Tx K mg c) (RK : RuK K c) (CI : ClsI K c) (WK : WhK K c) (TM : TxM mg) (EK : EqK K c) (D_is_int : OwnDef K mg "is_int" s_is_int) (D_is_count : OwnDef K mg "is_count" s_is_count) (D_is_number : OwnDef K mg "is_number" s_is_number) (D_as_pair : OwnDef K mg "as_pair" s_as_pair) (D_lowest : OwnDef K mg "lowest" s_lowest) (D_is_less : OwnDef K mg "is_less" s_is_less) (D__int_text : OwnDef K mg "_int_text" s__int_text) (D__read_int : OwnDef K mg "_read_int" s__read_int) (D_is_digits : OwnDef K mg "is_digits" s_is_digits) (D_number_text : OwnDef K mg "number_text" s_number_text) (D_read_number : OwnDef K mg "read_number" s_read_number) (D__is_offset : OwnDef K mg "_is_offset" s__is_offset) (D__plain_mark : OwnDef K mg "_plain_mark" s__plain_mark) (D__is_next_mark : OwnDef K mg "_is_next_mark" s__is_next_mark) (D__lowest_head : OwnDef K mg "_lowest_head" s__lowest_head) (D_common_bottom : OwnDef K mg "common_bottom" s_common_bottom) (D_quotient : OwnDef K mg "quotient" s_quotient) (D_check_rule : OwnDef K mg "check_rule" s_check_rule) (D__check_rules : OwnDef K mg "_check_rules" s__check_rules) (D__ratio : OwnDef K mg "_ratio" s__ratio) (D_items_at_0 : OwnDef K mg "items_at_0" s_items_at_0) (D__difference : OwnDef K mg "_difference" s__difference) (D_first_difference : OwnDef K mg "first_difference" s_first_difference) (D_same_divisions : OwnDef K mg "same_divisions" s_same_divisions) (D_first_unkind : OwnDef K mg "first_unkind" s_first_unkind) (D_check_count : OwnDef K mg "check_count" s_check_count) (D_check_at_most : OwnDef K mg "check_at_most" s_check_at_most) (D__borders : OwnDef K mg "_borders" s__borders) (D__greatest_lead : OwnDef K mg "_greatest_lead" s__greatest_lead) (D_most_apart : OwnDef K mg "most_apart" s_most_apart) (D__law_pool : OwnDef K mg "_law_pool" s__law_pool) (D__law_draw : OwnDef K mg "_law_draw" s__law_draw) (D__law_pick : OwnDef K mg "_law_pick" s__law_pick) (D__law_rule : OwnDef K mg "_law_rule" s__law_rule) (D__law_common : OwnDef K mg "_law_common" s__law_common) (D__law_word : OwnDef K mg "_law_word" s__law_word) (D__law_made : OwnDef K mg "_law_made" s__law_made) (D__law_longer : OwnDef K mg "_law_longer" s__law_longer) (D__law_moved : OwnDef K mg "_law_moved" s__law_moved) (D__law_same : OwnDef K mg "_law_same" s__law_same) (D__law_unlike : OwnDef K mg "_law_unlike" s__law_unlike) (D__law_plain_right : OwnDef K mg "_law_plain_right" s__law_plain_right) (D__law_right : OwnDef K mg "_law_right" s__law_right) (D_law : OwnDef K mg "law" s_law) :
    ∃ fd : FuncData, (∀ (s : Shared) (u : Value), BindsTo s fd ⟨[u], []⟩ [("_law_script", u)]) ∧ ∀ base : Heap, K.In base → base.Ns mainGlobals mg → FnG l.prog w K mg base CX0 35 fa fd ["_law_script"] (sp_law K) := by
  obtain ⟨f, fd, F, hm⟩ := D_law.ex
  have e := hfa.symm.trans hm
  cases e
  have F0 := F
  obtain ⟨oc, od, kV, doc, pm, an, cdv, ct, osl,
        rfl, lk, hcd⟩ := F.ex
  refine ⟨PySem.W.fnOf "law" "law" (defArgs s_law) (defBody s_law) (defScope s_law) .none kV doc pm an cdv ct, fun s u => .of_eq rfl, fun base _ _ => ?_⟩
  have C_is_int : Cal l.prog w K mg base 1 "is_int" (sp_is_int K c) [] := cal_is_int B D_is_int
  have C_is_count : Cal l.prog w K mg base 2 "is_count" (sp_is_count K c) [] := cal_is_count B D_is_count C_is_int
  have C_is_number : Cal l.prog w K mg base 2 "is_number" (sp_is_number K c) [] := cal_is_number B D_is_number C_is_int
  have C_as_pair : Cal l.prog w K mg base 1 "as_pair" (sp_as_pair K c) [] := cal_as_pair B D_as_pair
  have C_lowest : Cal l.prog w K mg base 2 "lowest" (sp_lowest K c) [] := cal_lowest B D_lowest C_as_pair T
  have C_is_less : Cal l.prog w K mg base 1 "is_less" (sp_is_less K c) [] := cal_is_less B D_is_less
  have C__int_text : Cal l.prog w K mg base 1 "_int_text" (sp__int_text K c) [] := cal__int_text B D__int_text  T
  have C__read_int : Cal l.prog w K mg base 1 "_read_int" (sp__read_int K c) [] := cal__read_int B D__read_int  T
  have C_is_digits : Cal l.prog w K mg base 1 "is_digits" (sp_is_digits K c) [] := cal_is_digits B D_is_digits
  have C_number_text : Cal l.prog w K mg base 2 "number_text" (sp_number_text K c) [] := cal_number_text B D_number_text C__int_text
  have C_read_number : Cal l.prog w K mg base 3 "read_number" (sp_read_number K c) [] := cal_read_number B D_read_number C__read_int C_lowest C_is_number C_number_text C_is_digits
  have C__is_offset : Cal l.prog w K mg base 3 "_is_offset" (sp__is_offset K c) [] := cal__is_offset B D__is_offset C_lowest C_is_number
  have C__plain_mark : Cal l.prog w K mg base 1 "_plain_mark" (sp__plain_mark K c) [] := cal__plain_mark B D__plain_mark
  have C__is_next_mark : Cal l.prog w K mg base 3 "_is_next_mark" (sp__is_next_mark K c) [] := cal__is_next_mark B D__is_next_mark C_lowest C_is_number C_is_less
  have C__lowest_head : Cal l.prog w K mg base 4 "_lowest_head" (sp__lowest_head K c) [] := cal__lowest_head B D__lowest_head C__is_next_mark C_lowest C_is_less C__plain_mark T
  have C_common_bottom : Cal l.prog w K mg base 1 "common_bottom" (sp_common_bottom K c) [] := cal_common_bottom B D_common_bottom  T
  obtain ⟨fm, fdm, Fm, mem⟩ := RK.mark
  obtain ⟨fi, fdi, Fi, Mki⟩ := RK.init
  obtain ⟨mc, p, fr, fdr, Fr, smr⟩ := RK.read
  obtain ⟨M_mark, Ok_mark⟩ : Met l.prog w K mg base 3 c "mark" (sp_Rule_mark K c) ∧ FnOk l.prog w K mg base CX0 3 fm fdm ["self", "number"] (sp_Rule_mark K c) := met_Rule_mark B T Fm mem C__plain_mark C_is_count
  have MR := mak_Rule B T Fi Mki C__is_offset C_lowest C__lowest_head C_common_bottom M_mark
  have SR := sta_read B T Fr smr C_read_number MR
  obtain ⟨fw, fdw, Fw, mew⟩ := WK.whole
  obtain ⟨M_whole, _⟩ : Met l.prog w K mg base 1 c "whole_mark" (sp_Rule_whole_mark K c) ∧ FnOk l.prog w K mg base CX0 1 fw fdw ["self", "number"] (sp_Rule_whole_mark K c) := met_Rule_whole_mark B T Fw mew
  have C_quotient : Cal l.prog w K mg base 1 "quotient" (sp_quotient K c) [] := cal_quotient B D_quotient
  have C_check_rule : Cal l.prog w K mg base 1 "check_rule" (sp_check_rule K c) [] := cal_check_rule B D_check_rule  T CI
  have C__check_rules : Cal l.prog w K mg base 2 "_check_rules" (sp__check_rules K c) [] := cal__check_rules B D__check_rules C_check_rule
  have C__ratio : Cal l.prog w K mg base 4 "_ratio" (sp__ratio K c) [] := cal__ratio B D__ratio C_quotient M_mark
  have C_items_at_0 : Cal l.prog w K mg base 2 "items_at_0" (sp_items_at_0 K c) [] := cal_items_at_0 B D_items_at_0  M_whole
  have C__difference : Cal l.prog w K mg base 5 "_difference" (sp__difference K c) [] := cal__difference B D__difference C_is_less C__ratio M_mark
  have C_first_difference : Cal l.prog w K mg base 6 "first_difference" (sp_first_difference K c) [] := cal_first_difference B D_first_difference C__check_rules C_items_at_0 C__difference T
  have C_same_divisions : Cal l.prog w K mg base 7 "same_divisions" (sp_same_divisions K c) [] := cal_same_divisions B D_same_divisions C_first_difference
  have C_first_unkind : Cal l.prog w K mg base 5 "first_unkind" (sp_first_unkind K c) [] := cal_first_unkind B D_first_unkind C__check_rules C_is_less C__ratio T
  have C_check_count : Cal l.prog w K mg base 3 "check_count" (sp_check_count K c) [] := cal_check_count B D_check_count C_is_count
  have C_check_at_most : Cal l.prog w K mg base 1 "check_at_most" (sp_check_at_most K c) [] := cal_check_at_most B D_check_at_most
  have C__borders : Cal l.prog w K mg base 5 "_borders" (sp__borders K c) [] := cal__borders B D__borders C__ratio
  have C__greatest_lead : Cal l.prog w K mg base 2 "_greatest_lead" (sp__greatest_lead K c) [] := cal__greatest_lead B D__greatest_lead C_is_less
  have C_most_apart : Cal l.prog w K mg base 6 "most_apart" (sp_most_apart K c) [] := cal_most_apart B D_most_apart C__check_rules C_check_count C_check_at_most C__greatest_lead C__borders TM
  have CR_first_difference := calR_first_difference (P := l.prog) (w := w) (base := base) B D_first_difference C__check_rules C_items_at_0 C__difference T
  obtain ⟨fe, fde, Fe, me⟩ := EK.eq
  have OE : OwnEqs l.prog w K mg base 1 c (sp_Rule_eq K c) := ⟨⟨fe, fde, _, ok_Rule_eq B T CI Fe, me.at_, me.fn, Fe.binds (fun _ _ _ _ _ _ us hl => match us, hl with | [_, _], _ => rfl)⟩, EK.ne, CI.mr⟩
  have C__law_pool : Cal l.prog w K mg base 1 "_law_pool" (sp__law_pool K c) [] := cal__law_pool B D__law_pool
  have C__law_draw : Cal l.prog w K mg base 1 "_law_draw" (sp__law_draw K c) [] := cal__law_draw B D__law_draw
  have C__law_pick : Cal l.prog w K mg base 2 "_law_pick" (sp__law_pick K c) [] := cal__law_pick B D__law_pick C__law_draw
  have C__law_rule : Cal l.prog w K mg base 3 "_law_rule" (sp__law_rule K c) [] := cal__law_rule B D__law_rule C__law_pick C__law_draw
  have C__law_common : Cal l.prog w K mg base 1 "_law_common" (sp__law_common K c) [] := cal__law_common B D__law_common
  have C__law_word : Cal l.prog w K mg base 2 "_law_word" (sp__law_word K c) [] := cal__law_word B D__law_word C__law_common
  have C__law_made : Cal l.prog w K mg base 18 "_law_made" (sp__law_made K c) [] := cal__law_made B D__law_made C__law_word SR
  have C__law_longer : Cal l.prog w K mg base 1 "_law_longer" (sp__law_longer K c) [] := cal__law_longer B D__law_longer
  have C__law_moved : Cal l.prog w K mg base 2 "_law_moved" (sp__law_moved K c) [] := cal__law_moved B D__law_moved C__law_draw
  have C__law_same := calG__law_same B D__law_same C_first_difference C_same_divisions C_first_unkind C_most_apart OE
  have C__law_unlike : Cal l.prog w K mg base 16 "_law_unlike" (sp__law_unlike K c) [] := cal__law_unlike B D__law_unlike C_first_difference C_same_divisions C_first_unkind OE CR_first_difference
  have C__law_plain_right := calG__law_plain_right B D__law_plain_right C__law_draw C__law_same MR
  have C__law_right := calG__law_right B D__law_right C__law_rule C__law_draw C__law_pick C__law_longer C__law_made C__law_moved C__law_same C__law_unlike C__law_plain_right
  exact ok_law B F0 C__law_pool C__law_right

end LW

set_option Elab.async false
set_option linter.all false
set_option maxRecDepth 100000
set_option maxHeartbeats 4000100
namespace LW
theorem ofK {K : PySem.W.Frag} {h : PySem.Heap} (X : K.In h) {B : PySem.W.Frag → Prop} (x : B K) : B K := x
end LW
open PySem.W PyProof.Rows PySem
set_option maxRecDepth 100100 in
set_option maxHeartbeats 0 in
theorem PySem.Challenge.cw_wholeshares_k22_whole_rules_written_othe_holds : PySem.Challenge.rw_wholeshares_k22_whole_rules_written_othe.Holds := by
  w_on; o_law; k_head
  (case hw => w_witness2)
  k_fill
  refine LW.law_walk (l := PySem.Challenge.rw_wholeshares_k22_whole_rules_written_othe) (n := 63) (k := 35) (x := "_law_script") (sp := LW.sp_law) rfl (by decide) rfl ⟨rfl, by decide, by decide⟩ (fun w h Y => by first | exact PySem.W.kIn_of Y | exact PySem.W.km_in_of Y) ?F (fun _ _ a ns hl hS => ⟨a, ns, rfl, hS, hl, fun _ => rfl⟩)
  case F =>
    intro w mg fa h KX G XH hmg
    have B : LW.Bl mg := by
      constructor <;> exact PySem.W.mg_none_of KX G (by k_is)
    have D_is_int := LW.ofK KX (B := fun K => LW.OwnDef K mg "is_int" LW.s_is_int) (by
      refine' LW.own_mk KX G ?a ?l ?c ?k
      (case a => first | k_is | rfl | decide +kernel)
      (case l => first | k_is | rfl | decide +kernel)
      (case c => first | k_is | rfl | decide +kernel)
      (case k => first | k_is | rfl | decide +kernel))
    have D_is_count := LW.ofK KX (B := fun K => LW.OwnDef K mg "is_count" LW.s_is_count) (by
      refine' LW.own_mk KX G ?a ?l ?c ?k
      (case a => first | k_is | rfl | decide +kernel)
      (case l => first | k_is | rfl | decide +kernel)
      (case c => first | k_is | rfl | decide +kernel)
      (case k => first | k_is | rfl | decide +kernel))
    have D_is_number := LW.ofK KX (B := fun K => LW.OwnDef K mg "is_number" LW.s_is_number) (by
      refine' LW.own_mk KX G ?a ?l ?c ?k
      (case a => first | k_is | rfl | decide +kernel)
      (case l => first | k_is | rfl | decide +kernel)
      (case c => first | k_is | rfl | decide +kernel)
      (case k => first | k_is | rfl | decide +kernel))
    have D_as_pair := LW.ofK KX (B := fun K => LW.OwnDef K mg "as_pair" LW.s_as_pair) (by
      refine' LW.own_mk KX G ?a ?l ?c ?k
      (case a => first | k_is | rfl | decide +kernel)
      (case l => first | k_is | rfl | decide +kernel)
      (case c => first | k_is | rfl | decide +kernel)
      (case k => first | k_is | rfl | decide +kernel))
    have D_lowest := LW.ofK KX (B := fun K => LW.OwnDef K mg "lowest" LW.s_lowest) (by
      refine' LW.own_mk KX G ?a ?l ?c ?k
      (case a => first | k_is | rfl | decide +kernel)
      (case l => first | k_is | rfl | decide +kernel)
      (case c => first | k_is | rfl | decide +kernel)
      (case k => first | k_is | rfl | decide +kernel))
    have D_is_less := LW.ofK KX (B := fun K => LW.OwnDef K mg "is_less" LW.s_is_less) (by
      refine' LW.own_mk KX G ?a ?l ?c ?k
      (case a => first | k_is | rfl | decide +kernel)
      (case l => first | k_is | rfl | decide +kernel)
      (case c => first | k_is | rfl | decide +kernel)
      (case k => first | k_is | rfl | decide +kernel))
    have D__int_text := LW.ofK KX (B := fun K => LW.OwnDef K mg "_int_text" LW.s__int_text) (by
      refine' LW.own_mk KX G ?a ?l ?c ?k
      (case a => first | k_is | rfl | decide +kernel)
      (case l => first | k_is | rfl | decide +kernel)
      (case c => first | k_is | rfl | decide +kernel)
      (case k => first | k_is | rfl | decide +kernel))
    have D__read_int := LW.ofK KX (B := fun K => LW.OwnDef K mg "_read_int" LW.s__read_int) (by
      refine' LW.own_mk KX G ?a ?l ?c ?k
      (case a => first | k_is | rfl | decide +kernel)
      (case l => first | k_is | rfl | decide +kernel)
      (case c => first | k_is | rfl | decide +kernel)
      (case k => first | k_is | rfl | decide +kernel))
    have D_is_digits := LW.ofK KX (B := fun K => LW.OwnDef K mg "is_digits" LW.s_is_digits) (by
      refine' LW.own_mk KX G ?a ?l ?c ?k
      (case a => first | k_is | rfl | decide +kernel)
      (case l => first | k_is | rfl | decide +kernel)
      (case c => first | k_is | rfl | decide +kernel)
      (case k => first | k_is | rfl | decide +kernel))
    have D_number_text := LW.ofK KX (B := fun K => LW.OwnDef K mg "number_text" LW.s_number_text) (by
      refine' LW.own_mk KX G ?a ?l ?c ?k
      (case a => first | k_is | rfl | decide +kernel)
      (case l => first | k_is | rfl | decide +kernel)
      (case c => first | k_is | rfl | decide +kernel)
      (case k => first | k_is | rfl | decide +kernel))
    have D_read_number := LW.ofK KX (B := fun K => LW.OwnDef K mg "read_number" LW.s_read_number) (by
      refine' LW.own_mk KX G ?a ?l ?c ?k
      (case a => first | k_is | rfl | decide +kernel)
      (case l => first | k_is | rfl | decide +kernel)
      (case c => first | k_is | rfl | decide +kernel)
      (case k => first | k_is | rfl | decide +kernel))
    have D__is_offset := LW.ofK KX (B := fun K => LW.OwnDef K mg "_is_offset" LW.s__is_offset) (by
      refine' LW.own_mk KX G ?a ?l ?c ?k
      (case a => first | k_is | rfl | decide +kernel)
      (case l => first | k_is | rfl | decide +kernel)
      (case c => first | k_is | rfl | decide +kernel)
      (case k => first | k_is | rfl | decide +kernel))
    have D__plain_mark := LW.ofK KX (B := fun K => LW.OwnDef K mg "_plain_mark" LW.s__plain_mark) (by
      refine' LW.own_mk KX G ?a ?l ?c ?k
      (case a => first | k_is | rfl | decide +kernel)
      (case l => first | k_is | rfl | decide +kernel)
      (case c => first | k_is | rfl | decide +kernel)
      (case k => first | k_is | rfl | decide +kernel))
    have D__is_next_mark := LW.ofK KX (B := fun K => LW.OwnDef K mg "_is_next_mark" LW.s__is_next_mark) (by
      refine' LW.own_mk KX G ?a ?l ?c ?k
      (case a => first | k_is | rfl | decide +kernel)
      (case l => first | k_is | rfl | decide +kernel)
      (case c => first | k_is | rfl | decide +kernel)
      (case k => first | k_is | rfl | decide +kernel))
    have D__lowest_head := LW.ofK KX (B := fun K => LW.OwnDef K mg "_lowest_head" LW.s__lowest_head) (by
      refine' LW.own_mk KX G ?a ?l ?c ?k
      (case a => first | k_is | rfl | decide +kernel)
      (case l => first | k_is | rfl | decide +kernel)
      (case c => first | k_is | rfl | decide +kernel)
      (case k => first | k_is | rfl | decide +kernel))
    have D_common_bottom := LW.ofK KX (B := fun K => LW.OwnDef K mg "common_bottom" LW.s_common_bottom) (by
      refine' LW.own_mk KX G ?a ?l ?c ?k
      (case a => first | k_is | rfl | decide +kernel)
      (case l => first | k_is | rfl | decide +kernel)
      (case c => first | k_is | rfl | decide +kernel)
      (case k => first | k_is | rfl | decide +kernel))
    have D_quotient := LW.ofK KX (B := fun K => LW.OwnDef K mg "quotient" LW.s_quotient) (by
      refine' LW.own_mk KX G ?a ?l ?c ?k
      (case a => first | k_is | rfl | decide +kernel)
      (case l => first | k_is | rfl | decide +kernel)
      (case c => first | k_is | rfl | decide +kernel)
      (case k => first | k_is | rfl | decide +kernel))
    have D_check_rule := LW.ofK KX (B := fun K => LW.OwnDef K mg "check_rule" LW.s_check_rule) (by
      refine' LW.own_mk KX G ?a ?l ?c ?k
      (case a => first | k_is | rfl | decide +kernel)
      (case l => first | k_is | rfl | decide +kernel)
      (case c => first | k_is | rfl | decide +kernel)
      (case k => first | k_is | rfl | decide +kernel))
    have D__check_rules := LW.ofK KX (B := fun K => LW.OwnDef K mg "_check_rules" LW.s__check_rules) (by
      refine' LW.own_mk KX G ?a ?l ?c ?k
      (case a => first | k_is | rfl | decide +kernel)
      (case l => first | k_is | rfl | decide +kernel)
      (case c => first | k_is | rfl | decide +kernel)
      (case k => first | k_is | rfl | decide +kernel))
    have D__ratio := LW.ofK KX (B := fun K => LW.OwnDef K mg "_ratio" LW.s__ratio) (by
      refine' LW.own_mk KX G ?a ?l ?c ?k
      (case a => first | k_is | rfl | decide +kernel)
      (case l => first | k_is | rfl | decide +kernel)
      (case c => first | k_is | rfl | decide +kernel)
      (case k => first | k_is | rfl | decide +kernel))
    have D_items_at_0 := LW.ofK KX (B := fun K => LW.OwnDef K mg "items_at_0" LW.s_items_at_0) (by
      refine' LW.own_mk KX G ?a ?l ?c ?k
      (case a => first | k_is | rfl | decide +kernel)
      (case l => first | k_is | rfl | decide +kernel)
      (case c => first | k_is | rfl | decide +kernel)
      (case k => first | k_is | rfl | decide +kernel))
    have D__difference := LW.ofK KX (B := fun K => LW.OwnDef K mg "_difference" LW.s__difference) (by
      refine' LW.own_mk KX G ?a ?l ?c ?k
      (case a => first | k_is | rfl | decide +kernel)
      (case l => first | k_is | rfl | decide +kernel)
      (case c => first | k_is | rfl | decide +kernel)
      (case k => first | k_is | rfl | decide +kernel))
    have D_first_difference := LW.ofK KX (B := fun K => LW.OwnDef K mg "first_difference" LW.s_first_difference) (by
      refine' LW.own_mk KX G ?a ?l ?c ?k
      (case a => first | k_is | rfl | decide +kernel)
      (case l => first | k_is | rfl | decide +kernel)
      (case c => first | k_is | rfl | decide +kernel)
      (case k => first | k_is | rfl | decide +kernel))
    have D_same_divisions := LW.ofK KX (B := fun K => LW.OwnDef K mg "same_divisions" LW.s_same_divisions) (by
      refine' LW.own_mk KX G ?a ?l ?c ?k
      (case a => first | k_is | rfl | decide +kernel)
      (case l => first | k_is | rfl | decide +kernel)
      (case c => first | k_is | rfl | decide +kernel)
      (case k => first | k_is | rfl | decide +kernel))
    have D_first_unkind := LW.ofK KX (B := fun K => LW.OwnDef K mg "first_unkind" LW.s_first_unkind) (by
      refine' LW.own_mk KX G ?a ?l ?c ?k
      (case a => first | k_is | rfl | decide +kernel)
      (case l => first | k_is | rfl | decide +kernel)
      (case c => first | k_is | rfl | decide +kernel)
      (case k => first | k_is | rfl | decide +kernel))
    have D_check_count := LW.ofK KX (B := fun K => LW.OwnDef K mg "check_count" LW.s_check_count) (by
      refine' LW.own_mk KX G ?a ?l ?c ?k
      (case a => first | k_is | rfl | decide +kernel)
      (case l => first | k_is | rfl | decide +kernel)
      (case c => first | k_is | rfl | decide +kernel)
      (case k => first | k_is | rfl | decide +kernel))
    have D_check_at_most := LW.ofK KX (B := fun K => LW.OwnDef K mg "check_at_most" LW.s_check_at_most) (by
      refine' LW.own_mk KX G ?a ?l ?c ?k
      (case a => first | k_is | rfl | decide +kernel)
      (case l => first | k_is | rfl | decide +kernel)
      (case c => first | k_is | rfl | decide +kernel)
      (case k => first | k_is | rfl | decide +kernel))
    have D__borders := LW.ofK KX (B := fun K => LW.OwnDef K mg "_borders" LW.s__borders) (by
      refine' LW.own_mk KX G ?a ?l ?c ?k
      (case a => first | k_is | rfl | decide +kernel)
      (case l => first | k_is | rfl | decide +kernel)
      (case c => first | k_is | rfl | decide +kernel)
      (case k => first | k_is | rfl | decide +kernel))
    have D__greatest_lead := LW.ofK KX (B := fun K => LW.OwnDef K mg "_greatest_lead" LW.s__greatest_lead) (by
      refine' LW.own_mk KX G ?a ?l ?c ?k
      (case a => first | k_is | rfl | decide +kernel)
      (case l => first | k_is | rfl | decide +kernel)
      (case c => first | k_is | rfl | decide +kernel)
      (case k => first | k_is | rfl | decide +kernel))
    have D_most_apart := LW.ofK KX (B := fun K => LW.OwnDef K mg "most_apart" LW.s_most_apart) (by
      refine' LW.own_mk KX G ?a ?l ?c ?k
      (case a => first | k_is | rfl | decide +kernel)
      (case l => first | k_is | rfl | decide +kernel)
      (case c => first | k_is | rfl | decide +kernel)
      (case k => first | k_is | rfl | decide +kernel))
    have D__law_pool := LW.ofK KX (B := fun K => LW.OwnDef K mg "_law_pool" LW.s__law_pool) (by
      refine' LW.own_mk KX G ?a ?l ?c ?k
      (case a => first | k_is | rfl | decide +kernel)
      (case l => first | k_is | rfl | decide +kernel)
      (case c => first | k_is | rfl | decide +kernel)
      (case k => first | k_is | rfl | decide +kernel))
    have D__law_draw := LW.ofK KX (B := fun K => LW.OwnDef K mg "_law_draw" LW.s__law_draw) (by
      refine' LW.own_mk KX G ?a ?l ?c ?k
      (case a => first | k_is | rfl | decide +kernel)
      (case l => first | k_is | rfl | decide +kernel)
      (case c => first | k_is | rfl | decide +kernel)
      (case k => first | k_is | rfl | decide +kernel))
    have D__law_pick := LW.ofK KX (B := fun K => LW.OwnDef K mg "_law_pick" LW.s__law_pick) (by
      refine' LW.own_mk KX G ?a ?l ?c ?k
      (case a => first | k_is | rfl | decide +kernel)
      (case l => first | k_is | rfl | decide +kernel)
      (case c => first | k_is | rfl | decide +kernel)
      (case k => first | k_is | rfl | decide +kernel))
    have D__law_rule := LW.ofK KX (B := fun K => LW.OwnDef K mg "_law_rule" LW.s__law_rule) (by
      refine' LW.own_mk KX G ?a ?l ?c ?k
      (case a => first | k_is | rfl | decide +kernel)
      (case l => first | k_is | rfl | decide +kernel)
      (case c => first | k_is | rfl | decide +kernel)
      (case k => first | k_is | rfl | decide +kernel))
    have D__law_common := LW.ofK KX (B := fun K => LW.OwnDef K mg "_law_common" LW.s__law_common) (by
      refine' LW.own_mk KX G ?a ?l ?c ?k
      (case a => first | k_is | rfl | decide +kernel)
      (case l => first | k_is | rfl | decide +kernel)
      (case c => first | k_is | rfl | decide +kernel)
      (case k => first | k_is | rfl | decide +kernel))
    have D__law_word := LW.ofK KX (B := fun K => LW.OwnDef K mg "_law_word" LW.s__law_word) (by
      refine' LW.own_mk KX G ?a ?l ?c ?k
      (case a => first | k_is | rfl | decide +kernel)
      (case l => first | k_is | rfl | decide +kernel)
      (case c => first | k_is | rfl | decide +kernel)
      (case k => first | k_is | rfl | decide +kernel))
    have D__law_made := LW.ofK KX (B := fun K => LW.OwnDef K mg "_law_made" LW.s__law_made) (by
      refine' LW.own_mk KX G ?a ?l ?c ?k
      (case a => first | k_is | rfl | decide +kernel)
      (case l => first | k_is | rfl | decide +kernel)
      (case c => first | k_is | rfl | decide +kernel)
      (case k => first | k_is | rfl | decide +kernel))
    have D__law_longer := LW.ofK KX (B := fun K => LW.OwnDef K mg "_law_longer" LW.s__law_longer) (by
      refine' LW.own_mk KX G ?a ?l ?c ?k
      (case a => first | k_is | rfl | decide +kernel)
      (case l => first | k_is | rfl | decide +kernel)
      (case c => first | k_is | rfl | decide +kernel)
      (case k => first | k_is | rfl | decide +kernel))
    have D__law_moved := LW.ofK KX (B := fun K => LW.OwnDef K mg "_law_moved" LW.s__law_moved) (by
      refine' LW.own_mk KX G ?a ?l ?c ?k
      (case a => first | k_is | rfl | decide +kernel)
      (case l => first | k_is | rfl | decide +kernel)
      (case c => first | k_is | rfl | decide +kernel)
      (case k => first | k_is | rfl | decide +kernel))
    have D__law_same := LW.ofK KX (B := fun K => LW.OwnDef K mg "_law_same" LW.s__law_same) (by
      refine' LW.own_mk KX G ?a ?l ?c ?k
      (case a => first | k_is | rfl | decide +kernel)
      (case l => first | k_is | rfl | decide +kernel)
      (case c => first | k_is | rfl | decide +kernel)
      (case k => first | k_is | rfl | decide +kernel))
    have D__law_unlike := LW.ofK KX (B := fun K => LW.OwnDef K mg "_law_unlike" LW.s__law_unlike) (by
      refine' LW.own_mk KX G ?a ?l ?c ?k
      (case a => first | k_is | rfl | decide +kernel)
      (case l => first | k_is | rfl | decide +kernel)
      (case c => first | k_is | rfl | decide +kernel)
      (case k => first | k_is | rfl | decide +kernel))
    have D__law_plain_right := LW.ofK KX (B := fun K => LW.OwnDef K mg "_law_plain_right" LW.s__law_plain_right) (by
      refine' LW.own_mk KX G ?a ?l ?c ?k
      (case a => first | k_is | rfl | decide +kernel)
      (case l => first | k_is | rfl | decide +kernel)
      (case c => first | k_is | rfl | decide +kernel)
      (case k => first | k_is | rfl | decide +kernel))
    have D__law_right := LW.ofK KX (B := fun K => LW.OwnDef K mg "_law_right" LW.s__law_right) (by
      refine' LW.own_mk KX G ?a ?l ?c ?k
      (case a => first | k_is | rfl | decide +kernel)
      (case l => first | k_is | rfl | decide +kernel)
      (case c => first | k_is | rfl | decide +kernel)
      (case k => first | k_is | rfl | decide +kernel))
    have D_law := LW.ofK KX (B := fun K => LW.OwnDef K mg "law" LW.s_law) (by
      refine' LW.own_mk KX G ?a ?l ?c ?k
      (case a => first | k_is | rfl | decide +kernel)
      (case l => first | k_is | rfl | decide +kernel)
      (case c => first | k_is | rfl | decide +kernel)
      (case k => first | k_is | rfl | decide +kernel))
    obtain ⟨c, T, RK⟩ := LW.ofK KX (B := fun K => ∃ c, LW.Tx K mg c ∧ LW.RuK K c) (by
      refine' ⟨_, ⟨⟨?pg, ?hd, ?po, ?sa⟩, ?nO, ?nH, ?nS, ?nU, ?nW, ?nX, PySem.W.mg_of KX G ?g, XH.1.drawn ("gcd", .fn "math.gcd") ?dr, XH.1.drawn ("lcm", .fn "math.lcm") ?dl, ?gB, ⟨_, PySem.W.mg_of KX G ?gD⟩, ⟨_, PySem.W.mg_of KX G ?gM⟩⟩, ⟨⟨_, _, L2.fun_mk ?l1 ?c1 ?k1, ⟨?m1, ?i1, ?k2⟩⟩, ⟨_, _, L2.fun_mk ?l3 ?c3 ?k3, ⟨?mk, ?in3, ?i3, ?kc⟩⟩, ⟨.type "type", _, _, _, L2.fun_mk ?l4 ?c4 ?k4, ⟨⟨?rd, ?ga⟩, ?at4, ⟨_, ?rc⟩, ?kp⟩⟩⟩⟩
      (case g => first | k_is | rfl | decide +kernel)
      (case pg => first | k_is | rfl | decide +kernel)
      (case hd => first | k_is | rfl | decide +kernel)
      (case po => first | k_is | rfl | decide +kernel)
      (case sa => first | k_is | rfl | decide +kernel)
      (case nO => first | k_is | rfl | decide +kernel)
      (case nH => first | k_is | rfl | decide +kernel)
      (case nS => first | k_is | rfl | decide +kernel)
      (case nU => first | k_is | rfl | decide +kernel)
      (case nW => first | k_is | rfl | decide +kernel)
      (case nX => first | k_is | rfl | decide +kernel)
      (case dr => exact List.Mem.head _)
      (case dl => exact List.Mem.tail _ (List.Mem.head _))
      (case gB => obtain ⟨v, e1, e2⟩ := XH.2.val _ (List.mem_singleton.mpr rfl); cases e2; exact ⟨_, e1⟩)
      (case gD => first | k_is | rfl | decide +kernel)
      (case gM => first | k_is | rfl | decide +kernel)
      (case m1 => first | k_is | rfl | decide +kernel)
      (case i1 => first | k_is | rfl | decide +kernel)
      (case k2 => first | k_is | rfl | decide +kernel)
      (case l1 => first | k_is | rfl | decide +kernel)
      (case c1 => first | k_is | rfl | decide +kernel)
      (case k1 => first | k_is | rfl | decide +kernel)
      (case in3 => first | k_is | rfl | decide +kernel)
      (case i3 => first | k_is | rfl | decide +kernel)
      (case mk => first | k_is | rfl | decide +kernel)
      (case kc => first | k_is | rfl | decide +kernel)
      (case l3 => first | k_is | rfl | decide +kernel)
      (case c3 => first | k_is | rfl | decide +kernel)
      (case k3 => first | k_is | rfl | decide +kernel)
      (case ga => first | k_is | rfl | decide +kernel)
      (case rd => first | k_is | rfl | decide +kernel)
      (case at4 => first | k_is | rfl | decide +kernel)
      (case rc => first | k_is | rfl | decide +kernel)
      (case kp => first | k_is | rfl | decide +kernel)
      (case l4 => first | k_is | rfl | decide +kernel)
      (case c4 => first | k_is | rfl | decide +kernel)
      (case k4 => first | k_is | rfl | decide +kernel))
    have CI : LW.ClsI _ c := (by
      have hc : mg "Rule" = some (.ref c) := T.g_Rule
      obtain ⟨c', hc', q⟩ := LW.ofK KX (B := fun K => ∃ c', mg "Rule" = some (.ref c') ∧ LW.ClsI K c') (by
        refine' ⟨_, PySem.W.mg_of KX G ?g, ⟨?ca, ?sp, ?tk, ?mr⟩⟩
        (case g => first | k_is | rfl | decide +kernel)
        (case ca => first | k_is | rfl | decide +kernel)
        (case sp => first | k_is | rfl | decide +kernel)
        (case tk => first | k_is | rfl | decide +kernel)
        (case mr => first | k_is | rfl | decide +kernel))
      have e := hc.symm.trans hc'
      cases e
      exact q)
    have WK : LW.WhK _ c := (by
      have hc : mg "Rule" = some (.ref c) := T.g_Rule
      obtain ⟨c', hc', q⟩ := LW.ofK KX (B := fun K => ∃ c', mg "Rule" = some (.ref c') ∧ LW.WhK K c') (by
        refine' ⟨_, PySem.W.mg_of KX G ?g, ⟨⟨_, _, L2.fun_mk ?l1 ?c1 ?k1, ⟨?m1, ?i1, ?k2⟩⟩⟩⟩
        (case g => first | k_is | rfl | decide +kernel)
        (case m1 => first | k_is | rfl | decide +kernel)
        (case i1 => first | k_is | rfl | decide +kernel)
        (case k2 => first | k_is | rfl | decide +kernel)
        (case l1 => first | k_is | rfl | decide +kernel)
        (case c1 => first | k_is | rfl | decide +kernel)
        (case k1 => first | k_is | rfl | decide +kernel))
      have e := hc.symm.trans hc'
      cases e
      exact q)
    have TM : LW.TxM mg := (by
      refine' ⟨⟨_, PySem.W.mg_of KX G ?gC⟩⟩
      (case gC => first | k_is | rfl | decide +kernel))
    have EK : LW.EqK _ c := (by
      have hc : mg "Rule" = some (.ref c) := T.g_Rule
      obtain ⟨c', hc', q⟩ := LW.ofK KX (B := fun K => ∃ c', mg "Rule" = some (.ref c') ∧ LW.EqK K c') (by
        refine' ⟨_, PySem.W.mg_of KX G ?g, ⟨⟨_, _, L2.fun_mk ?l1 ?c1 ?k1, ⟨?m1, ?i1, ?k2⟩⟩, ?ne⟩⟩
        (case g => first | k_is | rfl | decide +kernel)
        (case m1 => first | k_is | rfl | decide +kernel)
        (case i1 => first | k_is | rfl | decide +kernel)
        (case k2 => first | k_is | rfl | decide +kernel)
        (case l1 => first | k_is | rfl | decide +kernel)
        (case c1 => first | k_is | rfl | decide +kernel)
        (case k1 => first | k_is | rfl | decide +kernel)
        (case ne => first | k_is | rfl | decide +kernel))
      have e := hc.symm.trans hc'
      cases e
      exact q)
    exact LW.finishL KX G hmg B T RK CI WK TM EK D_is_int D_is_count D_is_number D_as_pair D_lowest D_is_less D__int_text D__read_int D_is_digits D_number_text D_read_number D__is_offset D__plain_mark D__is_next_mark D__lowest_head D_common_bottom D_quotient D_check_rule D__check_rules D__ratio D_items_at_0 D__difference D_first_difference D_same_divisions D_first_unkind D_check_count D_check_at_most D__borders D__greatest_lead D_most_apart D__law_pool D__law_draw D__law_pick D__law_rule D__law_common D__law_word D__law_made D__law_longer D__law_moved D__law_same D__law_unlike D__law_plain_right D__law_right D_law
