import PyProof.Rows.All
import Wide.All
import OpenK.AllK
import Wide.FinOn
import PySem.Challenge.RW_wholeshares_k05_errors_and_limits
import HandS.ForMost
import HandS.ForExc
import HandS.Codes
import HandS.Gcd
import HandS.Wide
import HandS.WideBits
import HandS.RaiseMore
import HandS.StrMore
import HandS.FStr
import HandS.IsInst
import HandS.Flow
import HandS.Style
import HandS.SortInts
import PyProof.ReprRoads
import KE.GoesEnum
import KE.GoesMore
import HandS.Iter
import HandS.Star
import HandS.ClsMeth
import KE.KStar
import HandS.ExcInit
import HandS.ExcField
import HandS.ExcIs
import HandS.Lambda
import KE.KExcIs
import PyProof.Rows.CountFlat
set_option Elab.async false
set_option linter.all false
set_option maxRecDepth 100000
set_option maxHeartbeats 4000100
/-! views of the abstract heap, data in them -/
namespace LW
open L2 PySem.Spec PyProof.Rows PySem

/-- H without what stands at the addresses of A -/
def hv (A : List Addr) (H : Hp) : Hp := fun b => if b ∈ A then none else H b
theorem hv_in {A : List Addr} {H : Hp} {b : Addr} (h : b ∈ A) : hv A H b = none := if_pos h
theorem hv_out {A : List Addr} {H : Hp} {b : Addr} (h : b ∉ A) : hv A H b = H b := if_neg h
theorem hv_nil {H : Hp} : hv [] H = H := by
  funext b
  exact hv_out (by simp)
theorem hv_le {A : List Addr} {H : Hp} : Same (hv A H) H := fun b o h => by
  by_cases hb : b ∈ A
  · rw [hv_in hb] at h; cases h
  · rw [hv_out hb] at h; exact h
theorem hv_cons_le {A : List Addr} {a : Addr} {H : Hp} : Same (hv (a :: A) H) (hv A H) := fun b o h => by
  by_cases hb : b ∈ a :: A
  · rw [hv_in hb] at h; cases h
  · rw [hv_out hb] at h
    rw [hv_out fun z => hb (List.mem_cons_of_mem _ z)]
    exact h
/-- every address of A is held -/
def Hd (A : List Addr) (H : Hp) : Prop := ∀ a ∈ A, H a ≠ none
theorem Hd.nil {H : Hp} : Hd [] H := fun _ h => by cases h
theorem Hd.cons {A : List Addr} {H : Hp} {a : Addr} {o : HO} (e : H a = some o) (h : Hd A H) : Hd (a :: A) H := fun b hb => by
  rcases List.mem_cons.mp
        hb with z | z
  · subst z; rw [e]; exact fun z => by cases z
  · exact h b z
theorem Hd.out {A : List Addr} {H : Hp} {p : Addr} (h : Hd A H) (n : H p = none) : p ∉ A := fun z => h p z n

/-- all that stood outside A stands as before, and A is still held -/
structure Go (A : List Addr) (H H' : Hp) : Prop where
  keep : ∀ b o, b ∉ A → H b = some o → H' b = some o
  held : Hd A H → Hd A H'
theorem Go.refl {A : List Addr} {H : Hp} : Go A H H := ⟨fun _ _ _ h => h, fun h => h⟩
theorem Go.trans {A : List Addr} {H H1 H2 : Hp} (a : Go A H H1) (b : Go A H1 H2) : Go A H H2 := ⟨fun c o n h => b.keep c o n (a.keep c o n h), fun h => b.held (a.held h)⟩
theorem Go.of {A : List Addr} {H H' : Hp} (s : Same H H') : Go A H H' := ⟨fun b o _ h => s b o h, fun h a ha z => by
  cases q : H a with
  | none => exact h a ha q
  | some o => rw [s a o q] at z; cases z⟩
theorem Go.same {H H' : Hp} (s : Go [] H H') : Same H H' := fun b o h => s.keep b o (by simp) h
theorem Go.hv {A : List Addr} {H H' : Hp} (s : Go A H H') : Same (LW.hv A H) (LW.hv A H') := fun b o h => by
  by_cases hb : b ∈ A
  · rw [hv_in hb] at h; cases h
  · rw [hv_out hb] at h ⊢; exact s.keep b o hb h
theorem Go.free {A : List Addr} {H H' : Hp} (s : Go A H H') (h : Hd A H) {p : Addr} (n : H' p = none) : H p = none := by
  cases q : H p with
  | none => rfl
  | some o =>
    by_cases hp : p ∈ A
    · exact absurd n (s.held h p hp)
    · rw [s.keep p o hp q] at n; cases n
/-- a new thing -/
theorem same_new {H : Hp} {p : Addr} {o : HO} (n : H p = none) : Same H (upd H p o) := fun b u e => by
  rw [upd_ne (ne_of_none e n)]; exact e
theorem Go.new {A : List Addr} {H : Hp} {p : Addr} {o : HO} (n : H p = none) : Go A H (upd H p o) := .of (same_new n)
/-- a change within A -/
theorem Go.chg {A : List Addr} {H : Hp} {p : Addr} {o : HO} (h : p ∈ A) : Go A H (upd H p o) :=
  ⟨fun b u n e => by rw [upd_ne fun z => n (by rw [z]; exact h)]; exact e, fun hd a ha z => by
    by_cases e : a = p
    · subst e; rw [upd_same] at z; cases z
    · rw [upd_ne e] at z; exact hd a ha z⟩
/-- fewer hidden -/
theorem Go.drop {A : List Addr} {a : Addr} {H H' : Hp} (s : Go (a :: A) H H') (h : Hd (a :: A) H) (n : ∀ o, H a = some o → H' a = some o) : Go A H H' :=
  ⟨fun b o hb e => by
    by_cases z : b = a
    · subst z; exact n o e
    · exact s.keep b o (fun y => (List.mem_cons.mp y).elim z hb) e, fun _ b hb => s.held h b (List.mem_cons_of_mem _ hb)⟩
/-- a local thing at a, new since H, is forgotten -/
theorem Go.local {A : List Addr} {a : Addr} {H H1 H2 : Hp} (n : H a = none) (s1 : Go A H H1) (s : Go (a :: A) H1 H2) (hd : Hd (a :: A) H1) : Go A H H2 :=
  ⟨fun b o hb e => s.keep b o (fun y => by
    rcases List.mem_cons.mp y with y | y
    · subst y; rw [n] at e; cases e
    · exact hb y) (s1.keep b o hb e), fun _ b hb => s.held hd b (List.mem_cons_of_mem _ hb)⟩

section
variable {K : PySem.W.Frag} {H H' : Hp}
theorem seqT_same (e : Same H H') {a : Addr} {xs : List V} (h : SqT K H a xs) : SqT K H' a xs := by
  rcases h with (h | ⟨o,
        h⟩) | h
  · exact .inl (.inl (e _ _ h))
  · exact .inl (.inr ⟨o,
        e _ _ h⟩)
  · exact .inr h
end
/-- v is the data d: None, bools, ints, texts, lists, tuples, and the empty dict -/
inductive D (K : PySem.W.Frag) (H : Hp) : V → PyData → Prop
  | non : D K H .non .none
  | bl (b : Bool) : D K H (.bl b) (.bool b)
  | int (i : Int) : D K H (.int i) (.int i)
  | str (x : Str) : D K H (.str x) (.str x)
  | lst {a : Addr} {xs : List V} {ds : List PyData} (h : SqL K H a xs) (len : xs.length = ds.length) (all : ∀ (i : Nat) (v : V) (d : PyData), xs[i]? = some v → ds[i]? = some d → D K H v d) : D K H (.ref a) (.list ds)
  | tup {a : Addr} {xs : List V} {ds : List PyData} (h : SqT K H a xs) (len : xs.length = ds.length) (all : ∀ (i : Nat) (v : V) (d : PyData), xs[i]? = some v → ds[i]? = some d → D K H v d) : D K H (.ref a) (.tuple ds)
  | dct {a : Addr} (h : H a = some (.dK [])) (ne : a ≠ sysModules) : D K H (.ref a) (.dict [])
/-- .. of each -/
structure DAll (K : PySem.W.Frag) (H : Hp) (xs : List V) (ds : List PyData) : Prop where
  len : xs.length = ds.length
  all : ∀ (i : Nat) (v : V) (d : PyData), xs[i]? = some v → ds[i]? = some d → D K H v d
section
variable {K : PySem.W.Frag} {H H' : Hp}
theorem DAll.nil : DAll K H [] [] := ⟨rfl, fun i v d h => by simp at h⟩
theorem DAll.cons {v : V} {d : PyData} {vs : List V} {ds : List PyData} (h : D K H v d) (r : DAll K H vs ds) : DAll K H (v :: vs) (d :: ds) :=
  ⟨by rw [List.length_cons, List.length_cons, r.len], fun i w e h1 h2 => by
    cases i with
    | zero =>
      have e1 : v = w := Option.some.inj h1
      have e2 : d = e := Option.some.inj h2
      rw [← e1, ← e2]
      exact h
    | succ i => exact r.all i w e h1 h2⟩
theorem D.lst' {a : Addr} {xs : List V} {ds : List PyData} (h : SqL K H a xs) (r : DAll K H xs ds) : D K H (.ref a) (.list ds) := .lst h r.len r.all
theorem D.tup' {a : Addr} {xs : List V} {ds : List PyData} (h : SqT K H a xs) (r : DAll K H xs ds) : D K H (.ref a) (.tuple ds) := .tup h r.len r.all
theorem D.same (e : Same H H') {v : V} {d : PyData} (h : D K H v d) : D K H' v d := by
  induction h with
  | non => exact .non
  | bl b => exact .bl b
  | int i => exact .int i
  | str x => exact .str x
  | lst h len all ih => exact .lst (e.seq h) len ih
  | tup h len all ih => exact .tup (seqT_same e h) len ih
  | dct h ne => exact .dct (e _ _ h) ne
theorem DAll.same (e : Same H H') {vs : List V} {ds : List PyData} (h : DAll K H vs ds) : DAll K H' vs ds := ⟨h.len, fun i v d h1 h2 => D.same e (h.all i v d h1 h2)⟩
theorem hasDict_get {d : PyData} : ∀ {ds : List PyData} {i : Nat}, PyData.hasDictAll ds = false → ds[i]? = some d → d.hasDict = false
  | [], _, _, h => by simp at h
  | c :: ds, 0, q, h => by
    have e : c = d := Option.some.inj h
    subst e
    rw [PyData.hasDictAll, Bool.or_eq_false_iff] at q
    exact q.1
  | c :: ds, i + 1, q, h => by
    rw [PyData.hasDictAll, Bool.or_eq_false_iff] at q
    exact hasDict_get (i := i) q.2 h
theorem dpAll_of : ∀ {xs : List V} {ds : List PyData}, xs.length = ds.length → (∀ (i : Nat) (v : V) (d : PyData), xs[i]? = some v → ds[i]? = some d → Dp K H v d) → DpAll K H xs ds
  | [], [], _, _ => .nil
  | [], d :: ds, h, _ => by simp at h
  | v :: xs, [], h, _ => by simp at h
  | v :: xs, d :: ds, h, q => .cons (q 0 v d rfl rfl) (dpAll_of (by simpa using h) fun i w e h1 h2 => q (i + 1) w e h1 h2)
theorem D.dp {v : V} {d : PyData} (h : D K H v d) : d.hasDict = false → Dp K H v d := by
  induction h with
  | non => exact fun _ => .non
  | bl b => exact fun _ => .bl b
  | int i => exact fun _ => .int i
  | str x => exact fun _ => .str x
  | lst h len all ih => exact fun z => .lst h (dpAll_of len fun i v d h1 h2 => ih i v d h1 h2 (hasDict_get (by simpa [PyData.hasDict] using z) h2))
  | tup h len all ih => exact fun z => .tup h (dpAll_of len fun i v d h1 h2 => ih i v d h1 h2 (hasDict_get (by simpa [PyData.hasDict] using z) h2))
  | dct h ne => exact fun z => by simp [PyData.hasDict] at z
end
section
variable {X : Cx} {pins : List (Addr × Obj)} {σ :
      L2.St} {H : Hp} {s : Shared}
theorem readsAll_of {h : Heap} {P : List Addr → Prop} (p0 : P []) (pa : ∀ a b, P a → P b → P (a ++ b)) : ∀ {us : List Value} {ds : List PyData}, us.length = ds.length → (∀ (i : Nat) (u : Value) (d : PyData), us[i]? = some u → ds[i]? = some d → ∃ as, Reads h u d as ∧ P as) → ∃ as, ReadsAll h us ds as ∧ P as
  | [], [], _, _ => ⟨_, .nil, p0⟩
  | [], d :: ds, h, _ => by simp at h
  | v :: xs, [], h, _ => by simp at h
  | v :: xs, d :: ds, h, q => by
    obtain ⟨as, r1, h1⟩ := q 0 v d rfl rfl
    obtain ⟨bs, r2, h2⟩ := readsAll_of p0 pa (us := xs) (ds := ds) (by simpa using h) fun i w e h1 h2 => q (i + 1) w e h1 h2
    exact ⟨_, .cons r1 r2, pa _ _ h1 h2⟩
theorem vals_get' : ∀ {xs : List V} {us : List Value} {i : Nat} {u : Value}, Vals xs us → us[i]? = some u → ∃ x, xs[i]? = some x ∧ RelV x u
  | _, _, _, _, .nil, e =>
        by simp at e
  | _, _, 0, _, .cons r _, e => by
        simp at e; subst e; exact ⟨_, rfl, r⟩
  | _, _, i + 1, x, .cons
        _ t, e => by
    obtain ⟨u, h1, h2⟩ := vals_get' (i := i) (u := x) t (by simpa using e)
    exact ⟨u, by
          simpa using h1, h2⟩
/-- the model's own reading of data -/
theorem D.reads (I : Inv X pins σ H s) {v : V} {d : PyData} (h : D X.K H v d) : ∀ u, RelV v u → ∃ as, Reads s.heap u d as := by
  induction h with
  | non => intro u r; cases r; exact ⟨_, .none⟩
  | bl b => intro u r; cases r; exact ⟨_, .bool b⟩
  | int i => intro u r; obtain ⟨t, rfl⟩ := r; exact ⟨_, .int i t⟩
  | str x => intro u r; obtain ⟨t, rfl⟩ := r; exact ⟨_, .str x t⟩
  | lst h len all ih =>
    intro u r
    cases r
    obtain ⟨its, rv, ⟨o, n, ho, hc, _, hd⟩, _⟩ := I.list h
    obtain ⟨as, hr, _⟩ := readsAll_of (P := fun _ => True) (h := s.heap) (us := its) trivial (fun _ _ _ _ => trivial) (by rw [← rv.length, len]) fun i u d h1 h2 => by
      obtain ⟨x, e, rx⟩ := vals_get' rv h1
      obtain ⟨as, q⟩ := ih i x d e h2 u rx
      exact ⟨as, q, trivial⟩
    exact ⟨_, .list ho hc hd hr⟩
  | tup h len all ih =>
    intro u r
    cases r
    obtain ⟨its, rv, ⟨o, ho, hc, n, hd⟩, _⟩ := I.tuple h
    obtain ⟨as, hr, _⟩ := readsAll_of (P := fun _ => True) (h := s.heap) (us := its) trivial (fun _ _ _ _ => trivial) (by rw [← rv.length, len]) fun i u d h1 h2 => by
      obtain ⟨x, e, rx⟩ := vals_get' rv h1
      obtain ⟨as, q⟩ := ih i x d e h2 u rx
      exact ⟨as, q, trivial⟩
    exact ⟨_, .tuple ho hc hd hr⟩
  | dct h ne =>
    intro u r
    cases r
    obtain ⟨_, _, vs, kv, o, es, ep, ho, ⟨hc, _, _⟩, hd, _, prs, _⟩ := I.hok _ _ h
    cases kv
    have e0 : es.toList = [] := by
      cases q : es.toList with
      | nil => rfl
      | cons x r => rw [q] at prs; cases prs
    refine ⟨_, Reads.dict ho hc hd (as := []) (bs := []) ?_ ?_⟩
    · rw [e0]; exact .nil
    · rw [e0]; exact .nil
end

/-- v is the data d, seen without A -/
abbrev Is (K : PySem.W.Frag) (A : List Addr) (H : Hp) (v : V) (d : PyData) : Prop := D K (hv A H) v d
abbrev Iss (K : PySem.W.Frag) (A : List Addr) (H : Hp) (vs : List V) (ds : List PyData) : Prop := DAll K (hv A H) vs ds
section
variable {K : PySem.W.Frag} {A : List Addr} {H H' : Hp} {v : V} {vs : List V} {d : PyData} {ds : List PyData} {a p : Addr}
theorem Is.mono (s : Go A H H') (h : Is K A H v d) : Is K A H' v d := D.same s.hv h
theorem Iss.mono (s : Go A H H') (h : Iss K A H vs ds) : Iss K A H' vs ds := DAll.same s.hv h
theorem Is.full (h : Is K A H v d) : D K H v d := D.same hv_le h
theorem Iss.full (h : Iss K A H vs ds) : DAll K H vs ds := DAll.same hv_le h
theorem Is.more (n : H a = none) (h : Is K A H v d) : Is K (a :: A) H v d := by
  refine D.same (fun b o e => ?_) h
  by_cases hb : b ∈ A
  · rw [hv_in hb] at e; cases e
  · rw [hv_out hb] at e
    rw [hv_out fun z => by
      rcases List.mem_cons.mp
            z with z | z
      · subst z; rw [n] at e; cases e
      · exact hb z]
    exact e
theorem Is.less (h : Is K (a :: A) H v d) : Is K A H v d := D.same hv_cons_le h
theorem Iss.less (h : Iss K (a :: A) H vs ds) : Iss K A H vs ds := DAll.same hv_cons_le h
theorem is_int {i : Int} (h : Is K A H v (.int i)) : v = .int i := by cases h; rfl
theorem is_bl {b : Bool} (h : Is K A H v (.bool b)) : v = .bl b := by cases h; rfl
theorem is_str {x : Str} (h : Is K A H v (.str x)) : v = .str x := by cases h; rfl
theorem is_non (h : Is K A H v .none) : v = .non := by cases h; rfl
theorem is_tup (h : Is K A H v (.tuple ds)) : ∃ a vs, v = .ref a ∧ SqT K (hv A H) a vs ∧ Iss K A H vs ds := by
  cases h with
  | tup h l a => exact ⟨_, _, rfl, h, l, a⟩
theorem is_lst (h : Is K A H v (.list ds)) : ∃ a vs, v = .ref a ∧ SqL K (hv A H) a vs ∧ Iss K A H vs ds := by
  cases h with
  | lst h l a => exact ⟨_, _, rfl, h, l, a⟩
theorem iss_nil (h : Iss K A H vs []) : vs = [] := List.length_eq_zero_iff.mp h.len
theorem iss_cons (h : Iss K A H vs (d :: ds)) : ∃ v ws, vs = v :: ws ∧ Is K A H v d ∧ Iss K A H ws ds := by
  obtain ⟨l, q⟩ := h
  cases vs with
  | nil => simp at l
  | cons v ws => exact ⟨v, ws, rfl, q 0 v d rfl rfl, by simpa using l, fun i w e h1 h2 => q (i + 1) w e h1 h2⟩
theorem iss_len (h : Iss K A H vs ds) : vs.length = ds.length := by
  induction ds generalizing vs with
  | nil => rw [iss_nil h]; rfl
  | cons d ds ih =>
    obtain ⟨v, ws, rfl, _, r⟩ := iss_cons h
    rw [List.length_cons, List.length_cons, ih r]
theorem iss_get (h : Iss K A H vs ds) {i : Nat} (e : ds[i]? = some d) : ∃ v, vs[i]? = some v ∧ Is K A H v d := by
  induction ds generalizing vs i with
  | nil => simp at e
  | cons c ds ih =>
    obtain ⟨v, ws, rfl, q, r⟩ := iss_cons h
    cases i with
    | zero =>
      have e' : c = d := Option.some.inj e
      subst e'
      exact ⟨v, rfl, q⟩
    | succ i => exact ih r e
theorem iss_get' (h : Iss K A H vs ds) {i : Nat} (e : vs[i]? = some v) : ∃ d, ds[i]? = some d ∧ Is K A H v d := by
  have hi : i < vs.length := (List.getElem?_eq_some_iff.mp e).1
  rw [iss_len h] at hi
  obtain ⟨w, e2, q⟩ := iss_get h (List.getElem?_eq_getElem hi)
  rw [e] at e2
  cases e2
  exact ⟨_, List.getElem?_eq_getElem hi, q⟩
theorem iss_app {ws : List V} {es : List PyData} (h : Iss K A H vs ds) (r : Iss K A H ws es) : Iss K A H (vs ++ ws) (ds ++ es) := by
  induction ds generalizing vs with
  | nil => rw [iss_nil h]; exact r
  | cons c ds ih =>
    obtain ⟨v, vs', rfl, q, r'⟩ := iss_cons h
    exact DAll.cons q (ih r')
theorem iss_take {n : Nat} (h : Iss K A H vs ds) : Iss K A H (vs.take n) (ds.take n) := by
  induction ds generalizing vs n with
  | nil => rw [iss_nil h, List.take_nil, List.take_nil]; exact DAll.nil
  | cons c ds ih =>
    obtain ⟨v, vs', rfl, q, r'⟩ := iss_cons h
    cases n with
    | zero => exact DAll.nil
    | succ n => exact DAll.cons q (ih r')
theorem iss_drop {n : Nat} (h : Iss K A H vs ds) : Iss K A H (vs.drop n) (ds.drop n) := by
  induction ds generalizing vs n with
  | nil => rw [iss_nil h, List.drop_nil, List.drop_nil]; exact DAll.nil
  | cons c ds ih =>
    obtain ⟨v, vs', rfl, q, r'⟩ := iss_cons h
    cases n with
    | zero => exact DAll.cons q r'
    | succ n => exact ih r'
theorem iss_ints : ∀ ns : List Int, Iss K A H (ns.map V.int) (ns.map PyData.int)
  | [] => DAll.nil
  | n :: ns => DAll.cons (.int n) (iss_ints ns)
theorem sqT_full (h : SqT K (hv A H) a vs) : SqT K H a vs := seqT_same hv_le h
theorem sqL_full (h : SqL K (hv A H) a vs) : SqL K H a vs := Same.seq hv_le h
theorem is_new_tup (hd : Hd A H) (n : H p = none) (h : Iss K A H vs ds) : Is K A (upd H p (.tup vs)) (.ref p) (.tuple ds) :=
  .tup' (.inl (.inl (by rw [hv_out (hd.out n)]; exact upd_same))) (Iss.mono (.new n) h)
theorem is_new_lst (hd : Hd A H) (n : H p = none) (h : Iss K A H vs ds) : Is K A (upd H p (.lst vs)) (.ref p) (.list ds) :=
  .lst' (.inl (.inl (by rw [hv_out (hd.out n)]; exact upd_same))) (Iss.mono (.new n) h)
/-- a list of the def's own at l, let go -/
theorem is_own_lst {l : Addr} (e : H l = some (.lst vs)) (hl : l ∉ A) (h : Iss K (l :: A) H vs ds) : Is K A H (.ref l) (.list ds) :=
  .lst' (.inl (.inl (by rw [hv_out hl]; exact e))) (Iss.less h)
theorem hd_new (hd : Hd A H) (n : H p = none) {o : HO} : Hd A (upd H p o) := (Go.new n).held hd
end
end LW

set_option Elab.async false
set_option linter.all false
set_option maxRecDepth 100000
set_option maxHeartbeats 4000100
/-! defs that run where nothing is being shown (no repr is under way) -/
namespace LW
open L2 PySem.Spec PyProof.Rows PySem

/-- a def's promise, where no repr is under way -/
structure FnG (P : Program) (w : World) (K : PySem.W.Frag) (mg : Str → Option Value) (base : Heap) (CX : CXT) (k : Nat) (f : Addr) (fd : FuncData) (ps : List Str) (sp : Sp) : Prop where
  args : ∀ vs H Q E, sp vs H Q E → vs.length = ps.length
  runs : ∀ (A : Around) (outer : List Env) (s : Shared) (H : Hp) (given : Args) (us : List Value) (vs : List V) (Q : VK) (E : XK), Room k A → A.guards = some [] →
    Env0 P w K mg base A outer s H → BindsTo s fd given (ps.zip us) → Vals vs us → sp vs H Q E →
    codeAny (model P w) A (.call (.ref f) given) (CR CX outer P w H s Q E) s

theorem FnG.of {P : Program} {w : World} {K : PySem.W.Frag} {mg : Str → Option Value} {base : Heap} {CX : CXT} {k : Nat} {f : Addr} {fd : FuncData} {ps : List Str} {sp : Sp}
    (F : FnOk P w K mg base CX k f fd ps sp) : FnG P w K mg base CX k f fd ps sp :=
  ⟨F.len, fun A outer s H given us vs Q E hr _ e0 hb hv hs => F.run A outer s H given us vs Q E hr e0 hb hv hs⟩

section
variable {P : Program} {w : World} {K : PySem.W.Frag} {mg : Str
      → Option Value} {base : Heap}
/-- from the body -/
theorem fnG_of {CX : CXT} {k : Nat} {f : Addr} {name qual : Str} {params : Arguments} {body : List Stmt} {scope : Scope} {dV kV doc pm cdv ct oc : Value} {an od : Option Addr}
    {osl : Array (Option Value)} {N ps :
          List Str} {sp : Sp}
    (lk : K.lookup f = some ⟨oc, od, .func (PySem.W.fnOf name qual params body scope dV kV doc pm an cdv ct), osl⟩)
    (hcode : PySem.W.codeIn K cdv qual = true) (S : FnScope N ps scope)
    (lens : ∀ vs H Q E, sp vs H Q E → vs.length = ps.length)
    (inner : ∀ (A : Around) (outer : List Env) (s : Shared) (H : Hp) (vs : List V) (Q : VK) (E : XK), Room k (A.deeper (envOfC qual scope s.heap.objs.size f cdv)) → A.guards = some [] → sp vs H Q E →
      ∃ t, PSs (cxOf CX P w K mg base N qual scope f cdv A outer s H E) body t ∧
        t { nx := fun _ H' => Q .non H', rt := Q } (start N vs) H) :
    FnG P w K mg base CX (k + 1) f (PySem.W.fnOf name qual params body scope dV kV doc pm an cdv ct) ps sp := by
  refine ⟨lens, ?_⟩
  intro A outer s H given us vs Q E room quiet e0 hbind rel want
  have same_len := lens _ _ _ _ want
  have KS : K.In s.heap := e0.mod.kin.keeps (fun b o e => (e0.bs b o e).1)
  have NL : s.heap.NoLimit := e0.mod.nolimit.keeps (fun b o e => (e0.bs b o e).1)
  have kinds : ∀ y ∈ ps.zip us, scope.names.lookup y.1 = some .local ∨
      (scope.names.lookup y.1 = some .cell ∧ ((cellsFrom (s.heap.objs.size + 1) scope.names []).lookup y.1).isSome = true) := by
    rintro ⟨n, v⟩ hy
    cases S.par n (List.of_mem_zip hy).1 with
    | inl q => exact Or.inl q
    | inr q => exact Or.inr ⟨q, PySem.W.cellsFrom_some _ _ _ (Or.inl q)⟩
  refine codeAny_call_function room.depth (KS _ _ lk) rfl S.co S.gen rfl (PySem.W.codeRec_of KS hcode) (hbind _ _ _ _ ?_)
  refine wpAny_newFunctionEnv_cells S.kind kinds ?_
  intro env hE s1 inn
  subst hE
  refine ⟨NL.keeps inn.toInCall.keep, ?_⟩
  refine codeAny_func ?_
  obtain ⟨t, der, rd⟩ := inner A outer s H vs Q E (room.deeper _) quiet want
  have I0 : Inv (cxOf CX P w K mg base N qual scope f cdv A outer s H E) [] (start N vs) H s1 := inv_start S room.hd e0 same_len rel inn
  refine wpAny_mono (der.run [] s1 (start N vs) H _ I0 rd) ?_ (fun e s' hs => hs)
  intro fl s' hs
  have out : ∀ {σ' : L2.St} {H' : Hp} {v : V} {u : Value}, Inv (cxOf CX P w K mg base N qual scope f cdv A outer s H E) [] σ' H' s' → RelV v u → Q v H' → CE outer P w H s Q u s' := by
    intro σ' H' v u J rv q
    exact ⟨v, H', J.os, J.bare, J.base, J.hok, rv, q⟩
  match fl, hs with
  | .ret u, ⟨v, σ', H', J, rv, q⟩ => exact out J rv q
  | .next, ⟨σ', H', J, q⟩ => exact out (v := V.non) (u := Value.none) J rfl q
  | .brk, ⟨_, _, _, q⟩ => exact q.elim
  | .cont, ⟨_, _, _, q⟩ => exact q.elim
theorem Fun_okG {x qual : Str} {st : Stmt} {f : Addr} {fd : FuncData} {N ps : List Str} {k : Nat} {sp : Sp} (F : Fun K x qual st f fd) (S : FnScope N ps (defScope st)) (lens : ∀ vs H Q E, sp vs H Q E → vs.length = ps.length)
    (inner : ∀ (cdv : Value) (A : Around) (outer : List Env) (s : Shared) (H : Hp) (vs : List V) (Q : VK) (E : XK), Room k (A.deeper (envOfC qual (defScope st) s.heap.objs.size f cdv)) → A.guards = some [] → sp vs H Q E →
      ∃ t, PSs (cxOf CX0 P w K mg base N qual (defScope st) f cdv A outer s H E).nox (defBody st) t ∧ t { nx := fun _ H' => Q .non H', rt := Q } (start N vs) H) : FnG P w K mg base CX0 (k + 1) f fd ps sp := by
  obtain ⟨oc, od, kV, doc, pm, an, cdv, ct, osl, rfl, lk, hcode⟩ := F.ex
  refine fnG_of lk hcode S lens ?_
  intro A outer s H vs Q E room quiet want
  obtain ⟨t, der, rd⟩ := inner cdv A outer s H vs Q E room quiet want
  exact ⟨t, der.nox, rd⟩
end

section
variable {X : Cx} {CX : CXT} {k : Nat} {f : Addr} {fd : FuncData} {ps : List Str} {sp : Sp} {dvs : List V} {ds : List Value} {E : XK} {x : Str} {p pos : Pos} {e : Expr} {es : List Expr} {t : TA}
/-- f(e, ..) of such a def -/
theorem pe_callG (quiet : X.A.guards = some []) (F : FnG X.prog X.w X.K X.mg X.base CX k f fd ps sp) (hr : Room k X.A) (hg : Gl X x) (hm : X.mg x = some (.ref f)) (hk : PySem.W.keepIn X.K (.ref f) = true) (hb : Binds X.K fd ps ds) (hd : Vals dvs ds) (hx : Passes CX X E)
    (ha : PA X (e :: es) t) (hdb : (x == ("__debug__" : Str)) = false := by decide) (he : starEach (e :: es) X.env = (false, eval e X.env) :: starEach es X.env := by rfl)
    (hpl : (backTo pos (starEach es X.env)).any (·.1) = false := by rfl) :
    PE X (.Call (.Name x p) (e :: es) [] pos)
          (tCall sp dvs E t) := by
  constructor
  intro pins s σ H Q I h
  refine wpAny_Call_Name_kw (ld_glob
        I hg hm ?_ hdb)
  refine PySem.W.callWith_K (h₀ := X.base) I.ok.mod.kin hk (thn (ha.run pos pins s σ H _ I h) ?_) he hpl
  rintro us s1 ⟨vs, H1, I1, r, q⟩
  refine ⟨I1.kIn, ?_⟩
  have rel : Vals (vs ++ dvs) (us ++ ds) := r.append hd
  have ln : (us ++ ds).length = ps.length := rel.length ▸ F.args _ _ _ _ q
  refine wpAny_call (codeAny_mono (F.runs X.A X.stack s1 H1 ⟨us, []⟩ (us ++ ds) (vs ++ dvs) Q E hr quiet I1.env0 (hb s1 us I1.kIn ln) rel q) ?_)
  intro res s' fin
  match res, fin with
  | .error er, fin => exact hx pins σ H1 s1 er s' I1 fin
  | .ok (.ret u), fin => exact I1.after fin
  | .ok .next, fin => exact fin.elim
  | .ok .brk, fin => exact fin.elim
  | .ok .cont, fin => exact fin.elim
end

/-! ### repr of data -/
section
variable {X : Cx}
/-- repr(x), x a list or a tuple of data without dicts -/
theorem call_reprD (quiet : X.A.guards = some []) {k : Nat} (hr : Room k X.A) : CallR X (.builtin "repr") (fun xs H Q => ∃ (a : Addr) (d : PyData), xs = [.ref a] ∧ D X.K H (.ref a) d ∧ d.showable = true ∧ d.hasDict = false ∧ d.depth ≤ 60 ∧ d.shown.length ≤ sizeLine ∧ Q (.str d.shown) H) := by
  intro pins s σ H xs
        us Q I r h
  obtain ⟨a, d, rfl, hd, hs, hn, hdep, hsz, q⟩ := h
  obtain ⟨u, rfl, ru⟩
        := vals1 r
  obtain rfl : u = Value.ref
        a := ru
  obtain ⟨as, rr⟩ := hd.reads I _ rfl
  have un := hr.un
  refine repr_of_reads' rr hs (fun z => by rw [hn] at z; cases z) quiet (by omega) (fun _ _ e => e) (fun h' u tk hk => ?_) hsz
  exact ⟨.str d.shown, H, I.kept hk, ⟨_, rfl⟩, q⟩
end
end LW
namespace LW
open L2 PySem.Spec PyProof.Rows PySem
/-! ### the law's own call -/
theorem law_start {P : Program} {w : World} {K : PySem.W.Frag} {mg mb : Str → Option Value} {k : Nat} {fa a : Addr} {fd : FuncData} {x : Str} {sp : Sp} {s₁ : Shared} {vs : List Value} {ns : List Int}
    (KX : K.In s₁.heap) (gl : s₁.heap.Ns mainGlobals mg) (bl : s₁.heap.Ns builtinsNs mb) (bb : ∀ x : Str, x ≠ "__name__" → mb x = bootBuiltins x) (lim : s₁.heap.NoLimit) (gn : s₁.gens = #[])
    (sa : s₁.heap.get? a = some { cls := .type "list", data := .seq vs.toArray }) (si : IntsAre vs ns) (sl : ns.length ≤ sizeLine) (room : Room k callerA)
    (F : ∀ base : Heap, K.In base → base.Ns mainGlobals mg → FnG P w K mg base CX0 k fa fd [x] sp) (bind : ∀ (s : Shared) (u : Value), BindsTo s fd ⟨[u], []⟩ [(x, u)])
    (want : ∀ H : Hp, SqL K H a (ns.map V.int) → sp [.ref a] H (fun v _ => v = .bl true) fun _ _ _ => False) :
    codeAny (model P w) callerA (.call (.ref fa) ⟨[.ref a], []⟩) (fun r s' => r = .ok (.ret (.bool true)) ∧ OldK
          s₁.heap s'.heap ∧ s'.os = s₁.os ∧ AllBare s'.gens) s₁ := by
  have rels := vals_ints si
  have many := si.length
  let ob : Obj := { cls := .type "list", data := .seq vs.toArray }
  -- the heap that is tracked: the script alone, or nothing
  have main : ∀ H : Hp, (∀ b, H b = none ∨ (b = a ∧ K.lookup a = none ∧ H b = some (.frz ob (.lst (ns.map V.int))))) → SqL K H a (ns.map V.int) →
      codeAny (model P w) callerA (.call (.ref fa) ⟨[.ref a], []⟩) (fun r s' => r = .ok (.ret (.bool true)) ∧ OldK
            s₁.heap s'.heap ∧ s'.os = s₁.os ∧ AllBare s'.gens) s₁ := by
    intro H onlyA sq
    have ok : HOk P w H s₁.heap := by
      intro b u hb
      rcases onlyA b with z | ⟨rfl, _, z⟩
      · rw [z] at hb; cases hb
      · rw [z] at hb
        cases hb
        exact ⟨sa, by rw [List.length_map]; exact sl, vs, _, rels, sa⟩
    have untracked : ∀ {b : Addr} {o : Obj}, s₁.heap.get? b = some o → (∀ its n, o.data ≠ .seq its n) → H b = none := by
      intro b o e nd
      rcases onlyA b with z | ⟨rfl, _, _⟩
      · exact z
      · rw [sa] at e
        cases e
        exact (nd _ _ rfl).elim
    have lift : ∀ {b : Addr} {m : Str → Option Value}, s₁.heap.Ns b m → (hidT s₁.heap H).Ns b m := by
      rintro b m ⟨o, es, ep, e, d, r⟩
      exact ⟨o, es, ep, hidT_get e (untracked e fun its n z => by rw [d] at z; cases z), d, r⟩
    have KB : K.In (hidT s₁.heap H) := by
      intro b o e
      refine hidT_get (KX b o e) ?_
      rcases onlyA b with z | ⟨rfl, z, _⟩
      · exact z
      · rw [z] at e; cases e
    have env0 : Env0 P w K mg (hidT s₁.heap H) callerA [] s₁ H := by
      refine ⟨rfl, ⟨KB, lift gl, ⟨mb, lift bl, bb⟩, ?_⟩, fun b o e => of_hidT e, Nat.le_of_eq (hidT_size _ _), trivial, ?_, ok, .of_eq gn⟩
      · obtain ⟨mc, l1, l2⟩ := lim
        exact ⟨mc, lift l1, l2⟩
      · intro b hb
        simp [frs] at hb
    refine codeAny_mono ((F _ KB (lift gl)).runs callerA [] s₁ H ⟨[.ref a], []⟩ [.ref a] [.ref a] _ _ room rfl env0 (bind s₁ (.ref a)) (.cons rfl .nil) (want H sq)) ?_
    intro r s' fin
    match r, fin with
    | .error er, fin => exact fin.elim
    | .ok .next, fin => exact fin.elim
    | .ok .brk, fin => exact fin.elim
    | .ok .cont, fin => exact fin.elim
    | .ok (.ret u), ⟨v, H', os, bare, un, ok', rv, q⟩ =>
      have q' : v = .bl true := q
      subst q'
      have ru : u = Value.bool true := rv
      subst ru
      refine ⟨rfl, OldK.of_keep ?_, os, bare⟩
      intro b o e
      rcases onlyA b with z | ⟨rfl, _, z⟩
      · exact un.keep b o e z (by simp [frs]) (by simp)
      · obtain ⟨e2, _⟩ := ok' b _ (un.frzs b ob _ z)
        rw [sa] at e
        cases e
        exact e2
  by_cases own : K.lookup a = none
  · refine main (fun b => if b = a then some (.frz ob (.lst (ns.map V.int))) else none) (fun b => ?_) (.inl (.inr ⟨ob, if_pos rfl⟩))
    by_cases z : b = a
    · exact .inr ⟨z, own, if_pos z⟩
    · exact .inl (if_neg z)
  · cases q : K.lookup a with
    | none => exact (own q).elim
    | some o =>
      have e := KX a o q
      rw [sa] at e
      cases e
      exact main (fun _ => none) (fun _ => .inl rfl) (.inr ⟨_, vs.toArray, _, q, rfl, rfl, rfl, by rw [List.size_toArray, many]; exact sl, by simpa using rels⟩)

theorem law_walk {l : PySem.W.OpenLaw} {n k : Nat} {q : Program} {loose : List Str} {XP : (Str → Option Value) → Heap → Prop} {YP : World → Heap → Prop} {d : DefRec} {K : Params → PySem.W.Frag} {sp : PySem.W.Frag → Sp} {x : Str}
    (most : l.most = some n) (short : n ≤ sizeLine) (noDefaults : d.params.defaults = []) (room : Room k callerA)
    (written : ∀ (w : World) (h : Heap), YP w h → (K w.params).In h)
    (F : ∀ (w : World) (mg : Str → Option Value) (fa : Addr) (h : Heap), (K w.params).In h → h.Ns mainGlobals mg → XP mg h → mg d.name = some (.ref fa) →
      ∃ fd : FuncData, (∀ (s : Shared) (u : Value), BindsTo
            s fd ⟨[u], []⟩ [(x, u)]) ∧
        ∀ base : Heap, (K w.params).In base → base.Ns mainGlobals mg → FnG l.prog w (K w.params) mg base CX0 k fa fd [x] (sp (K w.params)))
    (want : ∀ (K : PySem.W.Frag) (H : Hp) (a : Addr) (ns : List Int), ns.length ≤ n → SqL K H a (ns.map V.int) → sp K [.ref a] H (fun v _ => v = .bl true) fun _ _ _ => False) :
    PySem.W.WalkO q loose XP YP l.row.toRowW d [] (fun f vs
          => PySem.call f vs) := by
  refine Att.attach_call most noDefaults ?_
  intro w s₀ s₁ mg mb fa o pm cd doc a vs ns G Y ho hd hcd hmg hobj hints hlen hg
  have KX := written w _ Y
  obtain ⟨fd, hb, hF⟩ := F w mg fa _ KX G.T.g G.X hmg
  exact law_start KX G.T.g G.T.b G.T.builtins G.T.nolimit hg hobj hints (Nat.le_trans hlen short) room hF hb (fun H hS => want (K w.params) H a ns hlen hS)
end LW

set_option Elab.async false
set_option linter.all false
set_option maxRecDepth 100000
set_option maxHeartbeats 4000100
/-! what the readings of common parts ask, from facts of data; the built-in names -/
namespace LW
open L2 PySem.Spec PyProof.Rows PySem

/-- the built-in names are still that -/
structure Bl (mg : Str → Option Value) : Prop where
  len : mg "len" = none
  abs : mg "abs" = none
  divmod : mg "divmod" = none
  sorted : mg "sorted" = none
  all : mg "all" = none
  any : mg "any" = none
  sum : mg "sum" = none
  max : mg "max" = none
  min : mg "min" = none
  repr : mg "repr" = none
  isinstance : mg "isinstance" = none
  int : mg "int" = none
  str : mg "str" = none
  bool : mg "bool" = none
  tuple : mg "tuple" = none
  list : mg "list" = none
  set : mg "set" = none
  dict : mg "dict" = none
  range : mg "range" = none
  enumerate : mg "enumerate" = none
  reversed : mg "reversed" = none
  zip : mg "zip" = none

/-- a def of the text, by its name -/
structure OwnDef (K : PySem.W.Frag) (mg : Str → Option Value) (x : Str) (st : Stmt) : Prop where
  ex : ∃ (f : Addr) (fd : FuncData), Fun K x x st f fd ∧ mg x = some (.ref f)

/-- a def that may be called by its name -/
structure Cal (P : Program) (w : World) (K : PySem.W.Frag) (mg : Str → Option Value) (base : Heap) (k :
      Nat) (x : Str) (sp : Sp) (dvs : List V) : Prop where
  ex : ∃ (f : Addr) (fd : FuncData) (ps : List Str) (ds : List Value), FnOk P w K mg base CX0 k f fd ps sp ∧ mg x = some (.ref f) ∧
    PySem.W.keepIn K (.ref f) = true ∧ Binds K fd ps ds ∧ Vals dvs ds
/-- .. where nothing is being shown -/
structure CalG (P : Program) (w : World) (K : PySem.W.Frag) (mg : Str → Option Value) (base : Heap) (k : Nat) (x : Str) (sp : Sp) (dvs : List V) : Prop where
  ex : ∃ (f : Addr) (fd : FuncData) (ps : List Str) (ds : List Value), FnG P w K mg base CX0 k f fd ps sp ∧ mg x = some (.ref f) ∧
    PySem.W.keepIn K (.ref f) = true ∧ Binds K fd ps ds ∧ Vals dvs ds
section
variable {X : Cx} {k j : Nat} {x : Str} {sp : Sp} {dvs : List V} {p pos : Pos} {e : Expr} {es : List Expr} {t : TA}
theorem pe_c (cl : Cal X.prog X.w X.K X.mg X.base k x sp dvs) (hr : Room j X.A) (hk : k ≤ j) (hg : Gl X x) (ha : PA X (e :: es) t)
    (hdb : (x == ("__debug__" : Str)) = false := by
          decide) (he : starEach (e :: es) X.env = (false, eval e X.env) :: starEach es X.env := by rfl)
    (hpl : (backTo pos (starEach es X.env)).any (·.1) = false := by rfl) :
    PE X (.Call (.Name x p) (e :: es) [] pos)
          (tCall sp dvs E0 t) := by
  obtain ⟨f, fd, ps, ds, F, m, kp, b, d⟩ := cl.ex
  exact pe_call F (hr.mono hk) hg m kp b d pass0 ha hdb he hpl
theorem pe_cG (quiet : X.A.guards = some []) (cl : CalG X.prog X.w X.K X.mg X.base k x sp dvs) (hr : Room j X.A) (hk : k ≤ j) (hg : Gl X x) (ha : PA X (e :: es) t)
    (hdb : (x == ("__debug__" : Str)) = false := by
          decide) (he : starEach (e :: es) X.env = (false, eval e X.env) :: starEach es X.env := by rfl)
    (hpl : (backTo pos (starEach es X.env)).any (·.1) = false := by rfl) :
    PE X (.Call (.Name x p) (e :: es) [] pos)
          (tCall sp dvs E0 t) := by
  obtain ⟨f, fd, ps, ds, F, m, kp, b, d⟩ := cl.ex
  exact pe_callG quiet F (hr.mono hk) hg m kp b d pass0 ha hdb he hpl
end

section
variable {K : PySem.W.Frag} {A : List Addr} {H : Hp} {v w : V} {vs : List V} {d : PyData} {ds : List PyData} {Q : VK}
theorem atI_of {xs : List V} {i : Int} {w : V} (h0 : 0 ≤ i) (e : xs[i.toNat]? = some w) : atI xs i = some w := by
  have z : i = (i.toNat : Int) := (Int.toNat_of_nonneg h0).symm
  rw [z]
  exact atI_nat e
theorem rd_tup {i : Int} (h : Is K A H v (.tuple ds)) (h0 : 0 ≤ i) (e : ds[i.toNat]? = some d) (k : ∀ w, Is K A H w d → Q w H) : rIx K v (.int i) H Q := by
  obtain ⟨a, ws, rfl, sq, all⟩ := is_tup h
  obtain ⟨w, ew, hw⟩ := iss_get all e
  exact .inr (.inl ⟨a, ws, i, w, rfl, rfl, sqT_full sq, atI_of h0 ew, k w hw⟩)
theorem rd_lst {i : Int} (h : Is K A H v (.list ds)) (h0 : 0 ≤ i) (e : ds[i.toNat]? = some d) (k : ∀ w, Is K A H w d → Q w H) : rIx K v (.int i) H Q := by
  obtain ⟨a, ws, rfl, sq, all⟩ := is_lst h
  obtain ⟨w, ew, hw⟩ := iss_get all e
  exact .inl ⟨a, ws, i, w, rfl, rfl, sqL_full sq, atI_of h0 ew, k w hw⟩
theorem rd_raw {a : Addr} {xs : List V} {i : Int} (h : SqL K H a xs) (h0 : 0 ≤ i) (e : xs[i.toNat]? = some w) (k : Q w H) : rIx K (.ref a) (.int i) H Q :=
  .inl ⟨a, xs, i, w, rfl, rfl, h, atI_of h0 e, k⟩
/-- an int of a tuple -/
theorem rd_int {i j : Int} (h : Is K A H v (.tuple ds)) (h0 : 0 ≤ i) (e : ds[i.toNat]? = some (.int j)) (k : Q (.int j) H) : rIx K v (.int i) H Q :=
  rd_tup h h0 e fun w hw => by rw [is_int hw]; exact k
def rLen (K : PySem.W.Frag) : List V → Hp → VK → Prop := fun xs H Q => ∃ p ys, xs = [.ref p] ∧ (SqL K H p ys ∨ SqT K H p ys) ∧ Q (.int ys.length) H
theorem rd_lenT (h : Is K A H v (.tuple ds)) (k : Q (.int ds.length) H) : ∃ p ys, [v] = [.ref p] ∧ (SqL K H p ys ∨ SqT K H p ys) ∧ Q (.int ys.length) H := by
  obtain ⟨a, ws, rfl, sq, all⟩ := is_tup h
  exact ⟨a, ws, rfl, .inr (sqT_full sq), by rw [iss_len all]; exact k⟩
theorem rd_lenL (h : Is K A H v (.list ds)) (k : Q (.int ds.length) H) : ∃ p ys, [v] = [.ref p] ∧ (SqL K H p ys ∨ SqT K H p ys) ∧ Q (.int ys.length) H := by
  obtain ⟨a, ws, rfl, sq, all⟩ := is_lst h
  exact ⟨a, ws, rfl, .inl (sqL_full sq), by rw [iss_len all]; exact k⟩
end

/-! ### kinds of data -/
def tyN : PyData → String
  | .none => "NoneType"
  | .bool _ => "bool"
  | .int _ => "int"
  | .str _ => "str"
  | .list _ => "list"
  | .tuple _ => "tuple"
  | .dict _ => "dict"
section
variable {K : PySem.W.Frag} {A : List Addr} {H : Hp} {v w : V} {vs : List V} {d : PyData} {ds : List PyData} {Q : VK}
theorem D.ty (h : D K H v d) : TyX K H v (.type (tyN d)) := by
  cases h with
  | non => exact .base .non
  | bl b => exact .base (.bl b)
  | int i => exact .base (.int i)
  | str x => exact .base (.str x)
  | lst h len all =>
    rcases h with (h | ⟨o, h⟩) | ⟨o, its, n, h, hc, _⟩
    · exact .base (.lst h)
    · exact .base (.frz h)
    · exact .kList h hc
  | tup h len all =>
    rcases h with (h | ⟨o, h⟩) | ⟨o, its, n, h, hc, _⟩
    · exact .base (.tup h)
    · exact .fTuple h
    · exact .kTuple h hc
  | dct h => exact .base (.dK h)
/-- isinstance(x, a built-in class) of data -/
theorem rd_isi {n : String} {b : Bool} (h : D K H v d) (e : kitB (tyN d) n = some b) (k : Q (.bl b) H) : rIsi K [v, .ty n] H Q :=
  ⟨v, .ty n, .type (tyN d), .type n, b, rfl, .ty n, h.ty, kit_ty e, k⟩
def isIntD : PyData → Bool
  | .int _ => true
  | _ => false
def isTupD : PyData → Bool
  | .tuple _ => true
  | _ => false
def isStrD : PyData → Bool
  | .str _ => true
  | _ => false
def isBoolD : PyData → Bool
  | .bool _ => true
  | _ => false
theorem kit_int : ∀ d : PyData, kitB (tyN d) "int" = some (isIntD d || isBoolD d)
  | .none => (by decide +kernel : kitB "NoneType" "int" = some false)
  | .bool _ => (by decide +kernel : kitB "bool" "int" = some true)
  | .int _ => (by decide +kernel : kitB "int" "int" = some true)
  | .str _ => (by decide +kernel : kitB "str" "int" = some false)
  | .list _ => (by decide +kernel : kitB "list" "int" = some false)
  | .tuple _ => (by decide +kernel : kitB "tuple" "int" = some false)
  | .dict _ => (by decide +kernel : kitB "dict" "int" = some false)
theorem kit_bool : ∀ d : PyData, kitB (tyN d) "bool" = some (isBoolD d)
  | .none => (by decide +kernel : kitB "NoneType" "bool" = some false)
  | .bool _ => (by decide +kernel : kitB "bool" "bool" = some true)
  | .int _ => (by decide +kernel : kitB "int" "bool" = some false)
  | .str _ => (by decide +kernel : kitB "str" "bool" = some false)
  | .list _ => (by decide +kernel : kitB "list" "bool" = some false)
  | .tuple _ => (by decide +kernel : kitB "tuple" "bool" = some false)
  | .dict _ => (by decide +kernel : kitB "dict" "bool" = some false)
theorem kit_tup : ∀ d : PyData, kitB (tyN d) "tuple" = some (isTupD d)
  | .none => (by decide +kernel : kitB "NoneType" "tuple" = some false)
  | .bool _ => (by decide +kernel : kitB "bool" "tuple" = some false)
  | .int _ => (by decide +kernel : kitB "int" "tuple" = some false)
  | .str _ => (by decide +kernel : kitB "str" "tuple" = some false)
  | .list _ => (by decide +kernel : kitB "list" "tuple" = some false)
  | .tuple _ => (by decide +kernel : kitB "tuple" "tuple" = some true)
  | .dict _ => (by decide +kernel : kitB "dict" "tuple" = some false)
theorem kit_str : ∀ d : PyData, kitB (tyN d) "str" = some (isStrD d)
  | .none => (by decide +kernel : kitB "NoneType" "str" = some false)
  | .bool _ => (by decide +kernel : kitB "bool" "str" = some false)
  | .int _ => (by decide +kernel : kitB "int" "str" = some false)
  | .str _ => (by decide +kernel : kitB "str" "str" = some true)
  | .list _ => (by decide +kernel : kitB "list" "str" = some false)
  | .tuple _ => (by decide +kernel : kitB "tuple" "str" = some false)
  | .dict _ => (by decide +kernel : kitB "dict" "str" = some false)
end

/-! ### the tank: a list of three ints at a, changed by each draw -/
structure TankAt (H : Hp) (a : Addr) : Prop where
  ex : ∃ x y z : Int, H a = some (.lst [.int x, .int y, .int z]) ∧ 0 ≤ x ∧ 0 ≤ y ∧ y < 1610612741 ∧ 0 ≤ z
theorem TankAt.ne {H : Hp} {a : Addr} (t : TankAt H a) : H a ≠ none := by
  obtain ⟨x, y, z, e, _⟩ := t.ex
  rw [e]; exact fun z => by cases z
theorem TankAt.keep {H H' : Hp} {a : Addr} (t : TankAt H a) (s : Same H H') : TankAt H' a := by
  obtain ⟨x, y, z, e, r⟩ := t.ex
  exact ⟨x, y, z, s _ _ e, r⟩
theorem TankAt.upd_ne {H : Hp} {a p : Addr} {o : HO} (t : TankAt H a) (n : H p = none) : TankAt (upd H p o) a := t.keep (same_new n)
/-- kept outside A, and the tank at a is one still -/
structure GoT (A : List Addr) (a : Addr) (H H' : Hp) : Prop where
  go : Go A H H'
  tank : TankAt H' a
end LW
namespace LW
open L2 PySem.Spec PyProof.Rows PySem
/-- what an expression gives, told once for all that may follow -/
theorem via {σ : L2.St} {H : Hp} {t : TE} {Q : VK} (P : V → Hp → Prop) (h : ∀ Q' : VK, (∀ v H', P v H' → Q' v H') → t σ H Q') (k : ∀ v H', P v H' → Q v H') : t σ H Q := h Q k
theorem viaT {σ : L2.St} {H : Hp} {t : TT} {Q : Bool → Hp → Prop} (P : Bool → Hp → Prop) (h : ∀ Q' : Bool → Hp → Prop, (∀ v H', P v H' → Q' v H') → t σ H Q') (k : ∀ v H', P v H' → Q v H') : t σ H Q := h Q k
theorem pos_of {j : Int} (h : 0 < j) : (fun (_ j : Int) => 0 < j) 0 j := h
theorem some_map {α β : Type} {f : α → β} {l : List α} {i : Nat} {y : β} (h : (l.map f)[i]? = some y) : ∃ x, l[i]? = some x ∧ y = f x := by
  rw [List.getElem?_map] at h
  cases e : l[i]? with
  | none => rw [e]
        at h; cases h
  | some z => rw [e] at h; exact ⟨z, rfl, (Option.some.inj h).symm⟩
theorem map_some {α β : Type} {f : α → β} {l : List α} {i : Nat} {x : α} (h : l[i]? = some x) : (l.map f)[i]? = some (f x) := by
  rw [List.getElem?_map, h]; rfl
end LW
namespace LW
open L2 PySem.Spec PyProof.Rows PySem
theorem own_mk {K : PySem.W.Frag} {h : Heap} {mg : Str → Option Value} {x : Str} {st : Stmt} {f : Addr} {oc kV dc pm cd ct : Value} {od an : Option Addr} {sl : Array (Option Value)} (X : K.In h) (G : h.Ns mainGlobals mg)
    (a : PySem.W.nsIn K mainGlobals x = some (some (.ref f)))
    (l : K.lookup f = some ⟨oc, od, .func (PySem.W.fnOf x x (defArgs st) (defBody st) (defScope st) .none kV dc pm an cd ct), sl⟩)
    (co : PySem.W.codeIn K cd x = true) (k : PySem.W.keepIn K (.ref f) = true) : OwnDef K mg x st :=
  ⟨f, _, fun_mk (st := st) l co k, PySem.W.mg_of X G a⟩
end LW

namespace LW
open L2 PySem.Spec PyProof.Rows PySem
section
variable {X : Cx} {x : Str} {pos : Pos} {i : Int}
/-- a module's whole number, by its name -/
theorem pe_gint (hg : Gl X x) (hm : ∃ t, X.mg x = some (.int i t)) (hd : (x == ("__debug__" : Str)) = false := by decide) : PE X (.Name x pos) (tC (.int i)) := by
  obtain ⟨t, m⟩ := hm
  exact pe_glob hg m ⟨t, rfl⟩ hd
end
end LW
namespace LW
open L2 PySem.Spec PyProof.Rows PySem
section
variable {K : PySem.W.Frag} {H : Hp} {v w : V} {vs : List V} {d : PyData} {ds : List PyData} {Q : VK}
theorem D.is (h : D K H v d) : Is K [] H v d := by
  show D K (hv [] H) v d
  rw [hv_nil]; exact h
theorem DAll.is (h : DAll K H vs ds) : Iss K [] H vs ds := by
  show DAll K (hv [] H) vs ds
  rw [hv_nil]; exact h
theorem D.tuple (h : D K H v (.tuple ds)) : ∃ a vs, v = .ref a ∧ SqT K H a vs ∧ DAll K H vs ds := by
  cases h with
  | tup h l a => exact ⟨_, _, rfl, h, l, a⟩
theorem D.list (h : D K H v (.list ds)) : ∃ a vs, v = .ref a ∧ SqL K H a vs ∧ DAll K H vs ds := by
  cases h with
  | lst h l a => exact ⟨_, _, rfl, h, l, a⟩
theorem DAll.get (h : DAll K H vs ds) {i : Nat} (e : ds[i]? = some d) : ∃ v, vs[i]? = some v ∧ D K H v d := by
  have hi : i < ds.length := (List.getElem?_eq_some_iff.mp e).1
  rw [← h.len] at hi
  exact ⟨_, List.getElem?_eq_getElem hi, h.all i _ _ (List.getElem?_eq_getElem hi) e⟩
theorem DAll.get' (h : DAll K H vs ds) {i : Nat} (e : vs[i]? = some v) : ∃ d, ds[i]? = some d ∧ D K H v d := by
  have hi : i < vs.length := (List.getElem?_eq_some_iff.mp e).1
  rw [h.len] at hi
  exact ⟨_, List.getElem?_eq_getElem hi, h.all i _ _ e (List.getElem?_eq_getElem hi)⟩
theorem D.int_eq {i : Int} (h : D K H v (.int i)) : v = .int i := by cases h; rfl
theorem D.str_eq {i : Str} (h : D K H v (.str i)) : v = .str i := by cases h; rfl
theorem D.bool_eq {i : Bool} (h : D K H v (.bool i)) : v = .bl i := by cases h; rfl
theorem D.none_eq (h : D K H v .none) : v = .non := by cases h; rfl
/-- t[i], l[i] at i not below 0 -/
theorem ix_dt {i : Int} (h : D K H v (.tuple ds)) (h0 : 0 ≤ i) (e : ds[i.toNat]? = some d) (k : ∀ w, D K H w d → Q w H) : rIx K v (.int i) H Q := by
  obtain ⟨a, ws, rfl, sq, all⟩ := h.tuple
  obtain ⟨w, ew, hw⟩ := all.get e
  exact .inr (.inl ⟨a, ws, i, w, rfl, rfl, sq, atI_of h0 ew, k w hw⟩)
theorem ix_dl {i : Int} (h : D K H v (.list ds)) (h0 : 0 ≤ i) (e : ds[i.toNat]? = some d) (k : ∀ w, D K H w d → Q w H) : rIx K v (.int i) H Q := by
  obtain ⟨a, ws, rfl, sq, all⟩ := h.list
  obtain ⟨w, ew, hw⟩ := all.get e
  exact .inl ⟨a, ws, i, w, rfl, rfl, sq, atI_of h0 ew, k w hw⟩
theorem ix_di {i j : Int} (h : D K H v (.tuple ds)) (h0 : 0 ≤ i) (e : ds[i.toNat]? = some (.int j)) (k : Q (.int j) H) : rIx K v (.int i) H Q :=
  ix_dt h h0 e fun w hw => by rw [hw.int_eq]; exact k
end
end LW
namespace LW
open L2 PySem.Spec PyProof.Rows PySem
/-- an if whose ways meet again -/
theorem viaIf {c : TT} {t u : TS} {D : Ends} {σ : L2.St} {H : Hp} (P : L2.St → Hp → Prop) (h : ∀ D' : Ends, (∀ σ' H', P σ' H' → D'.nx σ' H') → tIfS c t u D' σ H) (k : ∀ σ' H', P σ' H' → D.nx σ' H') : tIfS c t u D σ H := h D k
end LW
namespace LW
open L2 PySem.Spec PyProof.Rows PySem
/-- a method that may be called -/
structure Met (P : Program) (w : World) (K : PySem.W.Frag) (mg : Str → Option Value) (base : Heap) (k : Nat) (C : Addr) (m : Str) (sp : Sp) : Prop where
  ex : ∃ (f : Addr) (fd : FuncData) (ps : List Str), Cls K C ∧ Meth K C m f ∧ FnOk P w K mg base CX0 k f fd ps sp ∧ Binds K fd ps []
section
variable {X : Cx} {k j : Nat} {C : Addr} {m : Str} {sp : Sp} {pos apos : Pos} {e o : Expr} {es : List Expr} {ta : TE} {t : TA}
theorem pe_mt {pl : Sem Bool} (cl : Met X.prog X.w X.K X.mg X.base k C m sp) (hr : Room j X.A) (hk : k ≤ j) (he : PE X o ta) (ha : PA X (e :: es) t)
    (hst : starEach (e :: es) X.env = (false, eval e X.env) :: starEach es X.env := by rfl)
    (hpl : (backTo pos (starEach es X.env)).any (·.1) = false := by rfl)
    (ht : eval (.Call (.Attribute o m apos) (e ::
          es) [] pos) X.env = (do
        let v ← eval o X.env
        standAt apos.atName
        let (g, fst) ← holding [v] (getMethod v m pl)
        callWith pos g fst (backTo pos (starEach (e :: es) X.env)) (backToKw pos (keywordEach [] X.env))) := by rfl) :
    PE X (.Call (.Attribute o m apos) (e :: es) [] pos) (tMeth C m sp [] E0 ta t) := by
  obtain ⟨f, fd, ps, c, me, F, b⟩ := cl.ex
  exact pe_meth (pl := pl) he c me F (hr.mono hk) b .nil pass0 ha hst hpl ht
end
end LW

set_option Elab.async false
set_option linter.all false
set_option maxRecDepth 100000
set_option maxHeartbeats 4000100
/-! enumerate over a tuple -/
namespace LW
open L2 PySem.Spec PyProof.Rows PySem
theorem meets_enum_new1 {v : Value} {o : Obj} {G : Heap → Prop} (B : Begins v o G) :
    Meets (Builtin.«enumerate.__new__» ⟨[.type "enumerate", v], []⟩) (fun _ R s => G s.heap ∧
      R (.ok (.ret (.ref (s.heap.push o).objs.size)))
        { s with heap := (s.heap.push o).push { cls := .type "enumerate", data := .fields #[.none, .bool false, .ref s.heap.objs.size, rawInt 0, .none, .none] } }) :=
  .of_wp fun prog w A R s given => by
    obtain ⟨hp, g, d, tk,
          os⟩ := s
    obtain ⟨g1, r1⟩ := given
    have subs := sub_enumerate
    have begin1 : ∀ {A' : Around} {E : Value → Shared → Prop} {Q : Value → Shared → Prop}, Q (.ref hp.objs.size) ⟨hp.push o, g, d, tk, os⟩ →
        wpAny (model prog w) A' (pyIter v) Q E ⟨hp, g, d, tk, os⟩ := fun q => B.iter prog w _ _ ⟨hp, g, d, tk, os⟩ _ g1 q
    wp_walk using begin1
    refine wpAny_stack_any fun st
          => wpAny_pure ?_
    split
    · rename_i c _ _ _ _ _
      cases (c == Value.type "enumerate") <;>
      · wp_walk using begin1
        exact ⟨_, rfl, r1⟩
    · wp_walk using begin1
      exact ⟨_, rfl, r1⟩
section
variable {prog : Program} {w : World} {A : Around} {E : Value
      → Shared → Prop} {s : Shared}
theorem call_enumerate_tuple {t : Addr} {items : Array Value} {Q : Value → Shared → Prop} (tp : s.heap.IsTuple t items)
    (h : ∀ h', IsEnum h' (s.heap.objs.size + 1) s.heap.objs.size 0 .none → h'.IsTupleIter s.heap.objs.size t 0 →
      (∀ b o, s.heap.get? b = some o → h'.get? b = some o) → Q (.ref (s.heap.objs.size
            + 1)) { s with heap := h' }) :
    wpAny (model prog w) A (call (.type "enumerate") [.ref t]) Q E s := by
  let ob : Obj := { cls := .type "tuple_iterator", data := .fields #[.ref t, .int 0 0] }
  let en : Obj := { cls := .type "enumerate", data := .fields #[.none, .bool false, .ref s.heap.objs.size, rawInt 0, .none, .none] }
  refine callType_new F.called_enumerate (by decide) (F.typeCall_enumerate_1 _) (F.newCall_enumerate_1 _)
    (fun obj => F.args_object_init_2 obj _) F.entry_enumerate_new (meets_enum_new1 (begins_tuple t items)) ⟨tp, ?_⟩
  have size1 : (s.heap.push ob).objs.size = s.heap.objs.size + 1 := Heap.size_push ..
  show _ ∧ _
  have enum1 : IsEnum ((s.heap.push ob).push en) (s.heap.objs.size + 1) s.heap.objs.size 0 .none := by
    have z := Heap.get?_push_size (s.heap.push ob) (o := en) rfl
    rw [size1] at z
    exact z
  have fin := h _ enum1 ⟨ob, Heap.get?_push_of_some _ (Heap.get?_push_size _ rfl), rfl, rfl⟩ (fun b o x => Heap.get?_push_of_some _ (Heap.get?_push_of_some _ x))
  rw [show (s.heap.push { cls := .type "tuple_iterator", data := .fields #[.ref t, .int 0 0] }).objs.size = s.heap.objs.size + 1 from size1]
  exact ⟨⟨_, enum1, rfl⟩, fin⟩
end
/-- the tuple at a at each turn, each item in a new pair -/
def Itet (K : PySem.W.Frag) (a : Addr) : It :=
  ⟨fun i H => ∃ (xs : List V) (x : V), SqT K H a xs ∧ xs[i]? = some x,
   fun i H v H' => ∃ T x, v = .ref T ∧ H T = none ∧ H' = upd H T (.tup [.int (i : Nat), x]) ∧ ∀ xs, SqT K H a xs → xs[i]? = some x,
   fun i H => ∃ xs : List V, SqT K H a xs ∧ xs.length ≤ i⟩
theorem turn_enumT {P : Program} {w : World} {K : PySem.W.Frag} {elts : List Expr} {kk : Nat} {tpos : Pos} (a e it : Addr) :
    Turn P w K (.Tuple elts kk tpos) (Itet K a) [e, it] e (fun i h => (∃ old, IsEnum h e it ((i : Nat) : Int) old) ∧ h.IsTupleIter it a i ∧ e ≠ it) where
  mem := by simp
  obj := by
    rintro i h ⟨⟨old, he⟩, ⟨o, ho, hc, hd⟩, _⟩ b hb
    rcases List.mem_cons.mp
          hb with z | z
    · subst z; exact ⟨_, he, fun v q => nomatch q⟩
    · rw [List.mem_singleton] at z
      subst z
      exact ⟨o, ho, fun v q => by rw [hd] at q; cases q⟩
  keep := by
    rintro i h h' ⟨⟨old, he⟩, hi, hne⟩ k
    exact ⟨⟨old, k e (by simp) _ he⟩, hi.at fun o q => k it (by simp) o q, hne⟩
  item := by
    intro X hP hw hK hc i pins s σ
          H E I hf st hg
    subst hP hw hK
    obtain ⟨⟨old, he⟩, hit,
          hne⟩ := st
    obtain ⟨xs, x, hq, hx⟩ := hg
    obtain ⟨its, rv, p, hz⟩
          := I.tuple hq
    have tp : s.heap.IsTuple a its.toArray := p
    obtain ⟨u, hu, ru⟩ :=
          rv.get hx
    have elt : e < s.heap.objs.size := Heap.lt_size he
    have ilt : it < s.heap.objs.size := by obtain ⟨_, q, _⟩ := hit; exact Heap.lt_size q
    have nai : a ≠ it := by
      intro z
      subst z
      obtain ⟨o1, g1, c1, _⟩ := hit
      obtain ⟨o2, g2, c2, _⟩ := tp
      rw [g1] at g2
      cases g2
      rw [c1] at c2
      exact absurd (Value.type.inj c2) (by decide)
    have nae : e ≠ a := by
      intro z
      subst z
      obtain ⟨o2, g2, c2, _⟩ := tp
      have g1 := he
      unfold IsEnum at g1
      rw [g1] at g2
      cases g2
      exact absurd (Value.type.inj c2) (by decide)
    have ilen : i < its.toArray.size := by
      have := (List.getElem?_eq_some_iff.mp hu).1
      simpa using this
    have dr := Draws.tuple (prog := X.prog) (w := X.w) (A := X.A.in1) (I.ok.hd hc) it a nai its.toArray
    refine wpAny_pyNext_enum_itemD dr he ⟨hit, tp⟩ ilen hne (by simp [hne, nae]) ?_
    intro y h' tk hy out st' newT size' kept
    have ey : y = u := by
      have : its.toArray[i]? = some u := by simpa using hu
      exact Option.some.inj (hy.symm.trans this)
    subst ey
    refine ⟨_, rfl, wpAny_letOwnedTupleGo_enum (s := { s with heap := h', toks := tk + 1 }) out ?_⟩
    intro h2 he2 sb
    have nT : h2.get? s.heap.objs.size = some { cls := .type "tuple", data := .seq #[.int i tk, y] } := (sb.2 _ (Nat.ne_of_gt elt)).trans newT
    have ob : ObjOk X.prog X.w (upd H s.heap.objs.size (.tup [.int (i : Nat), x])) h2 s.heap.objs.size (.tup [.int (i : Nat), x]) := by
      refine ⟨by show 2 ≤ sizeLine; decide, [.int i tk, y], .cons ⟨_, rfl⟩ (.cons ru .nil), ⟨_, nT, rfl, _, rfl⟩⟩
    have I1 : Inv X pins σ (upd H s.heap.objs.size (.tup [.int (i : Nat), x])) { s with heap := h2, toks := tk + 1 } := by
      refine I.turnedNew (ch := [e, it]) ?_ hf (Nat.le_refl _) ob
      intro b o hb q
      have b1 : b ≠ e := fun z => hb (by simp [z])
      have b2 : b ≠ it := fun z => hb (by simp [z])
      exact (sb.2 b b1).trans (kept b o b1 b2 q)
    refine ⟨.ref s.heap.objs.size, _, I1, rfl, ⟨_, x, rfl, I.hok.fresh (Nat.le_refl _), rfl, ?_⟩, ⟨⟨y, ?_⟩, st'.1.at fun o q => (sb.2 it (Ne.symm hne)).trans q, hne⟩, ?_⟩
    · intro ys hys
      rw [I.tuple_inj hys hq]
      exact hx
    · rw [show ((i + 1 : Nat) : Int) = (i : Int) + 1 by omega]
      exact he2
    · intro b hb
      have lt : b < s.heap.objs.size := by
        rcases List.mem_cons.mp
              hb with z | z
        · rw [z]; exact elt
        · rw [List.mem_singleton.mp z]; exact ilt
      rw [upd_ne (Nat.ne_of_lt lt)]
      exact (hf b hb).1
  done := by
    intro X hP hw hK hc i pins s σ
          H E I hf st hg
    subst hP hw hK
    obtain ⟨⟨old, he⟩, hit,
          hne⟩ := st
    obtain ⟨xs, hq, hx⟩ := hg
    obtain ⟨its, rv, p, hz⟩
          := I.tuple hq
    have tp : s.heap.IsTuple a its.toArray := p
    have nai : a ≠ it := by
      intro z
      subst z
      obtain ⟨o1, g1, c1, _⟩ := hit
      obtain ⟨o2, g2, c2, _⟩ := tp
      rw [g1] at g2
      cases g2
      rw [c1] at c2
      exact absurd (Value.type.inj c2) (by decide)
    obtain ⟨f0, f1, f2, f3, f4, f5⟩ :=
          hf it (by simp)
    have ln := rv.length
    have none1 : its.toArray[i]? = none := by simp; omega
    have ty : s.TypeIs (.ref e) "enumerate" := ⟨_, he, rfl⟩
    unfold pyNext
    refine wpAny_bind
          (wpAny_attempt ?_)
    refine wpAny_callSpecial?_slot (name := Str.ofString "__next__") ty F.slot_enumerate_next ?_
    refine wpAny_call_entry F.slot_enumerate_next ty F.entry_enumerate_next ?_ (F.args_enumerate_next_1 _)
    show wpAny _ _ (field (.ref e)
          2 >>= _) _ _ _
    refine wpAny_bind ?_
    refine wpAny_field he rfl (x := .ref it) rfl ?_
    refine wpAny_bind ?_
    refine wpAny_nextOf_tuple_end (I.ok.hd hc) hit tp none1 ?_
    rintro h' x eb ⟨o, ho, hcl⟩
    refine wpAny_bind (wpAny_isInstance (T := "StopIteration") (b := true) ⟨o, ho, hcl⟩ isSubtype_stop ?_)
    refine wpAny_pure ⟨rfl, ?_⟩
    exact I.turned (t' := s.toks) (fun b o hb q => eb b o hb q) f0 f1 f3 f4 f5
  self := by
    rintro A i s Q E ⟨⟨_, he⟩, _⟩ h
    exact wpAny_pyIter_enum he h
def iEnumT (K : PySem.W.Frag) (ta : TA) : TI := fun σ H R => ta σ H fun vs H1 => ∃ a xs, vs = [.ref a] ∧ SqT K H1 a xs ∧ R (Itet K a) H1
theorem pi_enumT {X : Cx} {e : Expr} {ta : TA} {p pos tpos : Pos} {elts : List Expr} {kk : Nat} (hg : Gl X "enumerate") (hm : X.mg "enumerate" = none) (ha : PA X [e] ta)
    (hs : starEach [e] X.env = [(false, eval e X.env)] := by rfl) : PI X (.Tuple elts kk tpos) (.Call (.Name "enumerate" p) [e] [] pos) (iEnumT X.K ta) := by
  constructor
  intro pins s σ H R I h
  refine Call_ (ld_blt I hg hm boot_enumerate (PyProof.Rows.callWith_type1 (thn (ha.run pos pins s σ H _ I h) ?_) hs rfl))
  rintro us s1 ⟨vs, H1, I1, r1, a, xs, ex, hq, q⟩
  subst ex
  obtain ⟨u, rfl, ru⟩
        := vals1 r1
  obtain rfl : u = Value.ref
        a := ru
  obtain ⟨its, rv, tp, hz⟩ := I1.tuple hq
  refine call_enumerate_tuple (items := its.toArray) tp ?_
  intro h' he hit hk
  refine wpAny_pyIter_enum
        he ?_
  refine ⟨s1.heap.objs.size + 1, [s1.heap.objs.size + 1, s1.heap.objs.size], _, _, H1, rfl, I1.kept (t' := s1.toks) hk, turn_enumT a (s1.heap.objs.size + 1) s1.heap.objs.size, ⟨⟨.none, he⟩, hit, Nat.succ_ne_self _⟩, ?_, q⟩
  intro b hb
  have le : s1.heap.objs.size ≤ b := by
    rcases List.mem_cons.mp
          hb with z | z
    · rw [z]; exact Nat.le_succ _
    · rw [List.mem_singleton.mp z]; exact Nat.le_refl _
  exact I1.fpOk le (I1.hok.fresh le)
/-- for i, x in enumerate(t) -/
theorem for_enumT {K : PySem.W.Frag} {a : Addr} {xs : List V} {g : TG} {tb : TS} {D : Ends} {σ : L2.St} {H : Hp} (Pv : Nat → L2.St → Hp → Prop) (h0 : Pv 0 σ H) (hl : ∀ i σ H, i ≤ xs.length → Pv i σ H → SqT K H a xs)
    (hs : ∀ i x σ H T, xs[i]? = some x → Pv i σ H → H T = none → g (.ref T) σ (upd H T (.tup [.int (i : Nat), x])) fun σ2 H2 => tb { D with nx := Pv (i + 1), ct := Pv (i + 1), bk := D.nx } σ2 H2) (hd : ∀ σ H, Pv xs.length σ H → D.nx σ H) :
    ∃ W : Nat → Nat → L2.St → Hp → Prop, (∃ m, W 0 m σ H)
          ∧ ∀ i m σ H, W i m σ H →
      ((Itet K a).stop i H ∧ D.nx σ H) ∨ ((Itet K a).go i H ∧ ∃ N : L2.St → Hp → Prop, (∀ σ' H', N σ' H' → ∃ m', m' < m ∧ W (i + 1) m' σ' H') ∧
        ∀ x H', (Itet K a).yld i H x H' → g x σ H' fun σ2 H2 => tb { D with nx := N, ct := N, bk := D.nx } σ2 H2) := by
  refine ⟨fun i m σ H => m = xs.length - i ∧ i ≤ xs.length ∧ Pv i σ H,
        ⟨xs.length, rfl, Nat.zero_le _, h0⟩, ?_⟩
  rintro i m σ H ⟨rfl, hi, p⟩
  have sq := hl i σ H hi p
  by_cases lt : i < xs.length
  · refine .inr ⟨⟨xs, xs[i], sq, List.getElem?_eq_getElem lt⟩, Pv (i + 1), fun σ' H' p' => ⟨xs.length - (i + 1), by omega, rfl, lt, p'⟩, ?_⟩
    rintro y H' ⟨T, x, rfl, nT, rfl, look⟩
    exact hs i x σ H T (look _ sq) p nT
  · have e : i = xs.length
        := by omega
    subst e
    exact .inl ⟨⟨xs, sq, Nat.le_refl _⟩, hd σ H p⟩
end LW

set_option Elab.async false
set_option linter.all false
set_option maxRecDepth 100000
set_option maxHeartbeats 4000100
/-! C(e, *xs) of an own class; C.m(e), m a staticmethod; o.m(k = e) -/
namespace LW
open PySem PySem.Spec PyProof.Rows L2 StX
section
variable {X : Cx} {CX : CXT} {k j : Nat} {f C : Addr} {sp : Sp} {E : XK} {x : Str} {e1 e2 : Expr} {t1 t2 : TE} {p p2 pos : Pos}
theorem pe_makeS (M : Mk X.K C f) (F : FnR X.prog X.w X.K X.mg X.base CX k f sp) (hr : Room (k + 1) X.A) (hg : Gl X x) (hm : X.mg x = some (.ref C)) (hx : Passes CX X E)
    (h1 : PE X e1 t1) (h2 : PE X e2 t2) (hdb : (x == ("__debug__" : Str)) = false := by decide)
    (hst : starEach [e1, .Starred e2 p2] X.env = [(false, eval e1 X.env), (true, eval e2 X.env)] := by rfl) :
    PE X (.Call (.Name x p) [e1, .Starred e2 p2] [] pos) (tMakeR C sp E (tCons t1 (tStar X.K t2 tNil))) := by
  constructor
  intro pins s σ H Q I h
  refine wpAny_Call_Name_kw (ld_glob
        I hg hm ?_ hdb)
  rw [hst]
  refine PySem.W.ks_call (P := X.K.In) rfl (PySem.W.keeps_K M.kp) (Calls.evalArgs_plain (Calls.spliced_cons (thn (h1.run pins s σ H _ I h) ?_)))
  rintro v1 s1 ⟨y1, H1, I1, r1, q1⟩
  refine PySem.W.ks_spliced (thn (h2.run pins s1 σ H1 _ I1 q1) ?_)
  rintro v2 s2 ⟨y2, H2, I2, r2, t, xs, e, ht, q2⟩
  subst e
  obtain rfl : v2 = Value.ref t := r2
  refine star_any I2 ht ?_
  intro us s3 I3 rv
  refine Calls.spliced_nil ?_
  show X.K.In s3.heap ∧ wpAny (model X.prog X.w) X.A (call (.ref C) (v1 :: (us ++ [])) []) (EP X pins σ Q) X.xe s3
  rw [List.append_nil]
  have q3 : (fun (vs : List V) (H1 : Hp) => ∀ (x dx : Addr), H1 x = Option.none → H1 dx = Option.none → dx ≠ x → sp (V.ref x :: vs) (upd (upd H1 dx (HO.own x)) x (HO.ins C dx [])) (fun v H2 => v = V.non ∧ Q (V.ref x) H2) E) (y1 :: (xs ++ [])) H2 := q2
  rw [List.append_nil] at q3
  exact ⟨I3.kIn, run_makeR M F hr hx I3 (.cons r1 rv) q3⟩
end
/-- a class that may be made, by a positional promise of its __init__ -/
structure MakR (P : Program) (w : World) (K : PySem.W.Frag) (mg : Str → Option Value) (base : Heap) (k : Nat) (x : Str) (C : Addr) (sp : Sp) : Prop where
  ex : ∃ f : Addr, Mk K C f ∧ FnR P w K mg base CX0 k f sp ∧ mg x = some (.ref C)
section
variable {X : Cx} {k j : Nat} {C : Addr} {sp : Sp} {x : Str} {e e1 e2 : Expr} {es : List Expr} {t1 t2 : TE} {t : TA} {p p2 pos : Pos}
theorem pe_mkS (c : MakR X.prog X.w X.K X.mg X.base k x C sp) (hr : Room j X.A) (hk : k + 1 ≤ j) (hg : Gl X x)
    (h1 : PE X e1 t1) (h2 : PE X e2 t2) (hdb : (x == ("__debug__" : Str)) = false := by decide)
    (hst : starEach [e1, .Starred e2 p2] X.env = [(false, eval e1 X.env), (true, eval e2 X.env)] := by rfl) :
    PE X (.Call (.Name x p) [e1, .Starred e2 p2] [] pos) (tMakeR C sp E0 (tCons t1 (tStar X.K t2 tNil))) := by
  obtain ⟨f, M, F, m⟩ := c.ex
  exact pe_makeS M F (hr.mono hk) hg m pass0 h1 h2 hdb hst
theorem pe_mkP (c : MakR X.prog X.w X.K X.mg X.base k x C sp) (hr : Room j X.A) (hk : k + 1 ≤ j) (hg : Gl X x) (ha : PA X (e :: es) t) (hdb : (x == ("__debug__" : Str)) = false := by decide)
    (he : starEach (e :: es) X.env = (false, eval e X.env) :: starEach es X.env := by
          rfl) (hpl : (backTo pos (starEach es X.env)).any (·.1) = false := by rfl) :
    PE X (.Call (.Name x p) (e :: es) [] pos) (tMakeR C sp E0 t) := by
  obtain ⟨f, M, F, m⟩ := c.ex
  exact pe_makeR M F (hr.mono hk) hg m pass0 ha hdb he hpl
end
end LW
/-! ### a staticmethod of a class, called by the class -/
namespace LW
open PySem PySem.Spec PyProof.Rows L2 StX ClX
structure SMet (K : PySem.W.Frag) (C : Addr) (mc : Value) (m : Str) (p g : Addr) : Prop where
  rd : CRead K C mc
  at_ : PySem.W.findCls K (.ref C) mc m = some (.get (.builtin "staticmethod.__get__") (.ref p) .none (.ref C))
  rc : ∃ rest, PySem.W.recIn K p "staticmethod" = some (.ref g :: rest)
  kp : PySem.W.keepIn K (.ref g) = true
section
variable {X : Cx} {pins : List (Addr × Obj)} {σ : L2.St} {H : Hp} {s : Shared} {C p g : Addr} {mc : Value} {m : Str} {A : Around} {E : Value → Shared → Prop}
theorem getsm_ok {pl : Sem Bool} {Q : Value × List Value → Shared → Prop} (I : Inv X pins σ H s) (k : SMet X.K C mc m p g) (h : ∀ s', Inv X pins σ H s' → Q (.ref g, []) s') :
    wpAny (model X.prog X.w) A (getMethod (.ref C) m pl) Q E s := by
  refine PySem.W.method_cls I.kIn k.rd.ga ?_
  obtain ⟨rest, hp⟩ := k.rc
  refine PySem.W.cls_bind I.kIn k.rd.rd k.at_ ?_
  refine wpAny_call (PySem.W.sm_get (s := { s with toks := s.toks + 1 }) I.kIn hp (PySem.W.handed_on rfl ?_))
  exact h _ (I.tok _)
end
/-- .. that may be called so -/
structure Sta (P : Program) (w : World) (K : PySem.W.Frag) (mg : Str → Option Value) (base : Heap) (k : Nat) (x : Str) (m : Str) (sp : Sp) : Prop where
  ex : ∃ (C : Addr) (mc : Value) (p g : Addr) (fd : FuncData) (ps : List Str), mg x = some (.ref C) ∧ SMet K C mc m p g ∧ FnOk P w K mg base CX0 k g fd ps sp ∧ Binds K fd ps []
section
variable {X : Cx} {k j : Nat} {x m : Str} {sp : Sp} {e : Expr} {es : List Expr} {t : TA} {np apos pos : Pos}
theorem pe_sta {pl : Sem Bool} (c : Sta X.prog X.w X.K X.mg X.base k x m sp) (hr : Room j X.A) (hk : k ≤ j) (hg : Gl X x) (ha : PA X (e :: es) t) (hdb : (x == ("__debug__" : Str)) = false := by decide)
    (hst : starEach (e :: es) X.env = (false, eval e X.env) :: starEach es X.env := by rfl)
    (hpl : (backTo pos (starEach es X.env)).any (·.1) = false := by rfl)
    (ht : eval (.Call (.Attribute (.Name x np) m apos) (e
          :: es) [] pos) X.env = (do
        let v ← eval (.Name x np) X.env
        standAt apos.atName
        let (g, fst) ← holding [v] (getMethod v m pl)
        callWith pos g fst (backTo pos (starEach (e :: es) X.env)) (backToKw pos (keywordEach [] X.env))) := by rfl) :
    PE X (.Call (.Attribute (.Name x np) m apos) (e :: es) [] pos) (tCall sp [] E0 t) := by
  obtain ⟨C, mc, p, g, fd, ps, gx, sm, F, b⟩ := c.ex
  constructor
  intro pins s σ H Q I h
  refine PySem.W.methodCall_KW (pl := pl) (ld_glob I hg gx ?_ hdb) ht
  refine getsm_ok I sm ?_
  intro s1 I1
  refine PySem.W.callWith_K (h₀ := X.base) I.ok.mod.kin sm.kp (thn (ha.run pos pins s1 σ H _ I1 h) ?_) hst hpl
  rintro us s2 ⟨vs, H2, I2, rv, q⟩
  exact ⟨I2.kIn, run_fn F (hr.mono hk) b .nil pass0 I2 rv q⟩
end
/-! ### o.m(k = e) -/
section
variable {X : Cx} {k j : Nat} {C : Addr} {m : Str} {sp : Sp} {o : Expr} {kws : List Keyword} {ta : TE} {tk : TA} {apos pos : Pos}
/-- a method that may be called with one keyword -/
structure MetK (P : Program) (w : World) (K : PySem.W.Frag) (mg : Str → Option Value) (base : Heap) (k : Nat) (C : Addr) (m : Str) (ks : List Str) (sp : Sp) : Prop where
  ex : ∃ (f : Addr) (fd : FuncData) (ps : List Str), Cls K C ∧ Meth K C m f ∧ FnOk P w K mg base CX0 k f fd ps sp ∧
    ∀ (s : Shared) (u : Value) (ws : List Value), K.In s.heap → (u :: ws).length = ps.length → BindsTo s fd ⟨[u], ks.zip ws⟩ (ps.zip (u :: ws))
theorem pe_mtk {pl : Sem Bool} {ks : List Str} (c : MetK X.prog X.w X.K X.mg X.base k C m ks sp) (hr : Room j X.A) (hk : k ≤ j) (he : PE X o ta) (hkw : PK X kws tk)
    (hall : (backToKw pos (keywordEach kws X.env)).all (·.1.isSome) = true := by rfl)
    (hks : (backToKw pos (keywordEach kws X.env)).filterMap (·.1) = ks := by rfl)
    (hplain : ((backTo pos (starEach [] X.env)).any (·.1) || (backToKw pos (keywordEach kws X.env)).any (·.1.isNone)) = false := by rfl)
    (ht : eval (.Call (.Attribute o m apos) [] kws pos) X.env = (do
        let v ← eval o X.env
        standAt apos.atName
        let (g, fst) ← holding [v] (getMethod v m pl)
        callWith pos g fst (backTo pos (starEach [] X.env)) (backToKw pos (keywordEach kws X.env))) := by rfl) :
    PE X (.Call (.Attribute o m apos) [] kws pos) (tMeth C m sp [] E0 ta tk) := by
  obtain ⟨f, fd, ps, cl, me, F, b⟩ := c.ex
  constructor
  intro pins s σ H Q I h
  refine PySem.W.methodCall_KW (pl := pl) (thn (he.run pins s σ H _ I h) ?_) ht
  rintro u s1 ⟨x, H1, I1, rx, a, dx, fs, ex, ea, l, q⟩
  subst ex
  obtain rfl : u = Value.ref
        a := rx
  refine getmeth_ok I1 ea cl me l ?_
  refine PySem.W.callWith_KW0 (first := [.ref a]) (h₀ := X.base) I.ok.mod.kin me.kp hall (thn (hkw.run pos pins s1 σ H1 _ I1 q) ?_) hplain
  rintro ws s2 ⟨zs, H2, I2, rz, q2⟩
  refine ⟨I2.kIn, ?_⟩
  rw [hks]
  have q3 : sp (V.ref a :: (zs ++ [])) H2 Q E0 := q2
  rw [List.append_nil] at q3
  have rel : Vals (V.ref a :: zs) (Value.ref a :: ws) := .cons rfl rz
  have ln : (Value.ref a :: ws).length = ps.length := rel.length ▸ F.len _ _ _ _ q3
  refine wpAny_call (codeAny_mono (F.run X.A X.stack s2 H2 ⟨[.ref a], ks.zip ws⟩ (.ref a :: ws) (.ref a :: zs) Q E0 (hr.mono hk) I2.env0 (b s2 (.ref a) ws I2.kIn ln) rel q3) ?_)
  intro res s' fin
  match res, fin with
  | .error er, fin => exact pass0 pins σ H2 s2 er s' I2 fin
  | .ok (.ret u), fin => exact I2.after fin
  | .ok .next, fin => exact fin.elim
  | .ok .brk, fin => exact fin.elim
  | .ok .cont, fin => exact fin.elim
end
end LW

set_option Elab.async false
set_option linter.all false
set_option maxRecDepth 100000
set_option maxHeartbeats 4000100
namespace LW
open L2 PySem.Spec PyProof.Rows PySem
/-- a def that may be called by its name with two keywords, ps in their order, the given ones the other way round -/
structure CalR (P : Program) (w : World) (K : PySem.W.Frag) (mg : Str → Option Value) (base : Heap) (k : Nat) (x : Str) (ks : List Str) (sp : Sp) : Prop where
  ex : ∃ (f : Addr) (fd : FuncData) (ps : List Str), FnOk P w K mg base CX0 k f fd ps sp ∧ mg x = some (.ref f) ∧ PySem.W.keepIn K (.ref f) = true ∧
    ∀ (s : Shared) (ws : List Value), K.In s.heap → ws.length = ps.length → BindsTo s fd ⟨[], ks.zip ws⟩ (ps.zip ws.reverse)
/-- the spec of the call: what is given, the other way round -/
def tCallR (sp : Sp) (E : XK) (ta : TA) : TE := fun σ H Q => ta σ H fun vs H1 => sp vs.reverse H1 Q E
theorem vals_rev {xs : List V} {us : List Value} (h : Vals xs us) : Vals xs.reverse us.reverse := by
  induction h with
  | nil => exact .nil
  | cons r t ih =>
    rw [List.reverse_cons,
          List.reverse_cons]
    exact ih.append (.cons r .nil)
section
variable {X : Cx} {k j : Nat} {x : Str} {sp : Sp} {p pos : Pos} {kws : List Keyword} {tk : TA} {ks : List Str}
theorem pe_ckR (cl : CalR X.prog X.w X.K X.mg X.base k x ks sp) (hr : Room j X.A) (hk : k ≤ j) (hg : Gl X x) (hkw : PK X kws tk)
    (hdb : (x == ("__debug__" : Str)) = false := by decide)
    (hall : (backToKw pos (keywordEach kws X.env)).all (·.1.isSome) = true := by rfl)
    (hks : (backToKw pos (keywordEach kws X.env)).filterMap (·.1) = ks := by rfl)
    (hplain : ((backTo pos (starEach [] X.env)).any (·.1) || (backToKw pos (keywordEach kws X.env)).any (·.1.isNone)) = false := by rfl) :
    PE X (.Call (.Name x p) [] kws pos) (tCallR sp E0 tk) := by
  obtain ⟨f, fd, ps, F, m, kp, b⟩ := cl.ex
  constructor
  intro pins s σ H Q I h
  refine wpAny_Call_Name_kw (ld_glob I hg m ?_ hdb)
  refine PySem.W.callWith_KW0 (first := []) (h₀ := X.base) I.ok.mod.kin kp hall (thn (hkw.run pos pins s σ H _ I h) ?_) hplain
  rintro ws s2 ⟨zs, H2, I2, rz, q2⟩
  refine ⟨I2.kIn, ?_⟩
  rw [hks]
  have q3 : sp zs.reverse H2 Q E0 := q2
  have rel : Vals zs.reverse ws.reverse := vals_rev rz
  have ln : ws.length = ps.length := by rw [← List.length_reverse, ← rel.length]; exact F.len _ _ _ _ q3
  refine wpAny_call (codeAny_mono (F.run X.A X.stack s2 H2 ⟨[], ks.zip ws⟩ ws.reverse zs.reverse Q E0 (hr.mono hk) I2.env0 (b s2 ws I2.kIn ln) rel q3) ?_)
  intro res s' fin
  match res, fin with
  | .error er, fin => exact pass0 pins σ H2 s2 er s' I2 fin
  | .ok (.ret u), fin => exact I2.after fin
  | .ok .next, fin => exact fin.elim
  | .ok .brk, fin => exact fin.elim
  | .ok .cont, fin => exact fin.elim
end
end LW

set_option Elab.async false
set_option linter.all false
set_option maxRecDepth 100000
set_option maxHeartbeats 4000100
/-! raise C(e), C an own class over ValueError whose __init__ keeps its one argument -/
namespace LW
open L2 PySem.Spec PyProof.Rows PySem
/-- what __init__(self, f): self.f = f promises -/
def sp_exi (K : PySem.W.Frag) (C : Addr) (n : Str) : Sp := fun vs H Q _ => ∃ (a : Addr) (v : V), vs = [.ref a, v] ∧ H a = some (exo a C none) ∧
  ∀ dx, H dx = none → dx ≠ a → Q .non (upd (upd H dx (exd dx [(n, v)])) a (exo a C (some dx)))
structure Rais (P : Program) (w : World) (K : PySem.W.Frag) (mg : Str → Option Value) (base : Heap) (k : Nat) (x : Str) (C : Addr) (n : Str) : Prop where
  oex : OexC K C
  xf : XfC K C
  noN : PySem.W.findIn K (.ref C) n = some none
  hm : mg x = some (.ref C)
  ini : ∃ (g : Addr) (fd : FuncData) (ps : List Str), PySem.W.findIn K (.ref C) "__init__" = some (some (.ref g)) ∧ PySem.W.typeIn K (.ref g) = some (.type "function") ∧ FnOk P w K mg base CX0 k g fd ps (sp_exi K C n) ∧ Binds K fd ps []
theorem made_eq {H1 : Hp} {a dx C : Addr} {n : Str} {v : V} {o : HO} (na : H1 a = none) (ne : dx ≠ a) :
    upd (del (upd (upd (upd H1 a (exo a C none)) dx (exd dx [(n, v)])) a (exo a C (some dx))) a) dx o = upd H1 dx o := by
  funext b
  by_cases h1 : b = dx
  · subst h1; rw [upd_same, upd_same]
  · rw [upd_ne h1, upd_ne h1]
    by_cases h2 : b = a
    · subst h2; rw [del_same, na]
    · rw [del_ne h2, upd_ne h2, upd_ne h1, upd_ne h2]
section
variable {X : Cx} {k j : Nat} {C : Addr} {x n : Str} {e : Expr} {es : List Expr} {t : TA} {W : WX} {p pos pos2 : Pos}
/-- the reading of the class called with v -/
theorem rais_read {K : PySem.W.Frag} {v : V} {H1 : Hp} {Q : XK} (h : ∀ d, H1 d = none → Q (.ref C) (some d) (upd H1 d (.xd [(n, v)]))) :
    [v].length ≤ 1000 ∧ ∀ a, H1 a = none → sp_exi K C n (.ref a :: ([v] ++ [])) (upd H1 a (exo a C none))
      (fun v H2 => v = .non ∧ ∃ (d : Addr) (fs : List (Str × V)), H2 a = some (exo a C (some d)) ∧ H2 d = some (exd d fs) ∧ H1 d = none ∧ Q (.ref C) (some d) (upd (del H2 a) d (.xd fs))) (fun _ _ _ => False) := by
  refine ⟨by show 1 ≤ 1000; decide, fun a na => ⟨a, v, rfl, upd_same, fun dx nd ne => ⟨rfl, dx, [(n, v)], upd_same, ?_, ?_, ?_⟩⟩⟩
  · rw [upd_ne ne, upd_same]
  · rw [upd_ne ne] at nd; exact nd
  · rw [made_eq na ne]
    refine h dx ?_
    rw [upd_ne ne] at nd; exact nd
theorem ps_rais (R : Rais X.prog X.w X.K X.mg X.base k x C n) (hc : X.calm = true) (hr : Room j X.A) (hk : k + 1 ≤ j) (tk : Takes X W) (hg : Gl X x) (ha : PA X (e :: es) t)
    (hdb : (x == ("__debug__" : Str)) = false := by
          decide) (he : starEach (e :: es) X.env = (false, eval e X.env) :: starEach es X.env := by rfl)
    (hpl : (backTo pos (starEach es X.env)).any (·.1) = false := by rfl) :
    PS X (.Raise (some (.Call (.Name x p) (e :: es) [] pos)) none pos2) (fun _ σ H => tMkO C (sp_exi X.K C n) [] t σ H fun cls d H' => W cls d σ H') := by
  obtain ⟨g, fd, ps, i1, i2, F, b⟩ := R.ini
  exact ps_raise hc tk (pmk_oex R.oex i1 i2 F (hr.mono hk) b .nil pass0 hg R.hm ha hdb he hpl)
end
/-! ### a method that may raise -/
structure MetX (P : Program) (w : World) (K : PySem.W.Frag) (mg : Str → Option Value) (base : Heap) (k : Nat) (C : Addr) (m : Str) (sp : Sp) : Prop where
  ex : ∃ (f : Addr) (fd : FuncData) (ps : List Str), Cls K C ∧ Meth K C m f ∧ FnOk P w K mg base (L2.CX P w) k f fd ps sp ∧ Binds K fd ps []
section
variable {X : Cx} {k j : Nat} {C : Addr} {m : Str} {sp : Sp} {pos apos : Pos} {e o : Expr} {es : List Expr} {ta : TE} {t : TA} {E : XK}
theorem pe_mtX {pl : Sem Bool} (cl : MetX X.prog X.w X.K X.mg X.base k C m sp) (hr : Room j X.A) (hk : k ≤ j) (hx : Passes (L2.CX X.prog X.w) X E) (he : PE X o ta) (ha : PA X (e :: es) t)
    (hst : starEach (e :: es) X.env = (false, eval e X.env) :: starEach es X.env := by rfl)
    (hpl : (backTo pos (starEach es X.env)).any (·.1) = false := by rfl)
    (ht : eval (.Call (.Attribute o m apos) (e ::
          es) [] pos) X.env = (do
        let v ← eval o X.env
        standAt apos.atName
        let (g, fst) ← holding [v] (getMethod v m pl)
        callWith pos g fst (backTo pos (starEach (e :: es) X.env)) (backToKw pos (keywordEach [] X.env))) := by rfl) :
    PE X (.Call (.Attribute o m apos) (e :: es) [] pos) (tMeth C m sp [] E ta t) := by
  obtain ⟨f, fd, ps, c, me, F, b⟩ := cl.ex
  exact pe_meth (pl := pl) he c me F (hr.mono hk) b .nil hx ha hst hpl ht
end
/-! ### isinstance(e, c), e the caught error, an own one with a dict -/
structure IsEx (K : PySem.W.Frag) (D : Addr) : Prop where
  cl : (PySem.W.clsIn K D).isSome = true
  ga : PySem.W.findIn K (.ref D) "__getattribute__" = some (some (.builtin "BaseException.__getattribute__"))
  gg : PySem.W.findIn K (.ref D) "__getattr__" = some none
  sb : PySem.W.subIn K (.ref D) (.type "BaseException") = some true
  ca : PySem.W.findIn K (.ref D) "__class__" = some (some (.builtin "object.__class__"))
  sp : PySem.W.specialIn K (.builtin "object.__class__") "__get__" = some (some (.builtin "getset_descriptor.__get__"))
  tk : PySem.W.takesIn K (.builtin "object.__class__") = some true
  mr : PySem.W.mroIn K D (.type "object") = some true
def rIsO (K : PySem.W.Frag) (D a : Addr) (cls : Value) (d : Option Addr) : List V → Hp → VK → Prop := fun xs H Q => ∃ (c : V) (cv : Value) (b : Bool) (dd : Addr) (fs : List (Str × V)), xs = [.ref a, c] ∧ cls = .ref D ∧ d = some dd ∧ (∀ u, RelV c u → u = cv) ∧ H dd = some (.xd fs) ∧ PySem.W.kitOne K (.ref D) cv = some b ∧ Q (.bl b) H
theorem call_isO {X : Cx} {a D : Addr} {cls : Value} {d : Option Addr} {oe : Obj} {pn : List (Addr × Obj)} (C : IsEx X.K D) (hz : Zc cls d oe) (hf : ∃ vs, oe.data = .fields vs) : CallR (X.suite a ((a, oe) :: pn)) (.builtin "isinstance") (rIsO X.K D a cls d) := by
  intro pins s σ H xs
        us Q I r h
  obtain ⟨c, cv, b, dd, fs, rfl, rfl, rfl, hcv, ed, e, q⟩ := h
  obtain ⟨u1, us', rfl, r1, r2⟩ : ∃ u1 us', us = u1 :: us' ∧ RelV (V.ref a) u1 ∧ Vals [c] us' := by
    cases r with
    | cons r1 r2 => exact ⟨_, _, rfl, r1, r2⟩
  obtain ⟨u2, rfl, rb⟩ := vals1 r2
  have e1 : u1 = Value.ref a := r1
  subst e1
  have e2 := hcv _ rb
  subst e2
  obtain ⟨at_, _⟩ := I.pin (a, oe) (List.mem_append_left _ List.mem_cons_self)
  obtain ⟨vs, hv⟩ := hf
  have hx : ObjOk X.prog X.w H s.heap dd (.xd fs) := I.hok dd _ ed
  obtain ⟨mA, hns, hr⟩ := hx
  obtain ⟨od, ho, hl⟩ :=
        lookIn_ns hns
  have J : PySem.W.InstAt s.heap a oe D (some od) := by
    refine ⟨at_, hz.1, ?_, ?_⟩
    · unfold PySem.W.notCls
      rw [hv] <;> rfl
    · rw [hz.2]; exact ho
  refine PySem.W.kia_one (PySem.W.kitx_exc C.cl C.ga C.gg C.sb C.ca C.sp C.tk C.mr) I.kIn J e (fun z => nomatch z) ?_
  intro tk
  exact ⟨.bl b, H, I.kept (t' := tk) fun _ _ z => z, rfl, q⟩
/-- what is taken may tell of the number of slots -/
theorem Takes.len {X : Cx} {W W' : WX} (t : Takes X W) (h : ∀ c d σ H, σ.length = X.N.length → W' c d σ H → W c d σ H) : Takes X W' := by
  rintro u s' ⟨a, B, sI, pins, σ, H, cls, d, e, I, nb, up, sky, na, os, ag, w⟩
  exact t u s' ⟨a, B, sI, pins, σ, H, cls, d, e, I, nb, up, sky, na, os, ag, h _ _ _ _ I.len w⟩
end LW

set_option Elab.async false
set_option linter.all false
set_option maxRecDepth 100000
set_option maxHeartbeats 4000100
/-! repr of a list [text, data, bool], the data an empty dict or without dicts -/
namespace LW
open L2 PySem.Spec PyProof.Rows PySem
section
variable {X : Cx}
/-- {}: its address is not that of sys.modules -/
def tDNewS : TE := fun _ H Q => ∀ p, H p = none → p ≠ sysModules → Q (.ref p) (upd H p (.dK []))
theorem pe_dnewS {pos : Pos} : PE X (.Dict [] [] pos) tDNewS := by
  refine ⟨fun pins s σ H
        Q I h => ?_⟩
  have big : s.heap.objs.size ≠ sysModules := by
    obtain ⟨o, es, ep, e, _⟩ := I.ok.mod.glob
    have b1 : (3 : Nat) < s.heap.objs.size := Heap.lt_size (I.bk _ _ e)
    have b2 : s.heap.objs.size ≠ (1 : Nat) := by omega
    exact b2
  refine wpAny_Dict_empty ⟨.ref s.heap.objs.size, _, ?_, rfl, h _ (I.hok.fresh (Nat.le_refl _)) big⟩
  exact I.laid (t' := s.toks) (a := s.heap.objs.size) (o := .dK []) (fun _ _ q => Heap.get?_push_of_some _ q) (Nat.le_refl _) (dk_empty s.heap I.big)
theorem call_reprS (quiet : X.A.guards = some []) {k : Nat} (hr : Room k X.A) : CallR X (.builtin "repr") (fun xs H Q => ∃ (a : Addr) (vs : List V) (x : Str) (d : PyData) (b : Bool), xs = [.ref a] ∧ SqL X.K H a vs ∧ DAll X.K H vs [.str x, d, .bool b] ∧ (d.hasDict = false ∨ d = .dict []) ∧
    (PyData.list [.str x, d, .bool b]).showable = true ∧ (PyData.list [.str x, d, .bool b]).depth ≤ 60 ∧ (PyData.list [.str x, d, .bool b]).shown.length ≤ sizeLine ∧ Q (.str (PyData.list [.str x, d, .bool b]).shown) H) := by
  intro pins s σ H xs
        us Q I r h
  obtain ⟨a, vs, x, d, b, rfl, sq, all, hd, hs, hdep, hsz, q⟩ := h
  rcases hd with hd | rfl
  · refine call_reprD quiet hr pins s σ H _ us Q I r ⟨a, _, rfl, D.lst' sq all, hs, ?_, hdep, hsz, q⟩
    simp [PyData.hasDict, PyData.hasDictAll, hd]
  · obtain ⟨u, rfl, ru⟩ := vals1 r
    obtain rfl : u = Value.ref
          a := ru
    have un := hr.un
    obtain ⟨v0, w0, rfl, d0, all⟩ : ∃ v0 w0, vs = v0 :: w0 ∧ D X.K H v0 (.str x) ∧ DAll X.K H w0 [.dict [], .bool b] := by
      cases vs with
      | nil => exact absurd all.len (by simp)
      | cons v0 w0 => exact ⟨v0, w0, rfl, all.all 0 _ _ rfl rfl, by have := all.len; simpa using this, fun i v e h1 h2 => all.all (i + 1) v e h1 h2⟩
    obtain ⟨v1, w1, rfl, d1, all⟩ : ∃ v1 w1, w0 = v1 :: w1 ∧ D X.K H v1 (.dict []) ∧ DAll X.K H w1 [.bool b] := by
      cases w0 with
      | nil => exact absurd all.len (by simp)
      | cons v0 w0 => exact ⟨v0, w0, rfl, all.all 0 _ _ rfl rfl, by have := all.len; simpa using this, fun i v e h1 h2 => all.all (i + 1) v e h1 h2⟩
    obtain ⟨v2, rfl, d2⟩ : ∃ v2, w1 = [v2] ∧ D X.K H v2 (.bool b) := by
      cases w1 with
      | nil => exact absurd all.len (by simp)
      | cons v0 w0 =>
        have ln := all.len
        cases w0 with
        | nil => exact ⟨v0, rfl, all.all 0 _ _ rfl rfl⟩
        | cons y z => simp at ln
    obtain ⟨its, rv, ⟨o, n, ho, hc, _, hdat⟩, _⟩ := I.list sq
    cases d0
    cases d1 with
    | @dct p hp ne =>
    cases d2
    obtain ⟨t, u1, u2, rfl, e1, e2⟩ : ∃ t u1 u2, its = [.str x t, u1, u2] ∧ u1 = .ref p ∧ u2 = .bool b := by
      cases rv with
      | cons r0 rv =>
        cases rv with
        | cons r1 rv =>
          cases rv with
          | cons r2 rv =>
            cases rv
            obtain ⟨t, rfl⟩ := r0
            exact ⟨t, _, _, rfl, r1, r2⟩
    subst e1
    subst e2
    obtain ⟨as1, rd, off⟩ : ∃ as, Reads s.heap (.ref p) (.dict []) as ∧ sysModules ∉ as := by
      obtain ⟨_, _, ws, kv, o', es, ep, ho', ⟨hc', _, _⟩, hd', _, prs, _⟩ := I.hok _ _ hp
      cases kv
      have e0 : es.toList = [] := by
        cases q : es.toList with
        | nil => rfl
        | cons x r => rw [q] at prs; cases prs
      refine ⟨p :: [] ++ [], Reads.dict ho' hc' hd' (as := []) (bs := []) ?_ ?_, ?_⟩
      · rw [e0]; exact .nil
      · rw [e0]; exact .nil
      · simpa using fun z => ne z.symm
    have RA : ReadsAll s.heap [.str x t, .ref p, .bool b] [.str x, .dict [], .bool b] ([] ++ (as1 ++ ([] ++ []))) := .cons (.str x t) (.cons rd (.cons (.bool b) .nil))
    have hz : (listText (PyData.shownAll [.str x, .dict [], .bool b])).length ≤ sizeLine := hsz
    obtain ⟨bs, hb, hk⟩ := ReprAllK.of_readsAll (prog := X.prog) (w := X.w) RA (by simpa [PyData.showable] using hs) (fun _ hm => off (by simpa using hm)) (fun y hy => Nat.le_trans (listText_mem_le hy) hz)
    have hna : a ∉ bs := by
      refine not_mem_of_deeper (Reads.list ho hc hdat RA) ?_ hb
      simp only [PyData.depth]
      omega
    have dd : (PyData.list [.str x, .dict [], .bool b]).depth = PyData.depthAll [.str x, .dict [], .bool b] + 1 := by simp only [PyData.depth]
    refine call_repr_slot (by omega) ⟨o, ho, hc⟩ F.slot_list_repr.toG ?_
    refine call_list_reprK (x := .str x t) (l := [.ref p, .bool b]) ho hc hdat hna rfl (fun i y e => hk.item i y (by simpa using e)) quiet (fun b _ => Clear.nil b) ?_ (fun _ _ e => e) ?_ hz
    · show X.A.units + 1 + _ < cLine
      omega
    · intro h' u tk keep
      exact ⟨_, _, rfl, V.str _, H, I.kept keep, ⟨_, rfl⟩, q⟩
end
end LW

set_option Elab.async false
set_option linter.all false
set_option maxRecDepth 100000
set_option maxHeartbeats 4000100
/-! repr of data in which empty dicts may stand at any place -/
namespace LW
open L2 PySem.Spec PyProof.Rows PySem
/-- v is the data d, and nothing of it stands where sys.modules does -/
inductive DO (K : PySem.W.Frag) (H : Hp) : V → PyData → Prop
  | non : DO K H .non .none
  | bl (b : Bool) : DO K H (.bl b) (.bool b)
  | int (i : Int) : DO K H (.int i) (.int i)
  | str (x : Str) : DO K H (.str x) (.str x)
  | lst {a : Addr} {xs : List V} {ds : List PyData} (h : SqL K H a xs) (ne : a ≠ sysModules) (len : xs.length = ds.length) (all : ∀ (i : Nat) (v : V) (d : PyData), xs[i]? = some v → ds[i]? = some d → DO K H v d) : DO K H (.ref a) (.list ds)
  | tup {a : Addr} {xs : List V} {ds : List PyData} (h : SqT K H a xs) (ne : a ≠ sysModules) (len : xs.length = ds.length) (all : ∀ (i : Nat) (v : V) (d : PyData), xs[i]? = some v → ds[i]? = some d → DO K H v d) : DO K H (.ref a) (.tuple ds)
  | dct {a : Addr} (h : H a = some (.dK [])) (ne : a ≠ sysModules) : DO K H (.ref a) (.dict [])
section
variable {K : PySem.W.Frag} {H H' : Hp} {v : V} {d : PyData}
theorem DO.dat (h : DO K H v d) : D K H v d := by
  induction h with
  | non => exact .non
  | bl b => exact .bl b
  | int i => exact .int i
  | str x => exact .str x
  | lst h _ len _ ih => exact .lst h len ih
  | tup h _ len _ ih => exact .tup h len ih
  | dct h ne => exact .dct h ne
theorem DO.same (s : Same H H') (h : DO K H v d) : DO K H' v d := by
  induction h with
  | non => exact .non
  | bl b => exact .bl b
  | int i => exact .int i
  | str x => exact .str x
  | lst h ne len _ ih => exact .lst (s.seq h) ne len ih
  | tup h ne len _ ih => exact .tup (seqT_same s h) ne len ih
  | dct h ne => exact .dct (s _ _ h) ne
structure DOs (K : PySem.W.Frag) (H : Hp) (xs : List V) (ds : List PyData) : Prop where
  len : xs.length = ds.length
  all : ∀ (i : Nat) (v : V) (d : PyData), xs[i]? = some v → ds[i]? = some d → DO K H v d
theorem DOs.nil : DOs K H [] [] := ⟨rfl, fun i v d h => by simp at h⟩
theorem DOs.cons {xs : List V} {ds : List PyData} (h : DO K H v d) (t : DOs K H xs ds) : DOs K H (v :: xs) (d :: ds) := by
  refine ⟨by simp [t.len], fun i u e h1 h2 => ?_⟩
  cases i with
  | zero => cases h1; cases h2; exact h
  | succ i => exact t.all i u e h1 h2
theorem DOs.snoc {xs : List V} {ds : List PyData} (t : DOs K H xs ds) (h : DO K H v d) : DOs K H (xs ++ [v]) (ds ++ [d]) := by
  refine ⟨by simp [t.len], fun i u e h1 h2 => ?_⟩
  rcases Nat.lt_or_ge i xs.length with y | y
  · rw [List.getElem?_append_left y] at h1
    rw [List.getElem?_append_left (by rw [← t.len]; exact y)] at h2
    exact t.all i u e h1 h2
  · rw [List.getElem?_append_right y] at h1
    rw [List.getElem?_append_right (by rw [← t.len]; exact y)] at h2
    rw [t.len] at h1
    cases hj : i - ds.length with
    | zero =>
      rw [hj] at h1 h2
      cases h1
      cases h2
      exact h
    | succ j => rw [hj] at h1; simp at h1
theorem DOs.same {xs : List V} {ds : List PyData} (s : Same H H') (t : DOs K H xs ds) : DOs K H' xs ds := ⟨t.len, fun i v d h1 h2 => (t.all i v d h1 h2).same s⟩
theorem DO.list {a : Addr} {xs : List V} {ds : List PyData} (h : SqL K H a xs) (ne : a ≠ sysModules) (t : DOs K H xs ds) : DO K H (.ref a) (.list ds) := .lst h ne t.len t.all
end
section
variable {X : Cx} {pins : List (Addr × Obj)} {σ :
      L2.St} {H : Hp} {s : Shared}
theorem DO.reads (I : Inv X pins σ H s) {v : V} {d : PyData} (h : DO X.K H v d) : ∀ u, RelV v u → ∃ as, Reads s.heap u d as ∧ sysModules ∉ as := by
  have app : ∀ a b : List Addr, sysModules ∉ a → sysModules ∉ b → sysModules ∉ a ++ b := fun a b h1 h2 z => (List.mem_append.mp z).elim h1 h2
  have own : ∀ (a : Addr) (as : List Addr), a ≠ sysModules → sysModules ∉ as → sysModules ∉ a :: as := fun a as h1 h2 z => (List.mem_cons.mp z).elim (fun e => h1 e.symm) h2
  induction h with
  | non => intro u r; cases r; exact ⟨_, .none, by simp⟩
  | bl b => intro u r; cases r; exact ⟨_, .bool b, by simp⟩
  | int i => intro u r; obtain ⟨t, rfl⟩ := r; exact ⟨_, .int i t, by simp⟩
  | str x => intro u r; obtain ⟨t, rfl⟩ := r; exact ⟨_, .str x t, by simp⟩
  | lst h ne len all ih =>
    intro u r
    cases r
    obtain ⟨its, rv, ⟨o, n, ho, hc, _, hd⟩, _⟩ := I.list h
    obtain ⟨as, hr, off⟩ := readsAll_of (P := fun as => sysModules ∉ as) (h := s.heap) (us := its) (by simp) app (by rw [← rv.length, len]) fun i u d h1 h2 => by
      obtain ⟨x, e, rx⟩ := vals_get' rv h1
      exact ih i x d e h2 u rx
    exact ⟨_, .list ho hc hd hr, own _ _ ne off⟩
  | tup h ne len all ih =>
    intro u r
    cases r
    obtain ⟨its, rv, ⟨o, ho, hc, n, hd⟩, _⟩ := I.tuple h
    obtain ⟨as, hr, off⟩ := readsAll_of (P := fun as => sysModules ∉ as) (h := s.heap) (us := its) (by simp) app (by rw [← rv.length, len]) fun i u d h1 h2 => by
      obtain ⟨x, e, rx⟩ := vals_get' rv h1
      exact ih i x d e h2 u rx
    exact ⟨_, .tuple ho hc hd hr, off⟩
  | dct h ne =>
    intro u r
    cases r
    obtain ⟨_, _, vs, kv, o, es, ep, ho, ⟨hc, _, _⟩, hd, _, prs, _⟩ := I.hok _ _ h
    cases kv
    have e0 : es.toList = [] := by
      cases q : es.toList with
      | nil => rfl
      | cons x r => rw [q] at prs; cases prs
    refine ⟨_, Reads.dict ho hc hd (as := []) (bs := []) ?_ ?_, own _ _ ne (by simp)⟩
    · rw [e0]; exact .nil
    · rw [e0]; exact .nil
theorem call_reprA (quiet : X.A.guards = some []) {k : Nat} (hr : Room k X.A) : CallR X (.builtin "repr") (fun xs H Q => ∃ (a : Addr) (d : PyData), xs = [.ref a] ∧ (DO X.K H (.ref a) d ∨ (D X.K H (.ref a) d ∧ d.hasDict = false)) ∧ d.showable = true ∧ d.depth ≤ 60 ∧ d.shown.length ≤ sizeLine ∧ Q (.str d.shown) H) := by
  intro pins s σ H xs
        us Q I r h
  obtain ⟨a, d, rfl, hd, hs, hdep, hsz, q⟩ := h
  rcases hd with hd | ⟨hd, hn⟩
  · obtain ⟨u, rfl, ru⟩ := vals1 r
    obtain rfl : u = Value.ref
          a := ru
    obtain ⟨as, rr, off⟩ := hd.reads I _ rfl
    have un := hr.un
    refine repr_of_reads' rr hs (fun _ => off) quiet (by omega) (fun _ _ e => e) (fun h' u tk hk => ?_) hsz
    exact ⟨.str d.shown, H, I.kept hk, ⟨_, rfl⟩, q⟩
  · exact call_reprD quiet hr pins s σ H _ us Q I r ⟨a, d, rfl, hd, hs, hn, hdep, hsz, q⟩
end
/-! displays and + : the new address is not that of sys.modules -/
section
variable {X : Cx} {es : List Expr} {t : TA} {pos : Pos} {pins : List (Addr × Obj)} {σ : L2.St} {H : Hp} {s : Shared}
theorem big_of (I : Inv X pins σ H s) : s.heap.objs.size ≠ sysModules := by
  obtain ⟨o, es, ep, e, _⟩ := I.ok.mod.glob
  have b1 : (3 : Nat) < s.heap.objs.size := Heap.lt_size (I.bk _ _ e)
  have b2 : s.heap.objs.size ≠ (1 : Nat) := by omega
  exact b2
def tLstS (t : TA) : TE := fun σ H Q => t σ H fun xs H1 => xs.length ≤ sizeLine ∧ ∀ p, H1 p = none → p ≠ sysModules → Q (.ref p) (upd H1 p (.lst xs))
theorem pe_lstS (h : PA X es t) : PE X (.List es pos) (tLstS t) := by
  refine ⟨fun pins s σ H Q
        I hq => ?_⟩
  refine wpAny_List_spliced (thn (h.run pos pins s σ H _ I hq) fun us s1 ⟨xs, H1, I1, r,
        z, q⟩ => ⟨by rw [← r.length]; exact z, ?_⟩)
  have hf : H1 s1.heap.objs.size = none :=
        I1.hok.fresh (Nat.le_refl _)
  refine ⟨.ref s1.heap.objs.size, upd H1 s1.heap.objs.size (.lst xs), I1.laid (t' := s1.toks) (fun b u e => Heap.get?_push_of_some _ e) (Nat.le_refl _) ?_, rfl, q _ hf (big_of I1)⟩
  exact ⟨z, us, 0, r, Heap.get?_push_size
        _ rfl⟩
def tTupS (t : TA) : TE := fun σ H Q => t σ H fun xs H1 => xs.length ≤ sizeLine ∧ ∀ p, H1 p = none → p ≠ sysModules → Q (.ref p) (upd H1 p (.tup xs))
theorem pe_tupS {x1} (h : PA X es t) : PE X (.Tuple es x1 pos) (tTupS t) := by
  refine ⟨fun pins s σ H Q
        I hq => ?_⟩
  refine wpAny_Tuple_spliced (thn (h.run pos pins s σ H _ I hq) fun us s1 ⟨xs, H1, I1, r,
        z, q⟩ => ⟨by rw [← r.length]; exact z, ?_⟩)
  have hf : H1 s1.heap.objs.size = none :=
        I1.hok.fresh (Nat.le_refl _)
  refine ⟨.ref s1.heap.objs.size, upd H1 s1.heap.objs.size (.tup xs), I1.laid (t' := s1.toks) (fun b u e => Heap.get?_push_of_some _ e) (Nat.le_refl _) ?_, rfl, q _ hf (big_of I1)⟩
  exact ⟨z, us, r, ⟨_, Heap.get?_push_size
        _ rfl, rfl, _, rfl⟩⟩
def rCatS : R2 := fun x y H Q => ∃ l b xs zs, x = .ref l ∧ y = .ref b ∧ H l = some (.lst xs) ∧ H b = some (.lst zs) ∧ xs.length + zs.length ≤ sizeLine ∧ ∀ p, H p = none → p ≠ sysModules → Q (.ref p) (upd H p (.lst (xs ++ zs)))
theorem op_catS : OpR X (binaryOp .Add) rCatS := by
  intro pins s σ H x y v u
        Q I rx ry h
  obtain ⟨l, b, xs, zs, rfl, rfl, hH,
        hB, hz, q⟩ := h
  cases rx
  cases ry
  obtain ⟨z, its, n, r, hl, e⟩
        := I.lstM hH
  obtain ⟨z2, its2, n2, r2, hl2,
        e2⟩ := I.lstM hB
  have sz2 : its.toArray.size + its2.toArray.size ≤ sizeLine := by
    rw [List.size_toArray,
          List.size_toArray]
    omega
  refine PySem.P.add_list e e2 ?_ sz2
  have ea : its.toArray ++ its2.toArray = (its ++
        its2).toArray := by simp
  rw [ea]
  exact ⟨.ref _, _, I.lnew (t' := s.toks) (r.append r2) (by rw [List.length_append]; omega), rfl, q _ I.fresh (big_of I)⟩
end
end LW

set_option Elab.async false
set_option linter.all false
set_option maxRecDepth 100000
set_option maxHeartbeats 4000100
/-! own exceptions as values: C(e), C(f=e), C() -/
namespace LW
open L2 PySem.Spec PyProof.Rows PySem
/-- classes of one's own, then a built-in's line -/
def refsT (tail : List Value) : List Value → Bool
  | .ref _ :: r => refsT tail r
  | l => l == tail
section
variable {tail : List Value} {b : String} {r0 : List Value}
theorem refsT_by {φ : List Value → Prop} (h0 : φ tail) (h1 : ∀ c r, φ r → φ (.ref c :: r)) : ∀ l, refsT tail l = true → φ l := by
  intro l
  induction l with
  | nil => intro e; exact (eq_of_beq (show (([] : List Value) == tail) = true from e)) ▸ h0
  | cons x r ih =>
    intro e
    cases x with
    | ref c => exact h1 c r (ih e)
    | _ => exact (eq_of_beq (show (_ == tail) = true from e)) ▸ h0
theorem refsT_type (X : String) (l : List Value) (h : refsT tail l = true) : l.contains (.type X) = tail.contains (.type X) :=
  refsT_by (φ := fun l => l.contains (.type X) = tail.contains (.type X)) rfl (fun c r e => by rw [List.contains_cons, e]; rfl) l h
theorem refsT_go {self : Value} (p : refuseLoop self "__setattr__" tail = pure ()) (l : List Value) (h : refsT tail l = true) : refuseLoop self "__setattr__" l = pure () :=
  refsT_by (φ := fun l => refuseLoop self "__setattr__" l = pure ()) p (fun c r e => by rw [refuseLoop_ref]; exact e) l h
theorem refsT_some (ne : tail.isEmpty = false) (l : List Value) (h : refsT tail l = true) : l.isEmpty = false :=
  refsT_by (φ := fun l => l.isEmpty = false) ne (fun _ _ _ => rfl) l h
end
/-- what the written part says of such a class -/
structure OexG (K : PySem.W.Frag) (C : Addr) : Prop where
  ex : ∃ (B newId initId : String) (tail : List Value), ExcBaseFacts B newId initId tail ∧ StoreFacts B tail "object.__setattr__" "object" ∧ tail.isEmpty = false ∧ tail.contains (.type "object") = true ∧
    ∃ nm q N bs bm sn sub ab col dd k0 k1 k2 k3 k5, K.lookup C = some (excClassObj nm q C N bs bm true sn sub ab col dd k0 k1 k2 k3 k5 newId) ∧ refsT tail bm = true
  sa : PySem.W.findIn K (.ref C) "__setattr__" = some (some
        (.builtin "object.__setattr__"))
  kC : PySem.W.keepIn K
        (.ref C) = true
/-! ### the model's own call of such a class, with keywords -/
section
variable {prog : Program} {w : World} {A : Around} {E : Value → Shared → Prop} {R : Result → Shared → Prop} {h : Heap}
      {g : Array GenState} {d : Drawn} {t : Nat} {os : OsState}
variable {nm q : Str} {C N : Addr} {bs bm tail : List Value} {hdct : Bool} {sn : List Str} {sub : List Value} {ab : Bool} {col : Option Bool} {dd : Option Addr} {k0 k1 k2 k3 k5 : Option Value} {B newId initId : String}
variable {rest : List Value} {kw : List (Str × Value)}
theorem newK_check (F : ExcBaseFacts B newId initId tail) (hT : refsT tail bm = true) {Q : Unit → Shared → Prop} (hC : h.get? C = some (excClassObj nm q C N bs bm hdct sn sub ab col dd k0 k1 k2 k3 k5 newId))
    (hq : Q () ⟨h, g, d, t, os⟩) : wpAny (model prog w) A (checkBuiltinCall newId ⟨.ref C :: rest, kw⟩) Q E ⟨h, g, d, t, os⟩ := by
  have hB : (Value.ref C :: bm).contains (.type B) = true := by rw [List.contains_cons, refsT_type B bm hT, F.hasB, Bool.or_true]
  have hs := F.noStar
  simp only [checkBuiltinCall, F.newKind,
        F.newSplit, F.newRow]
  repeat (first | refine wpAny_loadPart_at hC ?_ | (refine wpAny_isSubtype_exc hC ?_; rw [hB]) | refine wpAny_staticBase_exc hC ?_ | refine wpAny_madeBy_exc hC ?_ | simp only [bne_self_eq_false, Bool.false_eq_true, if_false] | wp_step)
  exact hq
theorem newK_run (F : ExcBaseFacts B newId initId tail) (hT : refsT tail bm = true) (hC : h.get? C = some (excClassObj nm q C N bs bm hdct sn sub ab col dd k0 k1 k2 k3 k5 newId))
    (hz : rest.length ≤ sizeLine) (hq : R (.ok (.ret (.ref (h.objs.size + 1)))) ⟨(h.push (PySem.W.kdv_tup rest)).push (PySem.HandSPX.excO C h.objs.size), g, d, t, os⟩) :
    codeAny (model prog w) A (.builtin newId ⟨.ref C :: rest, kw⟩) R ⟨h, g, d, t, os⟩ := by
  have he := F.ends
  have hB : (Value.ref C :: bm).contains (.type B) = true := by rw [List.contains_cons, refsT_type B bm hT, F.hasB, Bool.or_true]
  have hA : (Value.ref C :: bm).contains (.type "AttributeError") = false := by rw [List.contains_cons, refsT_type _ bm hT, F.noAttr]; rfl
  have hN : (Value.ref C :: bm).contains (.type "NameError") = false := by rw [List.contains_cons, refsT_type _ bm hT, F.noName]; rfl
  refine codeAny_builtinAt
        F.entry ?_
  unfold Builtin.«BaseException.__new__» at ⊢
  refine PySem.wpAt_bind ?_
  show PySem.wpAt _ _ _ (stack >>= _) _ _ _
  refine PySem.wpAt_bind (PySem.wpAt_stack fun p below => PySem.wpAt_of_wpAny ?_)
  wp_walk
  refine PySem.wpAt_of_wpAny ?_
  rw [F.owner]
  repeat (first | with_reducible refine wpAny_madeHere_exc F.canon hC ?_ | with_reducible refine wpAny_loadPart_at hC ?_ | (with_reducible refine wpAny_isSubtype_exc hC ?_; first | rw [hB] | rw [hA] | rw [hN]) | wp_step)
  show R _ _
  rw [Heap.size_push]
  exact hq
theorem tcallK (F : ExcBaseFacts B newId initId tail) (hT : refsT tail bm = true) {gI : Value} {Q : PySem.Fin → Shared → Prop} (hC : h.get? C = some (excClassObj nm q C N bs bm hdct sn sub ab col dd k0 k1 k2 k3 k5 newId))
    (hi : PySem.W.Looks (model prog w) h (typeLookup (.ref C) "__init__") (some gI)) (hb : ∀ self, PySem.W.Looks (model prog w) h (bindSpecial gI self) (gI, [self])) (hz : rest.length ≤ sizeLine)
    (hq : codeAny (model prog w) A (.call gI ⟨.ref (h.objs.size + 1) :: rest, kw⟩)
      (fun r1 s1 => match r1 with | .ok (.ret v) => v = .none ∧ Q (.done (.ret (.ref (h.objs.size + 1)))) s1 | .ok _ => False | .error e => E e s1)
      ⟨(h.push (PySem.W.kdv_tup rest)).push (PySem.HandSPX.excO C h.objs.size), g, d, t, os⟩) :
    wpAny (model prog w) A (Builtin.«type.__call__» ⟨.ref C :: rest, kw⟩) Q E ⟨h, g, d, t, os⟩ := by
  repeat (first
        | with_reducible refine wpAny_loadPart_at hC ?_ | with_reducible refine wpAny_madeBy_exc hC ?_ | wp_step)
  refine codeAny_call_builtin_code (Code.quiet_builtin _ F.quiet) (newK_check F hT hC ?_)
  refine newK_run F hT hC hz ?_
  show wpAny _ _ _ _ _ _
  have k : ∀ b o, h.get? b = some o → ((h.push (PySem.W.kdv_tup rest)).push (PySem.HandSPX.excO C h.objs.size)).get? b = some o := fun b o e => Heap.get?_push_of_some _ (Heap.get?_push_of_some _ e)
  have hC1 := k _ _ hC
  have hG : ((h.push (PySem.W.kdv_tup rest)).push (PySem.HandSPX.excO C h.objs.size)).get? (h.objs.size + 1) = some (PySem.HandSPX.excO C h.objs.size) := by heap_get
  have hcc : (Value.ref C :: bm).contains (.ref C) = true := by simp
  have i1 := hi.keeps k
  have b1 := (hb (.ref (h.objs.size
        + 1))).keeps k
  unfold isInstance
  repeat (first | with_reducible refine wpAny_loadPart_at hG ?_ | (with_reducible refine wpAny_isSubtype_exc hC1 ?_; rw [hcc]) | wp_step)
  show wpAny _ _ (typeLookup
        (.ref C) _) _ _ _
  refine i1.at ?_
  refine wpAny_holding (wpAny_bind
        (b1.at ?_))
  refine wpAny_bind (wpAny_call (codeAny_mono
        hq fun r s' z => ?_))
  rcases r with e1 | (v1 | _ | _ | _) <;> first | exact z | exact z.elim | skip
  obtain ⟨rfl, z⟩ := z
  first
    | exact wpAny_pure
          (wpAny_pure z)
    | (wp_walk; exact z)
theorem callK (F : ExcBaseFacts B newId initId tail) (hT : refsT tail bm = true) {gI : Value} (hC : h.get? C = some (excClassObj nm q C N bs bm hdct sn sub ab col dd k0 k1 k2 k3 k5 newId))
    (hi : PySem.W.Looks (model prog w) h (typeLookup (.ref C) "__init__") (some gI)) (hb : ∀ self, PySem.W.Looks (model prog w) h (bindSpecial gI self) (gI, [self])) (hz : rest.length ≤ sizeLine)
    (hq : codeAny (model prog w) (A.under (.builtin "type.__call__" ⟨.ref C :: rest, kw⟩)) (.call gI ⟨.ref (h.objs.size + 1) :: rest, kw⟩) (PySem.W.InitBack (h.objs.size + 1) R)
      ⟨(h.push (PySem.W.kdv_tup rest)).push (PySem.HandSPX.excO C h.objs.size), g, d, t, os⟩) :
    codeAny (model prog w) A (.call (.ref C) ⟨rest, kw⟩)
          R ⟨h, g, d, t, os⟩ := by
  have f1 := tc_lookup
  have f2 := tc_bind (.ref C)
  have hTy : (⟨h, g, d, t, os⟩ : Shared).TypeIs (.ref
        C) "type" := ⟨_, hC, rfl⟩
  refine codeAny_of_tree ?_
  show wpAny _ _ (callAny (.ref
        C) _) _ _ _
  repeat (any_goals (first
        | assumption | with_reducible refine wpAny_loadPart_at hC ?_ | wp_step))
  refine ⟨rfl, ?_⟩
  refine codeAny_call_builtin_at (Code.quiet_builtin _ (by decide +kernel)) entry_typeCall ?_
  refine wpAny_check_type_call_sub hC ?_
  refine tcallK F hT hC hi hb hz ?_
  refine codeAny_mono hq fun
        r s' z => ?_
  rcases r with e | (v | _ | _
        | _) <;> exact z
end
/-! ### an attribute put, the first one -/
section
variable {X : Cx} {pins : List (Addr × Obj)} {σ : L2.St} {H : Hp} {s : Shared} {a C dx : Addr} {f : Str} {y : V} {u : Value} {Q : Unit → Shared → Prop} {E : Value → Shared → Prop} {A : Around}
theorem osaG {prog : Program} {w : World} {A : Around} {R : Result → Shared → Prop} {hp : Heap} {g : Array GenState} {d : Drawn} {t : Nat} {os : OsState} {K : PySem.W.Frag} {name : Str} {tk : Tok} {v : Value} {x C : Addr} {fv : Array Value} {cd : ClassData} {B so sb : String} {tail : List Value}
    (X : K.In hp) (S : StoreFacts B tail so sb) (ne : tail.isEmpty = false) (ob : tail.contains (.type "object") = true) (hx : hp.get? x = some { cls := .ref C, data := .fields fv }) (hcd : PySem.W.clsIn K C = some cd) (hm : refsT tail cd.mro = true) (hh : cd.hasDict = true) (ha : PySem.W.findIn K (.ref C) name = some none)
    (hq : ∀ h' tk' dx, (∀ b o, b ≠ x → hp.get? b = some o → h'.get? b = some o) → hp.objs.size ≤ dx → dx ≠ x → h'.get? x =
          some { cls := .ref C, dict := some dx, data := .fields fv } →
      h'.Ns1 dx (fun y => if y = name then some v else none) → R (.ok
            (.ret .none)) ⟨h', g, d, tk', os⟩) :
    codeAny (model prog w) A (.call (.builtin "object.__setattr__") ⟨[.ref x, .str name
          tk, v], []⟩) R ⟨hp, g, d, t, os⟩ := by
  have I : PySem.W.InstAt hp x { cls := .ref C, data := .fields fv } C none := ⟨hx, rfl, rfl, trivial⟩
  have SF := F.store_object
  have n1 := refsT_some ne _ hm
  have o1 : cd.mro.contains (.type "object") = true := (refsT_type "object" _ hm).trans ob
  have xs : x ≠ hp.objs.size := Nat.ne_of_lt (Heap.lt_size hx)
  have sub : PySem.W.Looks (model prog w) hp (isInstance (.ref x) (.type "object")) true := I.type.andThen (PySem.W.looks_mroIn X (by unfold PySem.W.mroIn; rw [hcd, Option.bind_some, if_neg (by rw [n1]; decide), o1]))
  refine codeAny_call_builtin SF.slot.plain SF.entry (@PySem.W.check_slot (model prog w) _ _ ⟨hp, g, d, t, os⟩ "object.__setattr__" "object" "__setattr__" (.ref x) [.str name tk, v] [] _ SF.kind SF.split sub (SF.args (.ref x) (.str name tk) v) ?_)
  have m1 : PySem.W.Looks (model prog w) hp (mroOf (.ref C)) cd.mro := (PySem.W.looks_clsIn X hcd).andThen .now
  have L3 : PySem.W.Looks (model prog w) hp (Builtin.ObjectAttr.storeTaker? none) none := .now
  have c1 : PySem.W.Looks (model prog w) hp (classData C) cd := PySem.W.looks_clsIn X hcd
  rw [PySem.W.osa_eq, refuse_eq]
  refine wpAny_bind (wpAny_bind (I.type.at (wpAny_bind (m1.at ?_))))
  rw [refsT_go (S.passes _) _ hm]
  refine wpAny_pure (wpAny_bind (I.type.at (wpAny_bind ((PySem.W.looks_findIn X ha).at (wpAny_bind (L3.at ?_))))))
  show wpAny _ _ (Builtin.ObjectAttr.storeInOwnDict (.ref x) (.ref C) (.str name tk) name v false) _ _ _
  obtain ⟨nm, bs, mro, ns, qn, hd, sn, sb,
        ab, col, del⟩ := cd
  dsimp only at hh
  subst hh
  unfold Builtin.ObjectAttr.storeInOwnDict Builtin.ObjectAttr.ownDictForStores
  repeat (first | with_reducible refine PySem.HandSPX.store_in_new ?_ ?_ | with_reducible refine wpAny_loadPart_at hx ?_ | with_reducible refine c1.at ?_ | wp_step)
  · exact ⟨_, #[], _, (Heap.get?_update_ne _ _ _ _ xs.symm).trans (Heap.get?_push_at rfl rfl), rfl, fun e he => absurd he (by simp), fun _ => rfl⟩
  · intro h' tk' hn' hs
    have x1 : (hp.push { cls := .type "dict", data := .dict #[] }).get? x = some { cls := .ref C, data := .fields fv } := Heap.get?_push_of_some _ hx
    refine hq h' tk' hp.objs.size (fun b o hb ho => ?_) (Nat.le_refl _) xs.symm ?_ hn'
    · exact (hs.2 b (Nat.ne_of_lt (Heap.lt_size ho))).trans ((Heap.get?_update_ne _ _ _
          _ hb).trans (Heap.get?_push_of_some _ ho))
    · exact (hs.2 x xs).trans (Heap.get?_update_self _ x1 rfl)
end
section
variable {X : Cx} {pins : List (Addr × Obj)} {σ : L2.St} {H : Hp} {s : Shared} {a C dx : Addr} {f : Str} {y : V} {u : Value} {Q : Unit → Shared → Prop} {E : Value → Shared → Prop} {A : Around}
theorem ostG (T : OexG X.K C) (I : Inv X pins σ H s) (e : H a = some (exo a C none)) (hno : PySem.W.findIn X.K (.ref C) f = some none) (ry : RelV y u)
    (h : ∀ dx s', H dx = none → dx ≠ a → Inv X pins σ (upd (upd H dx (exd dx [(f, y)])) a (exo a C (some dx))) s' → Q () s')
          : wpAny (model X.prog X.w) A (setAttr (.ref a) f u) Q E s := by
  obtain ⟨B, newId, initId, tail, F, S, ne, ob, nm, q, N, bs, bm, sn, sub, ab, col, dd, k0, k1, k2, k3, k5, hC, hbm⟩ := T.ex
  have hcl : PySem.W.clsIn X.K C = some { name := nm, bases := bs, mro := .ref C :: bm, ns := N, qualname := q, hasDict := true, slotNames := sn, subclasses := sub, abstract := ab, collection := col, hasDel := false } := by
    unfold PySem.W.clsIn
    rw [hC] <;> rfl
  obtain ⟨t1, ho⟩ := exo_at
        I.hok e
  obtain ⟨hp, g, d, t, os⟩ := s
  refine PySem.W.set_plain I.kIn (ox := { cls := .ref C, dict := none, data := .fields #[.ref t1, .none, .none, .none, .bool
        false, .none] }) (od := none) ⟨ho, rfl, rfl, trivial⟩ T.sa ?_
  refine osaG I.kIn S ne ob ho hcl (show refsT tail (.ref C :: bm) = true from hbm) rfl hno fun h' tk' dx k dn dne hx hn => ?_
  have fd : H dx = none := I.hok.fresh dn
  have bd : ∀ {b : Addr} {o : Obj}, hp.get? b = some o → b ≠ dx := fun {b o} z => Nat.ne_of_lt (Nat.lt_of_lt_of_le (Heap.lt_size z) dn)
  have ba : ∀ {b : Addr}, H b = none → b ≠ a := fun {b} n z => by
    rw [z, e] at n
    cases n
  have two : ∀ {b : Addr} {o u : HO}, H b = some o → u = exo a C none → o ≠ u → upd (upd H dx (exd dx [(f, y)])) a (exo a C (some dx)) b = some o := fun {b o u} eb eu n => by
    have hb : b ≠ a := fun z => n (by rw [eu]; rw [z, e] at eb; exact (Option.some.inj eb).symm)
    rw [upd_ne hb, upd_ne (ne_of_none eb fd)]
    exact eb
  have U : Un X.fs [] H (upd (upd H dx (exd dx [(f, y)])) a (exo a C (some dx))) hp h' := {
    keep := fun b o z n _ _ => k b o (ba n) z
    slot := fun b o z n _ _ => ⟨o.slots, k b o (ba n) z⟩
    free := fun b o z n _ => by
      rw [upd_ne (ba n), upd_ne (bd z)]
      exact n
    there := fun b o z _ => by
      by_cases hb : b = a
      · rw [hb]; exact ⟨_, hx⟩
      · exact ⟨o, k b o hb z⟩
    tups := fun b xs z => two z rfl exo_tup.symm
    frzs := fun b o v z => two z rfl exo_frz.symm
    tbls := fun b ps z => ⟨#[], by rw [two z rfl exo_tbl.symm]; simp⟩ }
  refine h dx _ fd dne (I.un (t' := tk') U fun b o z => ?_)
  by_cases hb : b = a
  · subst hb
    rw [upd_same] at z
    cases z
    exact exo_ok hx
  rw [upd_ne hb] at z
  by_cases hd : b = dx
  · subst hd
    rw [upd_same] at z
    cases z
    exact exd_ok hn (relO_put (fs := []) ry
          fun g => True.intro)
  rw [upd_ne hd] at z
  exact (I.hok b o z).stay (fun c v hc z => k c v (by
      rcases hc with hc | hc
      · rw [hc]; exact hb
      · exact at_ne e hc exo_own) z) (fun c hc => two hc rfl exo_own.symm) (fun c xs hc => two hc rfl exo_tup.symm)
end
/-- self.f = e in __init__ -/
def tOsG (K : PySem.W.Frag) (f : Str) (to te : TE) : TS := fun D σ H => te σ H fun y H1 => to σ H1 fun x H2 => ∃ a C : Addr, x = .ref a ∧ OexG K C ∧ PySem.W.findIn K (.ref C) f = some none ∧
  H2 a = some (exo a C none) ∧ ∀ dx, H2 dx = none → dx ≠ a → D.nx σ (upd (upd H2 dx (exd dx [(f, y)])) a (exo a C (some dx)))
section
variable {X : Cx} {o e : Expr} {to te : TE} {f : Str} {p' pos : Pos}
theorem ps_osG (ho : PE X o to) (he : PE X e te) (hs : swapsWith e (some (.Attribute o f p')) pos.line X.env = pure false := by rfl) : PS X (.Assign [.Attribute o f p'] e pos) (tOsG X.K f to te) := by
  refine ⟨fun pins s σ H
        D I h => ?_⟩
  refine plainObj_wpAny_Assign_Attribute (thn (he.run pins s σ H _ I h) ?_) hs
  rintro v s1 ⟨y, H1, I1, r1, q1⟩
  refine thn (ho.run pins s1 σ H1 _ I1 q1) ?_
  rintro u s2 ⟨x, H2, I2, r2, a, C, ex, T, hno, ea, q⟩
  subst ex
  obtain rfl : u = Value.ref
        a := r2
  exact ostG T I2 ea hno r1 fun dx s' n ne J => ⟨σ, _, J, q dx n ne⟩
end
/-! ### C(e), C(f=e) as a value -/
structure ExV (P : Program) (w : World) (K : PySem.W.Frag) (mg : Str → Option Value) (base : Heap) (k : Nat) (x : Str) (C : Addr) (n : Str) : Prop where
  oex : OexG K C
  no : PySem.W.findIn K (.ref C) n = some none
  hm : mg x = some (.ref C)
  ini : ∃ (g : Addr) (fd : FuncData) (ps : List Str), PySem.W.findIn K (.ref C) "__init__" = some (some (.ref g)) ∧ PySem.W.typeIn K (.ref g) = some (.type "function") ∧ FnOk P w K mg base CX0 k g fd ps (sp_exi K C n) ∧ Binds K fd ps [] ∧
    ∀ (s : Shared) (u v : Value), K.In s.heap → BindsTo s fd ⟨[u], [(n, v)]⟩ (ps.zip [u, v])
def tExV (C : Addr) (n : Str) (ta : TA) : TE := fun σ H Q => ta σ H fun vs H1 => ∃ y, vs = [y] ∧ ∀ a dx, H1 a = none → H1 dx = none → dx ≠ a → Q (.ref a) (upd (upd H1 dx (exd dx [(n, y)])) a (exo a C (some dx)))
theorem two_eq {H1 : Hp} {a dx C : Addr} {n : Str} {y : V} (ne : dx ≠ a) : upd (upd (upd H1 a (exo a C none)) dx (exd dx [(n, y)])) a (exo a C (some dx)) = upd (upd H1 dx (exd dx [(n, y)])) a (exo a C (some dx)) := by
  funext b
  by_cases h1 : b = a
  · rw [h1, upd_same, upd_same]
  · rw [upd_ne h1, upd_ne h1]
    by_cases h2 : b = dx
    · rw [h2, upd_same, upd_same]
    · rw [upd_ne h2, upd_ne h2, upd_ne h1]
section
variable {X : Cx} {pins : List (Addr × Obj)} {σ : L2.St} {H H1 : Hp} {s : Shared} {k j : Nat} {C g : Addr} {x n : Str} {y : V} {v : Value} {fd : FuncData} {ps : List Str} {Q : VK} {us : List Value} {kw : List (Str × Value)}
theorem run_exV (T : OexG X.K C) (iC : PySem.W.findIn X.K (.ref C) "__init__" = some (some (.ref g))) (tI : PySem.W.typeIn X.K (.ref g) = some (.type "function")) (F1 : FnOk X.prog X.w X.K X.mg X.base CX0 k g fd ps (sp_exi X.K C n))
    (hr : Room j X.A) (hk : k + 1 ≤ j) (I1 : Inv X pins σ H1 s) (rv : RelV y v) (hz : us.length ≤ sizeLine) (hb : ∀ (s : Shared) (u : Value), X.K.In s.heap → ps.length = 2 → BindsTo s fd ⟨u :: us, kw⟩ (ps.zip [u, v]))
    (q : ∀ a dx, H1 a = none → H1 dx = none → dx ≠ a → Q (.ref a) (upd (upd H1 dx (exd dx [(n, y)])) a (exo a C (some dx)))) :
    wpAny (model X.prog X.w) X.A (call (.ref C) us kw) (EP X pins σ Q) X.xe s := by
  obtain ⟨B, newId, initId, tail, F, S, ne, ob, nm, qn, N, bs, bm, sn, sub, ab, col, dd, k0, k1, k2, k3, k5, hC, hbm⟩ := T.ex
  obtain ⟨hp, gs, dr, tk, os⟩ := s
  have hsz : hp.objs.size ≤ hp.objs.size
        + 1 := Nat.le_succ _
  have hn : H1 (hp.objs.size + 1) = none
        := I1.hok.fresh hsz
  have kk : ∀ b o, hp.get? b = some o → ((hp.push (PySem.W.kdv_tup us)).push (PySem.HandSPX.excO C hp.objs.size)).get? b = some o := fun
        b o e => Heap.get?_push_of_some _ (Heap.get?_push_of_some _ e)
  have hG : ((hp.push (PySem.W.kdv_tup us)).push (PySem.HandSPX.excO C hp.objs.size)).get? (hp.objs.size + 1) = some (PySem.HandSPX.excO C hp.objs.size) := by heap_get
  have I2 : Inv X pins σ (upd H1 (hp.objs.size + 1) (exo (hp.objs.size + 1) C none)) ⟨(hp.push (PySem.W.kdv_tup us)).push (PySem.HandSPX.excO C hp.objs.size), gs, dr, tk, os⟩ :=
    I1.laid (t' := tk) (a := hp.objs.size + 1) (o := exo (hp.objs.size + 1) C none) (h' := (hp.push (PySem.W.kdv_tup us)).push (PySem.HandSPX.excO C hp.objs.size)) kk hsz (exo_ok hG)
  have r2 : Vals [V.ref (hp.objs.size + 1), y] [Value.ref (hp.objs.size + 1), v] := .cons rfl (.cons rv .nil)
  have want : sp_exi X.K C n [V.ref (hp.objs.size + 1), y] (upd H1 (hp.objs.size + 1) (exo (hp.objs.size + 1) C none)) (fun u H2 => u = .non ∧ Q (.ref (hp.objs.size + 1)) H2) E0 := by
    refine ⟨_, y, rfl, upd_same, fun dx nd ned => ⟨rfl, ?_⟩⟩
    rw [two_eq ned]
    rw [upd_ne ned] at nd
    exact q _ dx hn nd ned
  have hl : ps.length = 2 := (F1.len _ _ _ _ want).symm
  refine wpAny_call (callK F hbm (I1.kIn _ _ hC) (PySem.W.looks_findIn I1.kIn iC) (fun self => PySem.W.bind_fn I1.kIn self tI) hz ?_)
  refine codeAny_mono (F1.run _ X.stack _ _ ⟨Value.ref (hp.objs.size + 1) :: us, kw⟩ [Value.ref (hp.objs.size + 1), v] _ _ E0 ((hr.mono hk).make C us kw) (I2.env0.make C us kw) (hb _ _ I2.kIn hl) r2 want) fun r s' fin => ?_
  match r, fin with
  | .error er, fin => exact pass0 pins σ _ _ er s' I2 fin
  | .ok (.ret u), fin =>
    obtain ⟨v2, H2, os2, bare2, un2, hok2, rv2, ev, q2⟩ := fin
    subst ev
    obtain ⟨h2, g2, d2, t2,
          os'⟩ := s'
    exact ⟨rv2, .ref (hp.objs.size + 1), H2, I2.call' (ch := []) os2 un2 hok2 bare2 (fun b z => absurd z (by simp)), rfl, q2⟩
  | .ok .next, fin => exact fin.elim
  | .ok .brk, fin => exact fin.elim
  | .ok .cont, fin => exact fin.elim
end
section
variable {X : Cx} {k j : Nat} {C : Addr} {x n : Str} {e : Expr} {t : TE} {tk : TA} {kws : List Keyword} {p pos : Pos}
theorem pe_exP (c : ExV X.prog X.w X.K X.mg X.base k x C n) (hr : Room j X.A) (hk : k + 1 ≤ j) (hg : Gl X x) (he : PE X e t) (hdb : (x == ("__debug__" : Str)) = false := by decide)
    (hst : starEach [e] X.env = (false, eval e X.env) :: starEach [] X.env := by rfl) (hpl : (backTo pos (starEach [] X.env)).any (·.1) = false := by rfl) :
    PE X (.Call (.Name x p) [e] [] pos) (tExV C n (tCons t tNil)) := by
  obtain ⟨g, fd, ps, i1, i2, F, b, _⟩ := c.ini
  constructor
  intro pins s σ H Q I h
  refine wpAny_Call_Name_kw (ld_glob I hg c.hm ?_ hdb)
  refine PySem.W.callWith_K (h₀ := X.base) I.ok.mod.kin c.oex.kC (thn ((pa_cons he pa_nil (hs := hst)).run pos pins s σ H _ I h) ?_) hst hpl
  rintro us s2 ⟨vs, H2, I2, rv, y, ey, q⟩
  subst ey
  obtain ⟨u, rfl, ru⟩ := vals1 rv
  exact ⟨I2.kIn, run_exV (us := [u]) (kw := []) c.oex i1 i2 F hr hk I2 ru (by rw [sizeLine_eq]; show 1 ≤ 16777216; decide) (fun s v kin hl => b s [v, u] kin (by rw [hl]; rfl)) q⟩
theorem pe_exK (c : ExV X.prog X.w X.K X.mg X.base k x C n) (hr : Room j X.A) (hk : k + 1 ≤ j) (hg : Gl X x) (hkw : PK X kws tk) (hdb : (x == ("__debug__" : Str)) = false := by decide)
    (hall : (backToKw pos (keywordEach kws X.env)).all (·.1.isSome) = true := by rfl)
    (hks : (backToKw pos (keywordEach kws X.env)).filterMap (·.1) = [n] := by rfl)
    (hplain : ((backTo pos (starEach [] X.env)).any (·.1) || (backToKw pos (keywordEach kws X.env)).any (·.1.isNone)) = false := by rfl) :
    PE X (.Call (.Name x p) [] kws pos) (tExV C n tk) := by
  obtain ⟨g, fd, ps, i1, i2, F, _, b⟩ := c.ini
  constructor
  intro pins s σ H Q I h
  refine wpAny_Call_Name_kw (ld_glob I hg c.hm ?_ hdb)
  refine PySem.W.callWith_KW0 (first := []) (h₀ := X.base) I.ok.mod.kin c.oex.kC hall (thn (hkw.run pos pins s σ H _ I h) ?_) hplain
  rintro ws s2 ⟨zs, H2, I2, rz, y, ey, q⟩
  subst ey
  obtain ⟨u, rfl, ru⟩ := vals1 rz
  refine ⟨I2.kIn, ?_⟩
  rw [hks]
  exact run_exV (us := []) (kw := [(n, u)]) c.oex i1 i2 F hr hk I2 ru (by rw [sizeLine_eq]; show 0 ≤ 16777216; decide) (fun s v kin hl => b s v u kin) q
end
/-! ### C(), C without an __init__ of its own -/
structure ExN (K : PySem.W.Frag) (mg : Str → Option Value) (x : Str) (C : Addr) : Prop where
  ex : ∃ (B newId initId : String) (tail : List Value), ExcBaseFacts B newId initId tail ∧ PySem.W.findIn K (.ref C) "__init__" = some (some (.builtin initId)) ∧
    ∃ nm q N bs bm sn sub ab col dd k0 k1 k2 k3 k5, K.lookup C = some (excClassObj nm q C N bs bm true sn sub ab col dd k0 k1 k2 k3 k5 newId) ∧ refsT tail bm = true
  kC : PySem.W.keepIn K
        (.ref C) = true
  hm : mg x = some (.ref C)
def tExN (C : Addr) : TE := fun _ H Q => ∀ a, H a = none → Q (.ref a) (upd H a (exo a C none))
section
variable {X : Cx} {C : Addr} {x : Str} {p pos : Pos}
theorem pe_exN (c : ExN X.K X.mg x C) (hg : Gl X x) (hdb : (x == ("__debug__" : Str)) = false := by decide) : PE X (.Call (.Name x p) [] [] pos) (tExN C) := by
  obtain ⟨B, newId, initId, tail, F, iC, nm, qn, N, bs, bm, sn, sub, ab, col, dd, k0, k1, k2, k3, k5, hC, hbm⟩ := c.ex
  constructor
  intro pins s σ H Q I h
  refine wpAny_Call_Name_kw (ld_glob I hg c.hm ?_ hdb)
  refine PySem.W.callWith_KW0 (first := []) (kws := []) (h₀ := X.base) I.ok.mod.kin c.kC rfl (thn (pk_nil.run pos pins s σ H (fun vs H1 => vs = [] ∧ ∀ a, H1 a = none → Q (.ref a) (upd H1 a (exo a C none))) I ⟨rfl, h⟩) ?_) rfl
  rintro ws s2 ⟨zs, H1, I1, rz, e, q⟩
  subst e
  cases rz
  refine ⟨I1.kIn, ?_⟩
  obtain ⟨hp, gs, dr, tk, os⟩ := s2
  have hsz : hp.objs.size ≤ hp.objs.size
        + 1 := Nat.le_succ _
  have hn : H1 (hp.objs.size + 1) = none
        := I1.hok.fresh hsz
  have kk : ∀ b o, hp.get? b = some o → ((hp.push (PySem.W.kdv_tup [])).push (PySem.HandSPX.excO C hp.objs.size)).get? b = some o := fun b o e => Heap.get?_push_of_some _ (Heap.get?_push_of_some _ e)
  have hG : ((hp.push (PySem.W.kdv_tup [])).push (PySem.HandSPX.excO C hp.objs.size)).get? (hp.objs.size + 1) = some (PySem.HandSPX.excO C hp.objs.size) := by heap_get
  have I2 : Inv X pins σ (upd H1 (hp.objs.size + 1) (exo (hp.objs.size + 1) C none)) ⟨(hp.push (PySem.W.kdv_tup [])).push (PySem.HandSPX.excO C hp.objs.size), gs, dr, tk, os⟩ :=
    I1.laid (t' := tk) (a := hp.objs.size + 1) (o := exo (hp.objs.size + 1) C none) (h' := (hp.push (PySem.W.kdv_tup [])).push (PySem.HandSPX.excO C hp.objs.size)) kk hsz (exo_ok hG)
  refine wpAny_call (callK (rest := []) (kw := []) F hbm (I1.kIn _ _ hC) (PySem.W.looks_findIn I1.kIn iC) (fun self => by rw [F.init.bind]; exact .now) (by rw [sizeLine_eq]; show 0 ≤ 16777216; decide) ?_)
  refine PySem.HandSPX.init_base F (fun Y => refsT_type Y bm hbm) (I2.kIn _ _ hC) hG (by rw [sizeLine_eq]; show 0 ≤ 16777216; decide) fun h' t1 k hx => ?_
  have J := I2.write (t' := tk) (x := hp.objs.size + 1) (e := hp.objs.size + 1) (o := exo (hp.objs.size + 1) C none) (by rw [upd_same]; exact True.intro) (.inl rfl) k ⟨_, hx⟩ (exo_ok hx)
  have eu : upd (upd H1 (hp.objs.size + 1) (exo (hp.objs.size + 1) C none)) (hp.objs.size + 1) (exo (hp.objs.size + 1) C none) = upd H1 (hp.objs.size + 1) (exo (hp.objs.size + 1) C none) := by
    funext b
    by_cases hb : b = hp.objs.size + 1
    · rw [hb, upd_same, upd_same]
    · rw [upd_ne hb]
  rw [eu] at J
  exact ⟨rfl, .ref (hp.objs.size + 1), _, J, rfl, q _ hn⟩
end
/-! ### what is asked of such a value -/
/-- what stands at a: an exception, its dict with the fields fs -/
structure ExAt (H : Hp) (a C : Addr) (n : Str) (y : V) : Prop where
  ex : ∃ dx, H a = some (exo a C (some dx)) ∧ H dx = some (exd dx [(n, y)])
def rIsV (K : PySem.W.Frag) : List V → Hp → VK → Prop := fun xs H Q => ∃ (a C : Addr) (c : V) (cv : Value) (b : Bool), xs = [.ref a, c] ∧ (H a = some (exo a C none) ∨ ∃ n y, ExAt H a C n y) ∧ IsEx K C ∧ (∀ u, RelV c u → u = cv) ∧ PySem.W.kitOne K (.ref C) cv = some b ∧ Q (.bl b) H
section
variable {X : Cx}
theorem call_isV : CallR X (.builtin "isinstance") (rIsV X.K) := by
  intro pins s σ H xs
        us Q I r h
  obtain ⟨a, C, c, cv, b, rfl, ha, T, hcv, e, q⟩ := h
  obtain ⟨u1, us', rfl, r1, r2⟩ : ∃ u1 us', us = u1 :: us' ∧ RelV (V.ref a) u1 ∧ Vals [c] us' := by
    cases r with
    | cons r1 r2 => exact ⟨_, _, rfl, r1, r2⟩
  obtain ⟨u2, rfl, rb⟩ := vals1 r2
  have e1 : u1 = Value.ref a := r1
  subst e1
  have e2 := hcv _ rb
  subst e2
  have J : ∃ oe od, PySem.W.InstAt s.heap a oe C od := by
    rcases ha with ha | ⟨n, y, dx, ha, hd⟩
    · obtain ⟨t1, ho⟩ := exo_at I.hok ha
      exact ⟨_, none, ho, rfl, by unfold PySem.W.notCls; rfl, trivial⟩
    · obtain ⟨t1, ho⟩ := exo_at I.hok ha
      obtain ⟨mA, hns, rel⟩ := exd_at I.hok hd
      obtain ⟨od, h1, hl⟩ := lookIn_ns hns
      exact ⟨_, some od, ho, rfl, by unfold PySem.W.notCls; rfl, h1⟩
  obtain ⟨oe, od, J⟩ := J
  refine PySem.W.kia_one (PySem.W.kitx_exc T.cl T.ga T.gg T.sb T.ca T.sp T.tk T.mr) I.kIn J e (fun z => nomatch z) ?_
  intro tk
  exact ⟨.bl b, H, I.kept (t' := tk) fun _ _ z => z, rfl, q⟩
end
/-- e.n, e such a value -/
def tXv (K : PySem.W.Frag) (n : Str) (te : TE) : TE := fun σ H Q => te σ H fun x H1 => ∃ (a C : Addr) (y : V), x = .ref a ∧ ExAt H1 a C n y ∧ XfC K C ∧ PySem.W.findIn K (.ref C) n = some none ∧ Q y H1
theorem pe_xv {X : Cx} {e : Expr} {te : TE} {pos : Pos} {n : Str} (he : PE X e te) (hb : attributeBase e n X.env (eval e X.env) = eval e X.env := by rfl) : PE X (.Attribute e n pos) (tXv X.K n te) := by
  refine ⟨fun pins s σ H
        Q I h => ?_⟩
  refine attr_of hb (thn (he.run pins s σ H _ I h) ?_)
  rintro u s1 ⟨x, H1, I1, rx, a, C, y, rfl, ⟨dx, ha, hd⟩, T, hno, q⟩
  obtain rfl : u = Value.ref
        a := rx
  obtain ⟨t1, ho⟩ := exo_at I1.hok ha
  obtain ⟨mA, hns, hr⟩ := exd_at I1.hok hd
  obtain ⟨od, h1, hl⟩ := lookIn_ns hns
  have z := hr n
  rw [show List.lookup n [(n, y)] = some y from by simp [List.lookup]] at z
  obtain ⟨u, hu, ru⟩ := RelO.some_of (v := y) (o := mA n) z
  have J : PySem.W.InstAt s1.heap a _ C (some od) := ⟨ho, rfl, by unfold PySem.W.notCls; rfl, h1⟩
  exact PySem.HandSPX.exc_get I1.kIn J T.ga T.gg T.exC (PySem.W.findObj_own T.hdC hno rfl (by rw [hl, hu])) (handed_of ru) ⟨y, H1, I1.tok _, ru, q⟩
/-- l.count(b) in a list of bools -/
def rCountB (K : PySem.W.Frag) : V → List V → Hp → VK → Prop := fun x xs H Q => ∃ (a : Addr) (bs : List Bool) (k : Bool), x = V.ref a ∧ xs = [.bl k] ∧ SqL K H a (bs.map V.bl) ∧ Q (.int (countIn (.bool k) (bs.map PyData.bool))) H
theorem mt_countB {X : Cx} : MtR X "list.count" (rCountB X.K) := by
  intro pins s σ H x xs v us
        Q I rx rxs h
  obtain ⟨a, bs, k, rfl, rfl, hs, q⟩ := h
  obtain rfl : v = Value.ref
        a := rx
  obtain ⟨u, rfl, ru⟩ :=
        vals1 rxs
  obtain rfl : u = Value.bool k := ru
  obtain ⟨its, rv, hl, _⟩
        := I.list hs
  have ra : ∃ as, ReadsAll s.heap its (bs.map PyData.bool) as := by
    have gen : ∀ (bs : List Bool) (its : List Value), Vals (bs.map V.bl) its → ∃ as, ReadsAll s.heap its (bs.map PyData.bool) as := by
      intro bs
      induction bs with
      | nil => intro its r; cases r; exact ⟨_, .nil⟩
      | cons b bs ih =>
        intro its r
        cases r with
        | @cons _ u0 _ ur r1 r2 =>
          obtain rfl : u0 = Value.bool b := r1
          obtain ⟨as, h⟩ := ih _ r2
          exact ⟨_, .cons (.bool b) h⟩
    exact gen bs its rv
  obtain ⟨as, ra⟩ := ra
  refine count_list_bools (hp := s.heap) hl.isList ra ?_ ?_
  · rw [List.all_eq_true]
    intro d hd
    obtain ⟨b, _, rfl⟩ :=
          List.mem_map.mp hd
    rfl
  · exact ⟨.int _, H, I.tok _, ⟨_, rfl⟩, q⟩
/-- [x] * k -/
def rRepS : R2 := fun x y H Q => ∃ (l : Addr) (k : Nat) (v : V), x = .ref l ∧ y = .int (k : Nat) ∧ H l = some (.lst [v]) ∧ k ≤ 1000 ∧ ∀ p, H p = none → p ≠ sysModules → Q (.ref p) (upd H p (.lst (List.replicate k v)))
theorem op_repS {X : Cx} : OpR X (binaryOp .Mult) rRepS := by
  intro pins s σ H x y v u
        Q I rx ry h
  obtain ⟨l, k, v0, rfl, rfl, hH, hk, q⟩ := h
  cases rx
  obtain ⟨t, rfl⟩ := ry
  obtain ⟨z, its, n, r, hl, e⟩
        := I.lstM hH
  obtain ⟨u0, rfl, r0⟩ := vals1 r
  have small : k ≤ sizeLine := by rw [sizeLine_eq]; omega
  obtain ⟨ki, ek⟩ : ∃ ki : Int, ki = ((k : Nat) : Int) := ⟨_, rfl⟩
  obtain ⟨arr, ea⟩ : ∃ arr : Array Value, arr = ([u0] : List Value).toArray := ⟨_, rfl⟩
  have kn : ki.toNat = k := by rw [ek, Int.toNat_natCast]
  have e1 : arr.size * ki.toNat = k := by rw [ea, kn]; simp
  rw [← ea] at e
  have c1 : ¬ arr.size * ki.toNat > (2 ^ 63 - 1) / 8 := by rw [e1]; omega
  have c2 : ¬ (!Builtin.List.listFitsIndex ki) = true := by
    rw [fitsIndex_both (by omega) (by omega)]
    decide
  have c3 : ¬ Builtin.List.listTooLong (arr.size * ki.toNat) = true := by
    rw [e1, notLongL small]
    decide
  have rep : List.foldl (fun x1 x2 => x1 ++ x2) #[] (List.replicate (if arr.isEmpty = true then 0 else ki.toNat) arr) = (List.replicate k u0).toArray := by
    rw [ea, if_neg (by simp), kn]
    have go := foldl_rep [u0] k []
    rw [List.nil_append] at go
    have fl : (List.replicate k [u0]).flatten = List.replicate k u0 := by simp
    rw [fl] at go
    exact go
  rw [← ek]
  refine wpAny_binaryOp_repeat_ref (T := "list") (U := "int") (by decide) ⟨_, e, rfl⟩ (fun s' => typeIs_int s' ki t) noFill_list_mul F.fills_int_mul F.slot_int_rmul repeat_list F.slot_int_index.lookup ?_
  refine call_meets F.slot_int_rmul (typeIs_int s ki t) F.entry_int_rmul (F.args_int_rmul_2 _ _) (int___rmul___int_list ki t l arr n) ⟨e, rfl, ⟨_, e, rfl⟩, ?_⟩
  refine call_meets F.slot_list_mul ⟨_, e, rfl⟩ F.entry_list_mul (F.args_list_mul_2 _ _) (AutoListH.list___mul___list_int_3 l arr n ki t c2 c1 c3) ⟨e, ?_⟩
  rw [rep]
  have rv : Vals (List.replicate k v0) (List.replicate k u0) := by
    clear q e1 c1 c2 c3 rep hk small kn ek
    induction k with
    | zero => exact .nil
    | succ k ih => rw [List.replicate_succ, List.replicate_succ]; exact .cons r0 ih
  exact ⟨.ref _, _, I.lnew (t' := s.toks) rv (by rw [List.length_replicate]; exact small), rfl, q _ I.fresh (big_of I)⟩
end LW

set_option Elab.async false
set_option linter.all false
set_option maxRecDepth 100000
set_option maxHeartbeats 4000100
set_option exponentiation.threshold 9000
namespace LW
open L2 PySem.Spec PyProof.Rows PySem
def topS (i : Nat) : Stmt := PySem.Challenge.pw_wholeshares_k05_errors_and_limits.main.body.getD i (.Pass ⟨0, 0, 0, 0⟩)
abbrev s__law_tank : Stmt := topS 32
theorem sc__law_tank : FnScope ["_law_script", "_law_k", "_law_mixed", "_law_entry", "_law_own"] ["_law_script", "_law_k"] (defScope s__law_tank) := ⟨rfl, rfl, rfl, by decide +kernel, rfl, by decide +kernel, by decide +kernel⟩
abbrev s__law_tap : Stmt := topS 33
theorem sc__law_tap : FnScope ["_law_tank_here", "_law_many", "_law_part"] ["_law_tank_here", "_law_many"] (defScope s__law_tap) := ⟨rfl, rfl, rfl, by decide +kernel, rfl, by decide +kernel, by decide +kernel⟩
abbrev s__law_any : Stmt := topS 34
theorem sc__law_any : FnScope ["_law_tank_here", "_law_things"] ["_law_tank_here", "_law_things"] (defScope s__law_any) := ⟨rfl, rfl, rfl, by decide +kernel, rfl, by decide +kernel, by decide +kernel⟩
abbrev s__law_created : Stmt := topS 35
theorem sc__law_created : FnScope ["_law_thing", "_law_one", "_law_two", "_law_three", "_law_four"] ["_law_thing"] (defScope s__law_created) := ⟨rfl, rfl, rfl, by decide +kernel, rfl, by decide +kernel, by decide +kernel⟩
abbrev s__law_instances : Stmt := topS 36
theorem sc__law_instances : FnScope ["_law_e", "_law_seen"] ["_law_e"] (defScope s__law_instances) := ⟨rfl, rfl, rfl, by decide +kernel, rfl, by decide +kernel, by decide +kernel⟩
abbrev s__law_bases : Stmt := topS 37
theorem sc__law_bases : FnScope ["_law_e", "_law_seen"] ["_law_e"] (defScope s__law_bases) := ⟨rfl, rfl, rfl, by decide +kernel, rfl, by decide +kernel, by decide +kernel⟩
abbrev s_NotARule___init__ : Stmt := inClass (topS 2) 0
theorem sc_NotARule___init__ : FnScope ["self", "value"] ["self", "value"] (defScope s_NotARule___init__) := ⟨rfl, rfl, rfl, by decide +kernel, rfl, by decide +kernel, by decide +kernel⟩
abbrev s_NotAnInquiry___init__ : Stmt := inClass (topS 3) 0
theorem sc_NotAnInquiry___init__ : FnScope ["self", "value"] ["self", "value"] (defScope s_NotAnInquiry___init__) := ⟨rfl, rfl, rfl, by decide +kernel, rfl, by decide +kernel, by decide +kernel⟩
abbrev s_InvalidOffset___init__ : Stmt := inClass (topS 4) 0
theorem sc_InvalidOffset___init__ : FnScope ["self", "value"] ["self", "value"] (defScope s_InvalidOffset___init__) := ⟨rfl, rfl, rfl, by decide +kernel, rfl, by decide +kernel, by decide +kernel⟩
abbrev s_InvalidText___init__ : Stmt := inClass (topS 5) 0
theorem sc_InvalidText___init__ : FnScope ["self", "value"] ["self", "value"] (defScope s_InvalidText___init__) := ⟨rfl, rfl, rfl, by decide +kernel, rfl, by decide +kernel, by decide +kernel⟩
abbrev s_InvalidCount___init__ : Stmt := inClass (topS 6) 0
theorem sc_InvalidCount___init__ : FnScope ["self", "value"] ["self", "value"] (defScope s_InvalidCount___init__) := ⟨rfl, rfl, rfl, by decide +kernel, rfl, by decide +kernel, by decide +kernel⟩
abbrev s_InvalidClaimants___init__ : Stmt := inClass (topS 7) 0
theorem sc_InvalidClaimants___init__ : FnScope ["self", "value"] ["self", "value"] (defScope s_InvalidClaimants___init__) := ⟨rfl, rfl, rfl, by decide +kernel, rfl, by decide +kernel, by decide +kernel⟩
abbrev s_InvalidClaimant___init__ : Stmt := inClass (topS 8) 0
theorem sc_InvalidClaimant___init__ : FnScope ["self", "value"] ["self", "value"] (defScope s_InvalidClaimant___init__) := ⟨rfl, rfl, rfl, by decide +kernel, rfl, by decide +kernel, by decide +kernel⟩
abbrev s_InvalidPlace___init__ : Stmt := inClass (topS 9) 0
theorem sc_InvalidPlace___init__ : FnScope ["self", "value"] ["self", "value"] (defScope s_InvalidPlace___init__) := ⟨rfl, rfl, rfl, by decide +kernel, rfl, by decide +kernel, by decide +kernel⟩
abbrev s_InvalidRow___init__ : Stmt := inClass (topS 10) 0
theorem sc_InvalidRow___init__ : FnScope ["self", "value"] ["self", "value"] (defScope s_InvalidRow___init__) := ⟨rfl, rfl, rfl, by decide +kernel, rfl, by decide +kernel, by decide +kernel⟩
abbrev s_NotFair___init__ : Stmt := inClass (topS 11) 0
theorem sc_NotFair___init__ : FnScope ["self", "value"] ["self", "value"] (defScope s_NotFair___init__) := ⟨rfl, rfl, rfl, by decide +kernel, rfl, by decide +kernel, by decide +kernel⟩
abbrev s_InvalidHead___init__ : Stmt := inClass (topS 12) 0
theorem sc_InvalidHead___init__ : FnScope ["self", "index"] ["self", "index"] (defScope s_InvalidHead___init__) := ⟨rfl, rfl, rfl, by decide +kernel, rfl, by decide +kernel, by decide +kernel⟩
abbrev s_InvalidClaims___init__ : Stmt := inClass (topS 13) 0
theorem sc_InvalidClaims___init__ : FnScope ["self", "index"] ["self", "index"] (defScope s_InvalidClaims___init__) := ⟨rfl, rfl, rfl, by decide +kernel, rfl, by decide +kernel, by decide +kernel⟩
abbrev s_InvalidDivision___init__ : Stmt := inClass (topS 14) 0
theorem sc_InvalidDivision___init__ : FnScope ["self", "index"] ["self", "index"] (defScope s_InvalidDivision___init__) := ⟨rfl, rfl, rfl, by decide +kernel, rfl, by decide +kernel, by decide +kernel⟩
abbrev s_InvalidStatements___init__ : Stmt := inClass (topS 15) 0
theorem sc_InvalidStatements___init__ : FnScope ["self", "index"] ["self", "index"] (defScope s_InvalidStatements___init__) := ⟨rfl, rfl, rfl, by decide +kernel, rfl, by decide +kernel, by decide +kernel⟩
abbrev s_InvalidDeeds___init__ : Stmt := inClass (topS 16) 0
theorem sc_InvalidDeeds___init__ : FnScope ["self", "index"] ["self", "index"] (defScope s_InvalidDeeds___init__) := ⟨rfl, rfl, rfl, by decide +kernel, rfl, by decide +kernel, by decide +kernel⟩
abbrev s_TooManyItems___init__ : Stmt := inClass (topS 22) 0
theorem sc_TooManyItems___init__ : FnScope ["self", "limit"] ["self", "limit"] (defScope s_TooManyItems___init__) := ⟨rfl, rfl, rfl, by decide +kernel, rfl, by decide +kernel, by decide +kernel⟩
abbrev s_TooManyStatements___init__ : Stmt := inClass (topS 23) 0
theorem sc_TooManyStatements___init__ : FnScope ["self", "limit"] ["self", "limit"] (defScope s_TooManyStatements___init__) := ⟨rfl, rfl, rfl, by decide +kernel, rfl, by decide +kernel, by decide +kernel⟩
local macro_rules | `(tactic| walk_at "len") => `(tactic| skip)
/-! ### the draws -/
section
variable {P : Program} {w : World} {K : PySem.W.Frag} {mg : Str → Option Value} {base : Heap} {c : Addr}
/-- _law_tank(script, k) -/
def sp__law_tank (K : PySem.W.Frag) (c : Addr) : Sp := fun vs H Q _ => ∃ (a : Addr) (ns : List Int) (k : Int), vs = [.ref a, .int k] ∧ SqL K H a (ns.map V.int) ∧ ns.length ≤ 1000 ∧ 0 ≤ k ∧ k < 1000 ∧
  ∀ p H', Same H H' → H p = none → TankAt H' p → Q (.ref p) H'
theorem cal__law_tank (B : Bl mg) (DD : OwnDef K mg "_law_tank" s__law_tank)   : Cal P w K mg base 1 "_law_tank" (sp__law_tank K c) [] := by
  obtain ⟨f, fd, F, hm⟩ := DD.ex
  refine ⟨f, fd, ["_law_script", "_law_k"], [], F.ok sc__law_tank (fun vs H Q E h => ?len) (fun cdv A outer s H vs Q E hr h => ?run), hm, F.kp, F.binds (fun _ _ _ _ _ _ us hl => match us, hl with | [_, _], _ => rfl), .nil⟩
  case len => first | (obtain ⟨_, rfl, _⟩ := h; rfl) | (obtain ⟨_, _, rfl, _⟩ := h; rfl) | (obtain ⟨_, _, _, rfl, _⟩ := h; rfl) | (obtain ⟨_, _, _, _, rfl, _⟩ := h; rfl) | (obtain ⟨_, _, _, _, _, rfl, _⟩ := h; rfl) | (obtain ⟨_, _, _, _, _, _, rfl, _⟩ := h; rfl) | (obtain ⟨_, _, _, _, _, _, _, rfl, _⟩ := h; rfl) | (obtain ⟨_, _, _, _, _, _, _, _, rfl, _⟩ := h; rfl) | (obtain ⟨_, _, _, _, _, _, _, _, _, rfl, _⟩ := h; rfl) | (obtain ⟨_, _, _, _, _, _, _, _, _, _, rfl, _⟩ := h; rfl) | (obtain ⟨_, _, _, _, _, _, _, _, _, _, _, rfl, _⟩ := h; rfl) | (obtain ⟨_, _, _, _, _, _, _, _, _, _, _, _, rfl, _⟩ := h; rfl) | (obtain ⟨_, _, _, _, _, _, _, _, _, _, _, _, _, rfl, _⟩ := h; rfl) | (obtain ⟨_, _, _, _, _, _, _, _, _, _, _, _, _, _, rfl, _⟩ := h; rfl)
  case run =>
    obtain ⟨a, ns, k, rfl, hS, hn, hk, hk2, q⟩ := h
    refine ⟨_, (pss_cons (ps_set (i := 2) sc__law_tank.nd rfl (Or.inl rfl) (pe_op op_add pe_int (pe_op op_mul pe_int (pv 1))))
      (pss_cons (ps_for PassesOwn.never rfl (pi_list (pe_slice sl_list (pv 0) po_none (po_some pe_int))) (pg_name (i := 3) sc__law_tank.nd rfl (Or.inl rfl)) (pss_one (ps_set (i := 2) sc__law_tank.nd rfl (Or.inl rfl) (pe_op op_mod (pe_callTy call_int1 (by rfl) B.int (by decide +kernel) (pa_cons (pe_op op_add (pe_op op_mul (pv 2) pe_int) (pe_op op_mod (pe_callTy call_int1 (by rfl) B.int (by decide +kernel) (pa_cons (pv 3) pa_nil)) pe_int)) pa_nil)) pe_int))))
      (pss_cons (ps_set (i := 4) sc__law_tank.nd rfl (Or.inl rfl) (pe_ifExp (pt_cmpR op_lt (pv 1) (pe_callB call_len_seq (by rfl) B.len (by decide +kernel) (pa_cons (pv 0) pa_nil)) (nomark _)) (pe_callTy call_int1 (by rfl) B.int (by decide +kernel) (pa_cons (pe_ix ix_seq (pv 0) (pv 1) (fun _ _ => rfl)) pa_nil)) (pe_op op_add (pe_op op_mul pe_int (pv 1)) pe_int)))
      (pss_one (ps_ret (pe_lst (pa_cons (pe_ifExp (PW.pt (pw_or (pt_cmpR op_lt (pv 4) pe_int (nomark _)) (pw_or1 (pt_cmpR op_ge (pv 4) (pe_op op_pow pe_int pe_int) (nomark _))))) (pe_callB call_abs (by rfl) B.abs (by decide +kernel) (pa_cons (pv 4) pa_nil)) pe_int) (pa_cons (pe_op op_mod (pe_callTy call_int1 (by rfl) B.int (by decide +kernel) (pa_cons (pe_op op_add (pv 2) (pe_op op_mod (pv 4) pe_int)) pa_nil)) pe_int) (pa_cons pe_int pa_nil))))))))), ?_⟩
    refine ⟨_, rfl, _, _, rfl, rfl, .inl ⟨by decide, by decide⟩, _, _, rfl, rfl, ?_⟩
    -- for entry in script[:11]
    refine ⟨_, rfl, _, rfl, a, _, rfl, hS, fun l nl => ?_⟩
    have eC : ∃ ms : List Int, cutV (ns.map V.int) none (some 11) = ms.map V.int := ⟨(ns.drop (HT.sIx (ns.map V.int).length 0 none)).take (HT.sIx (ns.map V.int).length (ns.map V.int).length (some 11) - HT.sIx (ns.map V.int).length 0 none), by
      unfold cutV
      rw [List.map_take, List.map_drop]⟩
    obtain ⟨ms, eC⟩ := eC
    rw [eC]
    have s1 : Same H (upd H l (.lst (ms.map V.int))) := same_new nl
    refine ⟨l, rfl, ⟨_, .inl (.inl upd_same)⟩, for_list (K := K) (a := l) (xs := ms.map V.int) (fun i σ H2 => ∃ (m : Int) (e3 : Option V), σ = [some (.ref a), some (.int k), some (.int m), e3, none] ∧ H2 = upd H l (.lst (ms.map V.int)))
      ⟨_, none, rfl, rfl⟩ (fun i σ H2 _ ⟨_, _, _, e⟩ => by rw [e]; exact .inl (.inl upd_same)) ?_ ?_⟩
    · rintro i y σ H2 hi ⟨m, e3, rfl, rfl⟩
      obtain ⟨z, _, rfl⟩ := some_map hi
      refine ⟨_, rfl, _, _, rfl, rfl, .inr ⟨by decide, by decide⟩, _, rfl, .inl ⟨_, rfl, _, _, rfl, rfl, (by show (0 : Int) < 1610612741; decide), _, _, rfl, rfl, .inl ⟨_, rfl, _, _, rfl, rfl, (by show (0 : Int) < 1610612741; decide), ?_⟩⟩⟩
      exact ⟨_, _, rfl, rfl⟩
    · rintro σ H2 ⟨m, e3, rfl, rfl⟩
      have hS1 : SqL K (upd H l (.lst (ms.map V.int))) a (ns.map V.int) := s1.seq hS
      dsimp only [tSeq, tAsg]
      refine via (t := tIf _ _ _) (fun v H' => H' = upd H l (.lst (ms.map V.int)) ∧ ∃ own : Int, v = .int own) (fun Q' k' => ?_) ?_
      · refine ⟨_, rfl, _, rfl, a, _, rfl, .inl hS1, _, _, rfl, rfl, _, rfl, ?_⟩
        refine ite2 (fun e => ?_) (fun e => ?_)
        · have e' : k < ((ns.map V.int).length : Int) := of_decide_eq_true e
          rw [List.length_map] at e'
          have hk3 : k.toNat < ns.length := by omega
          refine ⟨_, rfl, _, rfl, rd_raw (w := V.int ns[k.toNat]) hS1 hk (map_some (List.getElem?_eq_getElem hk3)) ?_⟩
          exact .inl ⟨_, rfl, k' _ _ ⟨rfl, _, rfl⟩⟩
        · exact ⟨_, rfl, _, _, rfl, rfl, .inl ⟨by decide, by decide⟩, _, _, rfl, rfl, k' _ _ ⟨rfl, _, rfl⟩⟩
      rintro v H3 ⟨rfl, own, rfl⟩
      -- the list of three
      dsimp only [gName, tRet, tLst, tCons, tNil]
      refine via (t := tIf _ _ _) (fun v H' => H' = upd H l (.lst (ms.map V.int)) ∧ ∃ x : Int, v = .int x ∧ 0 ≤ x) (fun Q' k' => ?_) ?_
      · refine ⟨_, rfl, _, _, rfl, rfl, _, rfl, ite2 (fun e => ?_) (fun e => ?_)⟩
        · refine iteT ?_
          refine ⟨_, rfl, own, rfl, k' _ _ ⟨rfl, _, rfl, ?_⟩⟩
          have e' : own < 0 := of_decide_eq_true e
          rw [if_pos e']
          omega
        · have e0 : ¬ own < 0 := fun z => e (decide_eq_true z)
          refine ⟨_, rfl, _, _, rfl, rfl, (by refine ⟨by decide, by decide, by decide⟩), _, _, rfl, rfl, _, rfl, ite2 (fun e2 => ?_) (fun e2 => ?_)⟩
          · refine ⟨_, rfl, own, rfl, k' _ _ ⟨rfl, _, rfl, ?_⟩⟩
            rw [if_neg e0]
            omega
          · exact k' _ _ ⟨rfl, _, rfl, Int.le_refl 0⟩
      rintro v H3 ⟨rfl, x, rfl, hx⟩
      refine ⟨_, rfl, _, rfl, _, _, rfl, rfl, (by show (0 : Int) < 1610612741; decide), _, _, rfl, rfl, .inl ⟨_, rfl, _, _, rfl, rfl, (by show (0 : Int) < 1610612741; decide), (by show 3 ≤ sizeLine; decide), fun p np => ?_⟩⟩
      refine q p _ (s1.trans (same_new np)) (s1.free np) ⟨x, _, 0, upd_same, hx, ?_, ?_, Int.le_refl 0⟩
      · exact Int.emod_nonneg _ (by decide)
      · exact Int.emod_lt_of_pos _ (by decide)
/-- _law_tap(tank, many) -/
def sp__law_tap (K : PySem.W.Frag) (c : Addr) : Sp := fun vs H Q _ => ∃ (a : Addr) (m : Int), vs = [.ref a, .int m] ∧ TankAt H a ∧ 0 < m ∧ m < 1073741824 ∧
  ∀ r H', 0 ≤ r → r < m → (∀ A, a ∈ A → Go A H H') → TankAt H' a → Q (.int r) H'
theorem cal__law_tap (B : Bl mg) (DD : OwnDef K mg "_law_tap" s__law_tap)   : Cal P w K mg base 1 "_law_tap" (sp__law_tap K c) [] := by
  obtain ⟨f, fd, F, hm⟩ := DD.ex
  refine ⟨f, fd, ["_law_tank_here", "_law_many"], [], F.ok sc__law_tap (fun vs H Q E h => ?len) (fun cdv A outer s H vs Q E hr h => ?run), hm, F.kp, F.binds (fun _ _ _ _ _ _ us hl => match us, hl with | [_, _], _ => rfl), .nil⟩
  case len => first | (obtain ⟨_, rfl, _⟩ := h; rfl) | (obtain ⟨_, _, rfl, _⟩ := h; rfl) | (obtain ⟨_, _, _, rfl, _⟩ := h; rfl) | (obtain ⟨_, _, _, _, rfl, _⟩ := h; rfl) | (obtain ⟨_, _, _, _, _, rfl, _⟩ := h; rfl) | (obtain ⟨_, _, _, _, _, _, rfl, _⟩ := h; rfl) | (obtain ⟨_, _, _, _, _, _, _, rfl, _⟩ := h; rfl) | (obtain ⟨_, _, _, _, _, _, _, _, rfl, _⟩ := h; rfl) | (obtain ⟨_, _, _, _, _, _, _, _, _, rfl, _⟩ := h; rfl) | (obtain ⟨_, _, _, _, _, _, _, _, _, _, rfl, _⟩ := h; rfl) | (obtain ⟨_, _, _, _, _, _, _, _, _, _, _, rfl, _⟩ := h; rfl) | (obtain ⟨_, _, _, _, _, _, _, _, _, _, _, _, rfl, _⟩ := h; rfl) | (obtain ⟨_, _, _, _, _, _, _, _, _, _, _, _, _, rfl, _⟩ := h; rfl) | (obtain ⟨_, _, _, _, _, _, _, _, _, _, _, _, _, _, rfl, _⟩ := h; rfl)
  case run =>
    obtain ⟨a, m, rfl, tk, hm0, hm1, q⟩ := h
    refine ⟨_, (pss_cons (ps_if (pt_cmpR op_gt (pe_ix ix_seq (pv 0) pe_int (fun _ _ => rfl)) pe_int (nomark _)) (pss_cons (ps_asg (pe_callB call_divmod (by rfl) B.divmod (by decide +kernel) (pa_cons (pe_callTy call_int1 (by rfl) B.int (by decide +kernel) (pa_cons (pe_ix ix_seq (pv 0) pe_int (fun _ _ => rfl)) pa_nil)) (pa_cons (pv 1) pa_nil))) (pg_tup (by rfl) (pgs_cons (pg_sub (pv 0) pe_int set_list) (pgs_cons (pg_name (i := 2) sc__law_tap.nd rfl (Or.inl rfl)) pgs_nil))))
      (pss_one (ps_ret (pv 2)))) pss_nil)
      (pss_cons (ps_asg (pe_op op_add (pe_ix ix_seq (pv 0) pe_int (fun _ _ => rfl)) pe_int) (pg_sub (pv 0) pe_int set_list))
      (pss_cons (ps_asg (pe_op op_mod (pe_callTy call_int1 (by rfl) B.int (by decide +kernel) (pa_cons (pe_op op_add (pe_op op_add (pe_op op_mul (pe_ix ix_seq (pv 0) pe_int (fun _ _ => rfl)) pe_int) (pe_op op_mul (pe_op op_fdiv (pe_ix ix_seq (pv 0) pe_int (fun _ _ => rfl)) pe_int) pe_int)) (pe_op op_mul pe_int (pe_ix ix_seq (pv 0) pe_int (fun _ _ => rfl)))) pa_nil)) pe_int) (pg_sub (pv 0) pe_int set_list))
      (pss_one (ps_ret (pe_op op_mod (pe_callTy call_int1 (by rfl) B.int (by decide +kernel) (pa_cons (pe_op op_fdiv (pe_ix ix_seq (pv 0) pe_int (fun _ _ => rfl)) pe_int) pa_nil)) (pv 1))))))), ?_⟩
    obtain ⟨x, y, z, e, hx, hy, hy2, hz⟩ := tk.ex
    have hA : SqL K H a [.int x, .int y, .int z] := .inl (.inl e)
    refine ⟨_, rfl, rd_raw (w := V.int x) hA (Int.le_refl 0) rfl ?_⟩
    refine ⟨_, _, rfl, rfl, _, rfl, ite2 (fun c1 => ?_) (fun c1 => ?_)⟩
    · -- the script's own int
      refine ⟨_, rfl, rd_raw (w := V.int x) hA (Int.le_refl 0) rfl ?_⟩
      refine .inl ⟨_, rfl, _, rfl, _, _, rfl, ⟨hm0, hm1⟩, fun p np => ?_⟩
      have npa : a ≠ p := ne_of_none e np
      have e1 : (upd H p (.tup [.int (x / m), .int (x % m)])) a = some (.lst [.int x, .int y, .int z]) := by rw [upd_ne npa]; exact e
      refine ⟨p, [.int (x / m), .int (x % m)], rfl, .inl (.inl upd_same), rfl, .int (x / m), [.int (x % m)], rfl, ?_⟩
      refine ⟨_, rfl, a, _, _, 0, rfl, rfl, e1, rfl, ?_⟩
      refine ⟨.int (x % m), [], rfl, rfl, _, rfl, ?_⟩
      refine q _ _ (Int.emod_nonneg _ (by omega)) (Int.emod_lt_of_pos _ hm0) (fun A hA => (Go.new np).trans (Go.chg hA)) ⟨x / m, y, z, upd_same, ?_, hy, hy2, hz⟩
      exact Int.ediv_nonneg hx (by omega)
    · refine ⟨_, rfl, rd_raw (w := V.int z) hA (by decide) rfl ?_⟩
      refine ⟨_, _, rfl, rfl, _, rfl, a, _, _, 2, rfl, rfl, e, rfl, ?_⟩
      have hB : SqL K (upd H a (.lst [.int x, .int y, .int (z + 1)])) a [.int x, .int y, .int (z + 1)] := .inl (.inl upd_same)
      refine ⟨_, rfl, rd_raw (w := V.int y) hB (by decide) rfl ?_⟩
      refine ⟨_, _, rfl, rfl, .inr ⟨by decide, by decide⟩, _, rfl, rd_raw (w := V.int y) hB (by decide) rfl ?_⟩
      refine ⟨_, _, rfl, rfl, ⟨by decide, by decide⟩, _, _, rfl, rfl, .inr ⟨by decide, by decide⟩, _, _, rfl, rfl, _, rfl, rd_raw (w := V.int (z + 1)) hB (by decide) rfl ?_⟩
      refine ⟨_, _, rfl, rfl, .inl ⟨by decide, by decide⟩, _, _, rfl, rfl, .inl ⟨_, rfl, _, _, rfl, rfl, (by show (0 : Int) < 1610612741; decide), ?_⟩⟩
      refine ⟨_, rfl, a, _, _, 1, rfl, rfl, upd_same, rfl, ?_⟩
      have hC : ∀ y', SqL K (upd (upd H a (.lst [.int x, .int y, .int (z + 1)])) a (.lst [.int x, .int y', .int (z + 1)])) a [.int x, .int y', .int (z + 1)] := fun _ => .inl (.inl upd_same)
      refine ⟨_, rfl, rd_raw (w := _) (hC _) (by decide) rfl ?_⟩
      refine ⟨_, _, rfl, rfl, ⟨by decide, by decide⟩, .inl ⟨_, rfl, _, rfl, _, _, rfl, rfl, hm0, ?_⟩⟩
      refine q _ _ (Int.emod_nonneg _ (by omega)) (Int.emod_lt_of_pos _ hm0) (fun A hA => (Go.chg hA).trans (Go.chg hA)) ⟨x, _, z + 1, upd_same, hx, ?_, ?_, by omega⟩
      · exact Int.emod_nonneg _ (by decide)
      · exact Int.emod_lt_of_pos _ (by decide)
/-- _law_any(tank, things): one of the things -/
def sp__law_any (K : PySem.W.Frag) (c : Addr) : Sp := fun vs H Q _ => ∃ (a l : Addr) (xs : List V), vs = [.ref a, .ref l] ∧ TankAt H a ∧ SqL K H l xs ∧ l ≠ a ∧ 0 < xs.length ∧ xs.length < 1000 ∧
  ∀ v H', v ∈ xs → (∀ A, a ∈ A → Go A H H') → TankAt H' a → Q v H'
theorem cal__law_any (B : Bl mg) (DD : OwnDef K mg "_law_any" s__law_any) (C__law_tap : Cal P w K mg base 1 "_law_tap" (sp__law_tap K c) [])  : Cal P w K mg base 2 "_law_any" (sp__law_any K c) [] := by
  obtain ⟨f, fd, F, hm⟩ := DD.ex
  refine ⟨f, fd, ["_law_tank_here", "_law_things"], [], F.ok sc__law_any (fun vs H Q E h => ?len) (fun cdv A outer s H vs Q E hr h => ?run), hm, F.kp, F.binds (fun _ _ _ _ _ _ us hl => match us, hl with | [_, _], _ => rfl), .nil⟩
  case len => first | (obtain ⟨_, rfl, _⟩ := h; rfl) | (obtain ⟨_, _, rfl, _⟩ := h; rfl) | (obtain ⟨_, _, _, rfl, _⟩ := h; rfl) | (obtain ⟨_, _, _, _, rfl, _⟩ := h; rfl) | (obtain ⟨_, _, _, _, _, rfl, _⟩ := h; rfl) | (obtain ⟨_, _, _, _, _, _, rfl, _⟩ := h; rfl) | (obtain ⟨_, _, _, _, _, _, _, rfl, _⟩ := h; rfl) | (obtain ⟨_, _, _, _, _, _, _, _, rfl, _⟩ := h; rfl) | (obtain ⟨_, _, _, _, _, _, _, _, _, rfl, _⟩ := h; rfl) | (obtain ⟨_, _, _, _, _, _, _, _, _, _, rfl, _⟩ := h; rfl) | (obtain ⟨_, _, _, _, _, _, _, _, _, _, _, rfl, _⟩ := h; rfl) | (obtain ⟨_, _, _, _, _, _, _, _, _, _, _, _, rfl, _⟩ := h; rfl) | (obtain ⟨_, _, _, _, _, _, _, _, _, _, _, _, _, rfl, _⟩ := h; rfl) | (obtain ⟨_, _, _, _, _, _, _, _, _, _, _, _, _, _, rfl, _⟩ := h; rfl)
  case run =>
    obtain ⟨a, l, xs, rfl, tk, hS, nla, h0, h1, q⟩ := h
    refine ⟨_, (pss_one (ps_ret (pe_ix ix_seq (pv 1) (pe_c C__law_tap hr (by decide) (by rfl) (pa_cons (pv 0) (pa_cons (pe_callB call_len_seq (by rfl) B.len (by decide +kernel) (pa_cons (pv 1) pa_nil)) pa_nil))) (fun _ _ => rfl)))), ?_⟩
    refine ⟨_, rfl, _, rfl, _, rfl, l, xs, rfl, .inl hS, a, _, rfl, tk, by omega, by omega, fun r H' hr0 hr1 go tk' => ?_⟩
    have hi : r.toNat < xs.length := by omega
    have hS' : SqL K H' l xs := by
      have g := go [a] (by simp)
      rcases hS with (z | ⟨o, z⟩) | z
      · exact .inl (.inl (g.keep _ _ (by simpa using nla) z))
      · exact .inl (.inr ⟨o, g.keep _ _ (by simpa using nla) z⟩)
      · exact .inr z
    exact rd_raw hS' hr0 (List.getElem?_eq_getElem hi) (q _ _ (List.getElem_mem hi) go tk')
end

/-! ### the classes -/
section
variable {P : Program} {w : World} {K : PySem.W.Frag} {mg : Str
      → Option Value} {base : Heap}
theorem ini_NotARule {C f : Addr} {fd : FuncData} (F : Fun K "__init__" "NotARule.__init__" s_NotARule___init__ f fd) (T : OexG K C) (no : PySem.W.findIn K (.ref C) "value" = some none) : FnOk P w K mg base CX0 1 f fd ["self", "value"] (sp_exi K C "value") := by
  refine F.ok sc_NotARule___init__ (fun vs H Q E h => ?_) (fun cdv A outer s H vs Q E hr h => ?_)
  · obtain ⟨_, _, rfl, _⟩ := h
    rfl
  · obtain ⟨a, v, rfl, e, q⟩ := h
    exact ⟨_, pss_one (ps_osG (pv 0) (pv 1)), ⟨_, rfl, _, rfl, a, C, rfl, T, no, e, fun dx nd ne => q dx nd ne⟩⟩
theorem ini_NotAnInquiry {C f : Addr} {fd : FuncData} (F : Fun K "__init__" "NotAnInquiry.__init__" s_NotAnInquiry___init__ f fd) (T : OexG K C) (no : PySem.W.findIn K (.ref C) "value" = some none) : FnOk P w K mg base CX0 1 f fd ["self", "value"] (sp_exi K C "value") := by
  refine F.ok sc_NotAnInquiry___init__ (fun vs H Q E h => ?_) (fun cdv A outer s H vs Q E hr h => ?_)
  · obtain ⟨_, _, rfl, _⟩ := h
    rfl
  · obtain ⟨a, v, rfl, e, q⟩ := h
    exact ⟨_, pss_one (ps_osG (pv 0) (pv 1)), ⟨_, rfl, _, rfl, a, C, rfl, T, no, e, fun dx nd ne => q dx nd ne⟩⟩
theorem ini_InvalidOffset {C f : Addr} {fd : FuncData} (F : Fun K "__init__" "InvalidOffset.__init__" s_InvalidOffset___init__ f fd) (T : OexG K C) (no : PySem.W.findIn K (.ref C) "value" = some none) : FnOk P w K mg base CX0 1 f fd ["self", "value"] (sp_exi K C "value") := by
  refine F.ok sc_InvalidOffset___init__ (fun vs H Q E h => ?_) (fun cdv A outer s H vs Q E hr h => ?_)
  · obtain ⟨_, _, rfl, _⟩ := h
    rfl
  · obtain ⟨a, v, rfl, e, q⟩ := h
    exact ⟨_, pss_one (ps_osG (pv 0) (pv 1)), ⟨_, rfl, _, rfl, a, C, rfl, T, no, e, fun dx nd ne => q dx nd ne⟩⟩
theorem ini_InvalidText {C f : Addr} {fd : FuncData} (F : Fun K "__init__" "InvalidText.__init__" s_InvalidText___init__ f fd) (T : OexG K C) (no : PySem.W.findIn K (.ref C) "value" = some none) : FnOk P w K mg base CX0 1 f fd ["self", "value"] (sp_exi K C "value") := by
  refine F.ok sc_InvalidText___init__ (fun vs H Q E h => ?_) (fun cdv A outer s H vs Q E hr h => ?_)
  · obtain ⟨_, _, rfl, _⟩ := h
    rfl
  · obtain ⟨a, v, rfl, e, q⟩ := h
    exact ⟨_, pss_one (ps_osG (pv 0) (pv 1)), ⟨_, rfl, _, rfl, a, C, rfl, T, no, e, fun dx nd ne => q dx nd ne⟩⟩
theorem ini_InvalidCount {C f : Addr} {fd : FuncData} (F : Fun K "__init__" "InvalidCount.__init__" s_InvalidCount___init__ f fd) (T : OexG K C) (no : PySem.W.findIn K (.ref C) "value" = some none) : FnOk P w K mg base CX0 1 f fd ["self", "value"] (sp_exi K C "value") := by
  refine F.ok sc_InvalidCount___init__ (fun vs H Q E h => ?_) (fun cdv A outer s H vs Q E hr h => ?_)
  · obtain ⟨_, _, rfl, _⟩ := h
    rfl
  · obtain ⟨a, v, rfl, e, q⟩ := h
    exact ⟨_, pss_one (ps_osG (pv 0) (pv 1)), ⟨_, rfl, _, rfl, a, C, rfl, T, no, e, fun dx nd ne => q dx nd ne⟩⟩
theorem ini_InvalidClaimants {C f : Addr} {fd : FuncData} (F : Fun K "__init__" "InvalidClaimants.__init__" s_InvalidClaimants___init__ f fd) (T : OexG K C) (no : PySem.W.findIn K (.ref C) "value" = some none) : FnOk P w K mg base CX0 1 f fd ["self", "value"] (sp_exi K C "value") := by
  refine F.ok sc_InvalidClaimants___init__ (fun vs H Q E h => ?_) (fun cdv A outer s H vs Q E hr h => ?_)
  · obtain ⟨_, _, rfl, _⟩ := h
    rfl
  · obtain ⟨a, v, rfl, e, q⟩ := h
    exact ⟨_, pss_one (ps_osG (pv 0) (pv 1)), ⟨_, rfl, _, rfl, a, C, rfl, T, no, e, fun dx nd ne => q dx nd ne⟩⟩
theorem ini_InvalidClaimant {C f : Addr} {fd : FuncData} (F : Fun K "__init__" "InvalidClaimant.__init__" s_InvalidClaimant___init__ f fd) (T : OexG K C) (no : PySem.W.findIn K (.ref C) "value" = some none) : FnOk P w K mg base CX0 1 f fd ["self", "value"] (sp_exi K C "value") := by
  refine F.ok sc_InvalidClaimant___init__ (fun vs H Q E h => ?_) (fun cdv A outer s H vs Q E hr h => ?_)
  · obtain ⟨_, _, rfl, _⟩ := h
    rfl
  · obtain ⟨a, v, rfl, e, q⟩ := h
    exact ⟨_, pss_one (ps_osG (pv 0) (pv 1)), ⟨_, rfl, _, rfl, a, C, rfl, T, no, e, fun dx nd ne => q dx nd ne⟩⟩
theorem ini_InvalidPlace {C f : Addr} {fd : FuncData} (F : Fun K "__init__" "InvalidPlace.__init__" s_InvalidPlace___init__ f fd) (T : OexG K C) (no : PySem.W.findIn K (.ref C) "value" = some none) : FnOk P w K mg base CX0 1 f fd ["self", "value"] (sp_exi K C "value") := by
  refine F.ok sc_InvalidPlace___init__ (fun vs H Q E h => ?_) (fun cdv A outer s H vs Q E hr h => ?_)
  · obtain ⟨_, _, rfl, _⟩ := h
    rfl
  · obtain ⟨a, v, rfl, e, q⟩ := h
    exact ⟨_, pss_one (ps_osG (pv 0) (pv 1)), ⟨_, rfl, _, rfl, a, C, rfl, T, no, e, fun dx nd ne => q dx nd ne⟩⟩
theorem ini_InvalidRow {C f : Addr} {fd : FuncData} (F : Fun K "__init__" "InvalidRow.__init__" s_InvalidRow___init__ f fd) (T : OexG K C) (no : PySem.W.findIn K (.ref C) "value" = some none) : FnOk P w K mg base CX0 1 f fd ["self", "value"] (sp_exi K C "value") := by
  refine F.ok sc_InvalidRow___init__ (fun vs H Q E h => ?_) (fun cdv A outer s H vs Q E hr h => ?_)
  · obtain ⟨_, _, rfl, _⟩ := h
    rfl
  · obtain ⟨a, v, rfl, e, q⟩ := h
    exact ⟨_, pss_one (ps_osG (pv 0) (pv 1)), ⟨_, rfl, _, rfl, a, C, rfl, T, no, e, fun dx nd ne => q dx nd ne⟩⟩
theorem ini_NotFair {C f : Addr} {fd : FuncData} (F : Fun K "__init__" "NotFair.__init__" s_NotFair___init__ f fd) (T : OexG K C) (no : PySem.W.findIn K (.ref C) "value" = some none) : FnOk P w K mg base CX0 1 f fd ["self", "value"] (sp_exi K C "value") := by
  refine F.ok sc_NotFair___init__ (fun vs H Q E h => ?_) (fun cdv A outer s H vs Q E hr h => ?_)
  · obtain ⟨_, _, rfl, _⟩ := h
    rfl
  · obtain ⟨a, v, rfl, e, q⟩ := h
    exact ⟨_, pss_one (ps_osG (pv 0) (pv 1)), ⟨_, rfl, _, rfl, a, C, rfl, T, no, e, fun dx nd ne => q dx nd ne⟩⟩
theorem ini_InvalidHead {C f : Addr} {fd : FuncData} (F : Fun K "__init__" "InvalidHead.__init__" s_InvalidHead___init__ f fd) (T : OexG K C) (no : PySem.W.findIn K (.ref C) "index" = some none) : FnOk P w K mg base CX0 1 f fd ["self", "index"] (sp_exi K C "index") := by
  refine F.ok sc_InvalidHead___init__ (fun vs H Q E h => ?_) (fun cdv A outer s H vs Q E hr h => ?_)
  · obtain ⟨_, _, rfl, _⟩ := h
    rfl
  · obtain ⟨a, v, rfl, e, q⟩ := h
    exact ⟨_, pss_one (ps_osG (pv 0) (pv 1)), ⟨_, rfl, _, rfl, a, C, rfl, T, no, e, fun dx nd ne => q dx nd ne⟩⟩
theorem ini_InvalidClaims {C f : Addr} {fd : FuncData} (F : Fun K "__init__" "InvalidClaims.__init__" s_InvalidClaims___init__ f fd) (T : OexG K C) (no : PySem.W.findIn K (.ref C) "index" = some none) : FnOk P w K mg base CX0 1 f fd ["self", "index"] (sp_exi K C "index") := by
  refine F.ok sc_InvalidClaims___init__ (fun vs H Q E h => ?_) (fun cdv A outer s H vs Q E hr h => ?_)
  · obtain ⟨_, _, rfl, _⟩ := h
    rfl
  · obtain ⟨a, v, rfl, e, q⟩ := h
    exact ⟨_, pss_one (ps_osG (pv 0) (pv 1)), ⟨_, rfl, _, rfl, a, C, rfl, T, no, e, fun dx nd ne => q dx nd ne⟩⟩
theorem ini_InvalidDivision {C f : Addr} {fd : FuncData} (F : Fun K "__init__" "InvalidDivision.__init__" s_InvalidDivision___init__ f fd) (T : OexG K C) (no : PySem.W.findIn K (.ref C) "index" = some none) : FnOk P w K mg base CX0 1 f fd ["self", "index"] (sp_exi K C "index") := by
  refine F.ok sc_InvalidDivision___init__ (fun vs H Q E h => ?_) (fun cdv A outer s H vs Q E hr h => ?_)
  · obtain ⟨_, _, rfl, _⟩ := h
    rfl
  · obtain ⟨a, v, rfl, e, q⟩ := h
    exact ⟨_, pss_one (ps_osG (pv 0) (pv 1)), ⟨_, rfl, _, rfl, a, C, rfl, T, no, e, fun dx nd ne => q dx nd ne⟩⟩
theorem ini_InvalidStatements {C f : Addr} {fd : FuncData} (F : Fun K "__init__" "InvalidStatements.__init__" s_InvalidStatements___init__ f fd) (T : OexG K C) (no : PySem.W.findIn K (.ref C) "index" = some none) : FnOk P w K mg base CX0 1 f fd ["self", "index"] (sp_exi K C "index") := by
  refine F.ok sc_InvalidStatements___init__ (fun vs H Q E h => ?_) (fun cdv A outer s H vs Q E hr h => ?_)
  · obtain ⟨_, _, rfl, _⟩ := h
    rfl
  · obtain ⟨a, v, rfl, e, q⟩ := h
    exact ⟨_, pss_one (ps_osG (pv 0) (pv 1)), ⟨_, rfl, _, rfl, a, C, rfl, T, no, e, fun dx nd ne => q dx nd ne⟩⟩
theorem ini_InvalidDeeds {C f : Addr} {fd : FuncData} (F : Fun K "__init__" "InvalidDeeds.__init__" s_InvalidDeeds___init__ f fd) (T : OexG K C) (no : PySem.W.findIn K (.ref C) "index" = some none) : FnOk P w K mg base CX0 1 f fd ["self", "index"] (sp_exi K C "index") := by
  refine F.ok sc_InvalidDeeds___init__ (fun vs H Q E h => ?_) (fun cdv A outer s H vs Q E hr h => ?_)
  · obtain ⟨_, _, rfl, _⟩ := h
    rfl
  · obtain ⟨a, v, rfl, e, q⟩ := h
    exact ⟨_, pss_one (ps_osG (pv 0) (pv 1)), ⟨_, rfl, _, rfl, a, C, rfl, T, no, e, fun dx nd ne => q dx nd ne⟩⟩
theorem ini_TooManyItems {C f : Addr} {fd : FuncData} (F : Fun K "__init__" "TooManyItems.__init__" s_TooManyItems___init__ f fd) (T : OexG K C) (no : PySem.W.findIn K (.ref C) "limit" = some none) : FnOk P w K mg base CX0 1 f fd ["self", "limit"] (sp_exi K C "limit") := by
  refine F.ok sc_TooManyItems___init__ (fun vs H Q E h => ?_) (fun cdv A outer s H vs Q E hr h => ?_)
  · obtain ⟨_, _, rfl, _⟩ := h
    rfl
  · obtain ⟨a, v, rfl, e, q⟩ := h
    exact ⟨_, pss_one (ps_osG (pv 0) (pv 1)), ⟨_, rfl, _, rfl, a, C, rfl, T, no, e, fun dx nd ne => q dx nd ne⟩⟩
theorem ini_TooManyStatements {C f : Addr} {fd : FuncData} (F : Fun K "__init__" "TooManyStatements.__init__" s_TooManyStatements___init__ f fd) (T : OexG K C) (no : PySem.W.findIn K (.ref C) "limit" = some none) : FnOk P w K mg base CX0 1 f fd ["self", "limit"] (sp_exi K C "limit") := by
  refine F.ok sc_TooManyStatements___init__ (fun vs H Q E h => ?_) (fun cdv A outer s H vs Q E hr h => ?_)
  · obtain ⟨_, _, rfl, _⟩ := h
    rfl
  · obtain ⟨a, v, rfl, e, q⟩ := h
    exact ⟨_, pss_one (ps_osG (pv 0) (pv 1)), ⟨_, rfl, _, rfl, a, C, rfl, T, no, e, fun dx nd ne => q dx nd ne⟩⟩
end
structure Cs where
  c0 : Addr
  c1 : Addr
  c2 : Addr
  c3 : Addr
  c4 : Addr
  c5 : Addr
  c6 : Addr
  c7 : Addr
  c8 : Addr
  c9 : Addr
  c10 : Addr
  c11 : Addr
  c12 : Addr
  c13 : Addr
  c14 : Addr
  c15 : Addr
  c16 : Addr
  c17 : Addr
  c18 : Addr
  c19 : Addr
  inp : Addr
  sta : Addr
  siz : Addr
def Cs.all (c : Cs) : List Addr := [c.c0, c.c1, c.c2, c.c3, c.c4, c.c5, c.c6, c.c7, c.c8, c.c9, c.c10, c.c11, c.c12, c.c13, c.c14, c.c15, c.c16, c.c17, c.c18, c.c19]
/-- which of the three kinds -/
def kindB (i : Nat) : List Bool := [decide (i < 15), decide (15 ≤ i ∧ i < 18), decide (18 ≤ i)]
def kindBs (i : Nat) : List Bool := kindB i ++ kindB i
def onlyB (i : Nat) : List Bool := (List.range 20).map fun j => decide (i = j)
structure ClK (P : Program) (w : World) (K : PySem.W.Frag) (mg : Str → Option Value) (base : Heap) (c : Cs) : Prop where
  g0 : mg "NotARule" = some (.ref c.c0)
  m0 : ExV P w K mg base 1 "NotARule" c.c0 "value"
  g1 : mg "NotAnInquiry" = some (.ref c.c1)
  m1 : ExV P w K mg base 1 "NotAnInquiry" c.c1 "value"
  g2 : mg "InvalidOffset" = some (.ref c.c2)
  m2 : ExV P w K mg base 1 "InvalidOffset" c.c2 "value"
  g3 : mg "InvalidText" = some (.ref c.c3)
  m3 : ExV P w K mg base 1 "InvalidText" c.c3 "value"
  g4 : mg "InvalidCount" = some (.ref c.c4)
  m4 : ExV P w K mg base 1 "InvalidCount" c.c4 "value"
  g5 : mg "InvalidClaimants" = some (.ref c.c5)
  m5 : ExV P w K mg base 1 "InvalidClaimants" c.c5 "value"
  g6 : mg "InvalidClaimant" = some (.ref c.c6)
  m6 : ExV P w K mg base 1 "InvalidClaimant" c.c6 "value"
  g7 : mg "InvalidPlace" = some (.ref c.c7)
  m7 : ExV P w K mg base 1 "InvalidPlace" c.c7 "value"
  g8 : mg "InvalidRow" = some (.ref c.c8)
  m8 : ExV P w K mg base 1 "InvalidRow" c.c8 "value"
  g9 : mg "NotFair" = some (.ref c.c9)
  m9 : ExV P w K mg base 1 "NotFair" c.c9 "value"
  g10 : mg "InvalidHead" = some (.ref c.c10)
  m10 : ExV P w K mg base 1 "InvalidHead" c.c10 "index"
  g11 : mg "InvalidClaims" = some (.ref c.c11)
  m11 : ExV P w K mg base 1 "InvalidClaims" c.c11 "index"
  g12 : mg "InvalidDivision" = some (.ref c.c12)
  m12 : ExV P w K mg base 1 "InvalidDivision" c.c12 "index"
  g13 : mg "InvalidStatements" = some (.ref c.c13)
  m13 : ExV P w K mg base 1 "InvalidStatements" c.c13 "index"
  g14 : mg "InvalidDeeds" = some (.ref c.c14)
  m14 : ExV P w K mg base 1 "InvalidDeeds" c.c14 "index"
  g15 : mg "Inconsistent" = some (.ref c.c15)
  m15 : ExN K mg "Inconsistent" c.c15
  g16 : mg "NothingToUndo" = some (.ref c.c16)
  m16 : ExN K mg "NothingToUndo" c.c16
  g17 : mg "Busy" = some (.ref c.c17)
  m17 : ExN K mg "Busy" c.c17
  g18 : mg "TooManyItems" = some (.ref c.c18)
  m18 : ExV P w K mg base 1 "TooManyItems" c.c18 "limit"
  g19 : mg "TooManyStatements" = some (.ref c.c19)
  m19 : ExV P w K mg base 1 "TooManyStatements" c.c19 "limit"
  gI : mg "InputError" = some (.ref c.inp)
  gS : mg "StateError" = some (.ref c.sta)
  gZ : mg "SizeError" = some (.ref c.siz)
  mV : mg "ValueError" = none
  mL : mg "LookupError" = none
  mA : mg "ArithmeticError" = none
  g_MOST_CLAIMANTS : ∃ t, mg "MOST_CLAIMANTS" = some (.int (6) t)
  g_MOST_SHARERS : ∃ t, mg "MOST_SHARERS" = some (.int (12) t)
  g_MOST_HEAD : ∃ t, mg "MOST_HEAD" = some (.int (8) t)
  g_MOST_STATEMENTS : ∃ t, mg "MOST_STATEMENTS" = some (.int (12) t)
  g_MOST_ITEMS : ∃ t, mg "MOST_ITEMS" = some (.int (10 ^ 18) t)
  g_MOST_COMPARED : ∃ t, mg "MOST_COMPARED" = some (.int (200) t)
  g_MOST_LISTED : ∃ t, mg "MOST_LISTED" = some (.int (10) t)
  is : ∀ (i : Nat) (C : Addr), c.all[i]? = some C → IsEx K C
  xf : ∀ (i : Nat) (C : Addr), c.all[i]? = some C → XfC K C
  one : ∀ (i : Nat) (C : Addr), c.all[i]? = some C → ∀ (j : Nat) (D : Addr), c.all[j]? = some D → PySem.W.kitOne K (.ref C) (.ref D) = some (decide (i = j))
  bI : ∀ (i : Nat) (C : Addr), c.all[i]? = some C → PySem.W.kitOne K (.ref C) (.ref c.inp) = some (decide (i < 15))
  bS : ∀ (i : Nat) (C : Addr), c.all[i]? = some C → PySem.W.kitOne K (.ref C) (.ref c.sta) = some (decide (15 ≤ i ∧ i < 18))
  bZ : ∀ (i : Nat) (C : Addr), c.all[i]? = some C → PySem.W.kitOne K (.ref C) (.ref c.siz) = some (decide (18 ≤ i))
  bV : ∀ (i : Nat) (C : Addr), c.all[i]? = some C → PySem.W.kitOne K (.ref C) (.type "ValueError") = some (decide (i < 15))
  bL : ∀ (i : Nat) (C : Addr), c.all[i]? = some C → PySem.W.kitOne K (.ref C) (.type "LookupError") = some (decide (15 ≤ i ∧ i < 18))
  bA : ∀ (i : Nat) (C : Addr), c.all[i]? = some C → PySem.W.kitOne K (.ref C) (.type "ArithmeticError") = some (decide (18 ≤ i))
/-! ### lists of such exceptions -/
theorem ExAt.same {H H' : Hp} {a C : Addr} {n : Str} {y : V} (s : Same H H') (h : ExAt H a C n y) : ExAt H' a C n y := by
  obtain ⟨dx, h1, h2⟩ := h
  exact ⟨dx, s _ _ h1, s _ _ h2⟩
theorem ex_new {H : Hp} {a dx C : Addr} {n : Str} {y : V} (na : H a = none) (nd : H dx = none) (ne : dx ≠ a) : ExAt (upd (upd H dx (exd dx [(n, y)])) a (exo a C (some dx))) a C n y ∧ Same H (upd (upd H dx (exd dx [(n, y)])) a (exo a C (some dx))) := by
  refine ⟨⟨dx, upd_same, by rw [upd_ne ne, upd_same]⟩, (same_new nd).trans (same_new ?_)⟩
  rw [upd_ne (fun z => ne z.symm)]
  exact na
structure Fld (c : Cs) (n : Str) (y : V) (H : Hp) (xs : List V) (is : List Nat) : Prop where
  len : xs.length = is.length
  all : ∀ (j : Nat) (x : V) (i : Nat), xs[j]? = some x → is[j]? = some i → ∃ a C, x = .ref a ∧ c.all[i]? = some C ∧ ExAt H a C n y
structure Exs (c : Cs) (H : Hp) (xs : List V) (is : List Nat) : Prop where
  len : xs.length = is.length
  all : ∀ (j : Nat) (x : V) (i : Nat), xs[j]? = some x → is[j]? = some i → ∃ a C, x = .ref a ∧ c.all[i]? = some C ∧ (H a = some (exo a C none) ∨ ∃ n y, ExAt H a C n y)
section
variable {c : Cs} {n : Str} {y : V} {H H' : Hp} {xs ys : List V} {is js : List Nat} {a C : Addr} {i : Nat}
theorem snoc_all {φ : V → Nat → Prop} (ln : xs.length = is.length) (h : ∀ (j : Nat) (x : V) (i : Nat), xs[j]? = some x → is[j]? = some i → φ x i) {v : V} {k : Nat} (hv : φ v k) :
    ∀ (j : Nat) (x : V) (i : Nat), (xs ++ [v])[j]? = some x → (is ++ [k])[j]? = some i → φ x i := fun j x i h1 h2 => by
  rcases Nat.lt_or_ge j xs.length with z | z
  · rw [List.getElem?_append_left z] at h1
    rw [List.getElem?_append_left (by rw [← ln]; exact z)] at h2
    exact h j x i h1 h2
  · rw [List.getElem?_append_right z] at h1
    rw [List.getElem?_append_right (by rw [← ln]; exact z)] at h2
    rw [ln] at h1
    cases hj : j - is.length with
    | zero =>
      rw [hj] at h1 h2
      cases h1
      cases h2
      exact hv
    | succ m => rw [hj] at h1; simp at h1
theorem app_all {φ : V → Nat → Prop} (ln : xs.length = is.length) (h : ∀ (j : Nat) (x : V) (i : Nat), xs[j]? = some x → is[j]? = some i → φ x i) (h' : ∀ (j : Nat) (x : V) (i : Nat), ys[j]? = some x → js[j]? = some i → φ x i) :
    ∀ (j : Nat) (x : V) (i : Nat), (xs ++ ys)[j]? = some x → (is ++ js)[j]? = some i → φ x i := fun j x i h1 h2 => by
  rcases Nat.lt_or_ge j xs.length with z | z
  · rw [List.getElem?_append_left z] at h1
    rw [List.getElem?_append_left (by rw [← ln]; exact z)] at h2
    exact h j x i h1 h2
  · rw [List.getElem?_append_right z] at h1
    rw [List.getElem?_append_right (by rw [← ln]; exact z)] at h2
    rw [ln] at h1
    exact h' _ x i h1 h2
theorem Fld.nil : Fld c n y H [] [] := ⟨rfl, fun j x i h => by simp at h⟩
theorem Fld.same (f : Fld c n y H xs is) (s : Same H H') : Fld c n y H' xs is := ⟨f.len, fun j x i h1 h2 => by
  obtain ⟨a, C, e, hC, h⟩ := f.all j x i h1 h2
  exact ⟨a, C, e, hC, h.same s⟩⟩
theorem Fld.snoc (f : Fld c n y H xs is) (s : Same H H') (h : ExAt H' a C n y) (hC : c.all[i]? = some C) : Fld c n y H' (xs ++ [.ref a]) (is ++ [i]) :=
  ⟨by simp [f.len], snoc_all f.len (f.same s).all ⟨a, C, rfl, hC, h⟩⟩
theorem Fld.app (f : Fld c n y H xs is) (f' : Fld c n y H ys js) : Fld c n y H (xs ++ ys) (is ++ js) := ⟨by simp [f.len, f'.len], app_all f.len f.all f'.all⟩
theorem Fld.exs (f : Fld c n y H xs is) : Exs c H xs is := ⟨f.len, fun j x i h1 h2 => by
  obtain ⟨a, C, e, hC, h⟩ := f.all j x i h1 h2
  exact ⟨a, C, e, hC, .inr ⟨_, _, h⟩⟩⟩
theorem Exs.nil : Exs c H [] [] := ⟨rfl, fun j x i h => by simp at h⟩
theorem Exs.same (f : Exs c H xs is) (s : Same H H') : Exs c H' xs is := ⟨f.len, fun j x i h1 h2 => by
  obtain ⟨a, C, e, hC, h | ⟨n, y, h⟩⟩ := f.all j x i h1 h2
  · exact ⟨a, C, e, hC, .inl (s _ _ h)⟩
  · exact ⟨a, C, e, hC, .inr ⟨n, y, h.same s⟩⟩⟩
theorem Exs.snoc (f : Exs c H xs is) (s : Same H H') (h : H' a = some (exo a C none)) (hC : c.all[i]? = some C) : Exs c H' (xs ++ [.ref a]) (is ++ [i]) :=
  ⟨by simp [f.len], snoc_all f.len (f.same s).all ⟨a, C, rfl, hC, .inl h⟩⟩
theorem Exs.app (f : Exs c H xs is) (f' : Exs c H ys js) : Exs c H (xs ++ ys) (is ++ js) := ⟨by simp [f.len, f'.len], app_all f.len f.all f'.all⟩
end
/-! ### all of them made -/
section
variable {P : Program} {w : World} {K : PySem.W.Frag} {mg : Str → Option Value} {base : Heap} {c : Cs}
def sp__law_created (c : Cs) : Sp := fun vs H Q _ => ∃ v : V, vs = [v] ∧ ∀ p l m xs ys H', Same H H' → H' p = some (.tup [.ref l, .ref m]) → H' l = some (.lst xs) → H' m = some (.lst ys) →
  Fld c "value" v H' xs ([0, 1, 2, 3] ++ [4, 5, 6, 7] ++ [8, 9] ++ ([0, 1, 2] ++ [3, 4, 5] ++ [6, 7, 8] ++ [9])) → Fld c "index" v H' ys ([10, 11, 12, 13] ++ [14] ++ ([10, 11, 12] ++ [13, 14])) → Q (.ref p) H'
theorem cal__law_created (B : Bl mg) (DD : OwnDef K mg "_law_created" s__law_created) (T : ClK P w K mg base c) : Cal P w K mg base 5 "_law_created" (sp__law_created c) [] := by
  obtain ⟨f, fd, F, hm⟩ := DD.ex
  refine ⟨f, fd, ["_law_thing"], [], F.ok sc__law_created (fun vs H Q E h => ?len) (fun cdv A outer s H vs Q E hr h => ?run), hm, F.kp, F.binds (fun _ _ _ _ _ _ us hl => match us, hl with | [_], _ => rfl), .nil⟩
  case len =>
    obtain ⟨_, rfl, _⟩ := h
    rfl
  case run =>
    obtain ⟨v, rfl, k⟩ := h
    refine ⟨_, (pss_cons (ps_set (i := 1) sc__law_created.nd rfl (Or.inl rfl) (pe_lst (pa_cons (pe_exP T.m0 hr (by decide) (by rfl) (pv 0)) (pa_cons (pe_exP T.m1 hr (by decide) (by rfl) (pv 0)) (pa_cons (pe_exP T.m2 hr (by decide) (by rfl) (pv 0)) (pa_cons (pe_exP T.m3 hr (by decide) (by rfl) (pv 0)) pa_nil))))))
      (pss_cons (ps_set (i := 1) sc__law_created.nd rfl (Or.inl rfl) (pe_op op_cat (pv 1) (pe_lst (pa_cons (pe_exP T.m4 hr (by decide) (by rfl) (pv 0)) (pa_cons (pe_exP T.m5 hr (by decide) (by rfl) (pv 0)) (pa_cons (pe_exP T.m6 hr (by decide) (by rfl) (pv 0)) (pa_cons (pe_exP T.m7 hr (by decide) (by rfl) (pv 0)) pa_nil)))))))
      (pss_cons (ps_set (i := 1) sc__law_created.nd rfl (Or.inl rfl) (pe_op op_cat (pv 1) (pe_lst (pa_cons (pe_exP T.m8 hr (by decide) (by rfl) (pv 0)) (pa_cons (pe_exP T.m9 hr (by decide) (by rfl) (pv 0)) pa_nil)))))
      (pss_cons (ps_set (i := 2) sc__law_created.nd rfl (Or.inl rfl) (pe_lst (pa_cons (pe_exK T.m0 hr (by decide) (by rfl) (pk_cons (pv 0) pk_nil)) (pa_cons (pe_exK T.m1 hr (by decide) (by rfl) (pk_cons (pv 0) pk_nil)) (pa_cons (pe_exK T.m2 hr (by decide) (by rfl) (pk_cons (pv 0) pk_nil)) pa_nil)))))
      (pss_cons (ps_set (i := 2) sc__law_created.nd rfl (Or.inl rfl) (pe_op op_cat (pv 2) (pe_lst (pa_cons (pe_exK T.m3 hr (by decide) (by rfl) (pk_cons (pv 0) pk_nil)) (pa_cons (pe_exK T.m4 hr (by decide) (by rfl) (pk_cons (pv 0) pk_nil)) (pa_cons (pe_exK T.m5 hr (by decide) (by rfl) (pk_cons (pv 0) pk_nil)) pa_nil))))))
      (pss_cons (ps_set (i := 2) sc__law_created.nd rfl (Or.inl rfl) (pe_op op_cat (pv 2) (pe_lst (pa_cons (pe_exK T.m6 hr (by decide) (by rfl) (pk_cons (pv 0) pk_nil)) (pa_cons (pe_exK T.m7 hr (by decide) (by rfl) (pk_cons (pv 0) pk_nil)) (pa_cons (pe_exK T.m8 hr (by decide) (by rfl) (pk_cons (pv 0) pk_nil)) pa_nil))))))
      (pss_cons (ps_set (i := 2) sc__law_created.nd rfl (Or.inl rfl) (pe_op op_cat (pv 2) (pe_lst (pa_cons (pe_exK T.m9 hr (by decide) (by rfl) (pk_cons (pv 0) pk_nil)) pa_nil))))
      (pss_cons (ps_set (i := 3) sc__law_created.nd rfl (Or.inl rfl) (pe_lst (pa_cons (pe_exP T.m10 hr (by decide) (by rfl) (pv 0)) (pa_cons (pe_exP T.m11 hr (by decide) (by rfl) (pv 0)) (pa_cons (pe_exP T.m12 hr (by decide) (by rfl) (pv 0)) (pa_cons (pe_exP T.m13 hr (by decide) (by rfl) (pv 0)) pa_nil))))))
      (pss_cons (ps_set (i := 3) sc__law_created.nd rfl (Or.inl rfl) (pe_op op_cat (pv 3) (pe_lst (pa_cons (pe_exP T.m14 hr (by decide) (by rfl) (pv 0)) pa_nil))))
      (pss_cons (ps_set (i := 4) sc__law_created.nd rfl (Or.inl rfl) (pe_lst (pa_cons (pe_exK T.m10 hr (by decide) (by rfl) (pk_cons (pv 0) pk_nil)) (pa_cons (pe_exK T.m11 hr (by decide) (by rfl) (pk_cons (pv 0) pk_nil)) (pa_cons (pe_exK T.m12 hr (by decide) (by rfl) (pk_cons (pv 0) pk_nil)) pa_nil)))))
      (pss_cons (ps_set (i := 4) sc__law_created.nd rfl (Or.inl rfl) (pe_op op_cat (pv 4) (pe_lst (pa_cons (pe_exK T.m13 hr (by decide) (by rfl) (pk_cons (pv 0) pk_nil)) (pa_cons (pe_exK T.m14 hr (by decide) (by rfl) (pk_cons (pv 0) pk_nil)) pa_nil)))))
      (pss_one (ps_ret (pe_tup (pa_cons (pe_op op_cat (pv 1) (pv 2)) (pa_cons (pe_op op_cat (pv 3) (pv 4)) pa_nil)))))))))))))))), ?_⟩
    have SS : Same H H := Same.refl H
    have F1 : Fld c "value" v H [] [] := .nil
    refine ⟨_, rfl, _, rfl, fun a1_0 b1_0 na nb ne => ?_⟩
    obtain ⟨e, s⟩ := ex_new (C := c.c0) (n := "value") (y := v) na nb ne
    replace F1 := F1.snoc (i := 0) s e rfl
    replace SS := SS.trans s
    generalize upd (upd H b1_0 (exd b1_0 [("value", v)])) a1_0 (exo a1_0 c.c0 (some b1_0)) = J1_0 at F1 SS  ⊢
    clear e s na nb ne
    refine ⟨_, rfl, _, rfl, fun a1_1 b1_1 na nb ne => ?_⟩
    obtain ⟨e, s⟩ := ex_new (C := c.c1) (n := "value") (y := v) na nb ne
    replace F1 := F1.snoc (i := 1) s e rfl
    replace SS := SS.trans s
    generalize upd (upd J1_0 b1_1 (exd b1_1 [("value", v)])) a1_1 (exo a1_1 c.c1 (some b1_1)) = J1_1 at F1 SS  ⊢
    clear e s na nb ne
    refine ⟨_, rfl, _, rfl, fun a1_2 b1_2 na nb ne => ?_⟩
    obtain ⟨e, s⟩ := ex_new (C := c.c2) (n := "value") (y := v) na nb ne
    replace F1 := F1.snoc (i := 2) s e rfl
    replace SS := SS.trans s
    generalize upd (upd J1_1 b1_2 (exd b1_2 [("value", v)])) a1_2 (exo a1_2 c.c2 (some b1_2)) = J1_2 at F1 SS  ⊢
    clear e s na nb ne
    refine ⟨_, rfl, _, rfl, fun a1_3 b1_3 na nb ne => ?_⟩
    obtain ⟨e, s⟩ := ex_new (C := c.c3) (n := "value") (y := v) na nb ne
    replace F1 := F1.snoc (i := 3) s e rfl
    replace SS := SS.trans s
    generalize upd (upd J1_2 b1_3 (exd b1_3 [("value", v)])) a1_3 (exo a1_3 c.c3 (some b1_3)) = J1_3 at F1 SS  ⊢
    clear e s na nb ne
    refine ⟨by show 4 ≤ sizeLine; decide, fun q1 nq1 => ?_⟩
    have s : Same J1_3 (upd J1_3 q1 (.lst [V.ref a1_0, V.ref a1_1, V.ref a1_2, V.ref a1_3])) := same_new nq1
    have r1 : (upd J1_3 q1 (.lst [V.ref a1_0, V.ref a1_1, V.ref a1_2, V.ref a1_3])) q1 = some (.lst [V.ref a1_0, V.ref a1_1, V.ref a1_2, V.ref a1_3]) := upd_same
    replace F1 := F1.same s
    replace SS := SS.trans s
    generalize upd J1_3 q1 (.lst [V.ref a1_0, V.ref a1_1, V.ref a1_2, V.ref a1_3]) = J1 at F1 r1 SS  ⊢
    clear s nq1
    have F2 : Fld c "value" v J1 [] [] := .nil
    refine ⟨_, rfl, _, rfl, _, rfl, fun a2_0 b2_0 na nb ne => ?_⟩
    obtain ⟨e, s⟩ := ex_new (C := c.c4) (n := "value") (y := v) na nb ne
    replace F2 := F2.snoc (i := 4) s e rfl
    replace F1 := F1.same s
    replace r1 := s _ _ r1
    replace SS := SS.trans s
    generalize upd (upd J1 b2_0 (exd b2_0 [("value", v)])) a2_0 (exo a2_0 c.c4 (some b2_0)) = J2_0 at F2 SS F1 r1 ⊢
    clear e s na nb ne
    refine ⟨_, rfl, _, rfl, fun a2_1 b2_1 na nb ne => ?_⟩
    obtain ⟨e, s⟩ := ex_new (C := c.c5) (n := "value") (y := v) na nb ne
    replace F2 := F2.snoc (i := 5) s e rfl
    replace F1 := F1.same s
    replace r1 := s _ _ r1
    replace SS := SS.trans s
    generalize upd (upd J2_0 b2_1 (exd b2_1 [("value", v)])) a2_1 (exo a2_1 c.c5 (some b2_1)) = J2_1 at F2 SS F1 r1 ⊢
    clear e s na nb ne
    refine ⟨_, rfl, _, rfl, fun a2_2 b2_2 na nb ne => ?_⟩
    obtain ⟨e, s⟩ := ex_new (C := c.c6) (n := "value") (y := v) na nb ne
    replace F2 := F2.snoc (i := 6) s e rfl
    replace F1 := F1.same s
    replace r1 := s _ _ r1
    replace SS := SS.trans s
    generalize upd (upd J2_1 b2_2 (exd b2_2 [("value", v)])) a2_2 (exo a2_2 c.c6 (some b2_2)) = J2_2 at F2 SS F1 r1 ⊢
    clear e s na nb ne
    refine ⟨_, rfl, _, rfl, fun a2_3 b2_3 na nb ne => ?_⟩
    obtain ⟨e, s⟩ := ex_new (C := c.c7) (n := "value") (y := v) na nb ne
    replace F2 := F2.snoc (i := 7) s e rfl
    replace F1 := F1.same s
    replace r1 := s _ _ r1
    replace SS := SS.trans s
    generalize upd (upd J2_2 b2_3 (exd b2_3 [("value", v)])) a2_3 (exo a2_3 c.c7 (some b2_3)) = J2_3 at F2 SS F1 r1 ⊢
    clear e s na nb ne
    refine ⟨by show 4 ≤ sizeLine; decide, fun q2 nq2 => ?_⟩
    have s : Same J2_3 (upd J2_3 q2 (.lst [V.ref a2_0, V.ref a2_1, V.ref a2_2, V.ref a2_3])) := same_new nq2
    have r2 : (upd J2_3 q2 (.lst [V.ref a2_0, V.ref a2_1, V.ref a2_2, V.ref a2_3])) q2 = some (.lst [V.ref a2_0, V.ref a2_1, V.ref a2_2, V.ref a2_3]) := upd_same
    replace F1 := F1.same s
    replace F2 := F2.same s
    replace r1 := s _ _ r1
    replace SS := SS.trans s
    generalize upd J2_3 q2 (.lst [V.ref a2_0, V.ref a2_1, V.ref a2_2, V.ref a2_3]) = J2 at F2 r2 SS F1 r1 ⊢
    clear s nq2
    refine ⟨_, _, _, _, rfl, rfl, r1, r2, by show 4 + 4 ≤ sizeLine; decide, fun q3 nq3 => ?_⟩
    have s : Same J2 (upd J2 q3 (.lst ([V.ref a1_0, V.ref a1_1, V.ref a1_2, V.ref a1_3] ++ [V.ref a2_0, V.ref a2_1, V.ref a2_2, V.ref a2_3]))) := same_new nq3
    have r3 : (upd J2 q3 (.lst ([V.ref a1_0, V.ref a1_1, V.ref a1_2, V.ref a1_3] ++ [V.ref a2_0, V.ref a2_1, V.ref a2_2, V.ref a2_3]))) q3 = some (.lst ([V.ref a1_0, V.ref a1_1, V.ref a1_2, V.ref a1_3] ++ [V.ref a2_0, V.ref a2_1, V.ref a2_2, V.ref a2_3])) := upd_same
    replace F1 := F1.same s
    replace F2 := F2.same s
    replace SS := SS.trans s
    generalize upd J2 q3 (.lst ([V.ref a1_0, V.ref a1_1, V.ref a1_2, V.ref a1_3] ++ [V.ref a2_0, V.ref a2_1, V.ref a2_2, V.ref a2_3])) = J3 at r3 SS F1 F2 ⊢
    clear s nq3
    replace F1 := F1.app F2
    clear F2
    have F4 : Fld c "value" v J3 [] [] := .nil
    refine ⟨_, rfl, _, rfl, _, rfl, fun a4_0 b4_0 na nb ne => ?_⟩
    obtain ⟨e, s⟩ := ex_new (C := c.c8) (n := "value") (y := v) na nb ne
    replace F4 := F4.snoc (i := 8) s e rfl
    replace F1 := F1.same s
    replace r3 := s _ _ r3
    replace SS := SS.trans s
    generalize upd (upd J3 b4_0 (exd b4_0 [("value", v)])) a4_0 (exo a4_0 c.c8 (some b4_0)) = J4_0 at F4 SS F1 r3 ⊢
    clear e s na nb ne
    refine ⟨_, rfl, _, rfl, fun a4_1 b4_1 na nb ne => ?_⟩
    obtain ⟨e, s⟩ := ex_new (C := c.c9) (n := "value") (y := v) na nb ne
    replace F4 := F4.snoc (i := 9) s e rfl
    replace F1 := F1.same s
    replace r3 := s _ _ r3
    replace SS := SS.trans s
    generalize upd (upd J4_0 b4_1 (exd b4_1 [("value", v)])) a4_1 (exo a4_1 c.c9 (some b4_1)) = J4_1 at F4 SS F1 r3 ⊢
    clear e s na nb ne
    refine ⟨by show 2 ≤ sizeLine; decide, fun q4 nq4 => ?_⟩
    have s : Same J4_1 (upd J4_1 q4 (.lst [V.ref a4_0, V.ref a4_1])) := same_new nq4
    have r4 : (upd J4_1 q4 (.lst [V.ref a4_0, V.ref a4_1])) q4 = some (.lst [V.ref a4_0, V.ref a4_1]) := upd_same
    replace F1 := F1.same s
    replace F4 := F4.same s
    replace r3 := s _ _ r3
    replace SS := SS.trans s
    generalize upd J4_1 q4 (.lst [V.ref a4_0, V.ref a4_1]) = J4 at F4 r4 SS F1 r3 ⊢
    clear s nq4
    refine ⟨_, _, _, _, rfl, rfl, r3, r4, by show 8 + 2 ≤ sizeLine; decide, fun q5 nq5 => ?_⟩
    have s : Same J4 (upd J4 q5 (.lst (([V.ref a1_0, V.ref a1_1, V.ref a1_2, V.ref a1_3] ++ [V.ref a2_0, V.ref a2_1, V.ref a2_2, V.ref a2_3]) ++ [V.ref a4_0, V.ref a4_1]))) := same_new nq5
    have r5 : (upd J4 q5 (.lst (([V.ref a1_0, V.ref a1_1, V.ref a1_2, V.ref a1_3] ++ [V.ref a2_0, V.ref a2_1, V.ref a2_2, V.ref a2_3]) ++ [V.ref a4_0, V.ref a4_1]))) q5 = some (.lst (([V.ref a1_0, V.ref a1_1, V.ref a1_2, V.ref a1_3] ++ [V.ref a2_0, V.ref a2_1, V.ref a2_2, V.ref a2_3]) ++ [V.ref a4_0, V.ref a4_1])) := upd_same
    replace F1 := F1.same s
    replace F4 := F4.same s
    replace SS := SS.trans s
    generalize upd J4 q5 (.lst (([V.ref a1_0, V.ref a1_1, V.ref a1_2, V.ref a1_3] ++ [V.ref a2_0, V.ref a2_1, V.ref a2_2, V.ref a2_3]) ++ [V.ref a4_0, V.ref a4_1])) = J5 at r5 SS F1 F4 ⊢
    clear s nq5
    replace F1 := F1.app F4
    clear F4
    have F6 : Fld c "value" v J5 [] [] := .nil
    refine ⟨_, rfl, _, rfl, fun a6_0 b6_0 na nb ne => ?_⟩
    obtain ⟨e, s⟩ := ex_new (C := c.c0) (n := "value") (y := v) na nb ne
    replace F6 := F6.snoc (i := 0) s e rfl
    replace F1 := F1.same s
    replace r5 := s _ _ r5
    replace SS := SS.trans s
    generalize upd (upd J5 b6_0 (exd b6_0 [("value", v)])) a6_0 (exo a6_0 c.c0 (some b6_0)) = J6_0 at F6 SS F1 r5 ⊢
    clear e s na nb ne
    refine ⟨_, rfl, _, rfl, fun a6_1 b6_1 na nb ne => ?_⟩
    obtain ⟨e, s⟩ := ex_new (C := c.c1) (n := "value") (y := v) na nb ne
    replace F6 := F6.snoc (i := 1) s e rfl
    replace F1 := F1.same s
    replace r5 := s _ _ r5
    replace SS := SS.trans s
    generalize upd (upd J6_0 b6_1 (exd b6_1 [("value", v)])) a6_1 (exo a6_1 c.c1 (some b6_1)) = J6_1 at F6 SS F1 r5 ⊢
    clear e s na nb ne
    refine ⟨_, rfl, _, rfl, fun a6_2 b6_2 na nb ne => ?_⟩
    obtain ⟨e, s⟩ := ex_new (C := c.c2) (n := "value") (y := v) na nb ne
    replace F6 := F6.snoc (i := 2) s e rfl
    replace F1 := F1.same s
    replace r5 := s _ _ r5
    replace SS := SS.trans s
    generalize upd (upd J6_1 b6_2 (exd b6_2 [("value", v)])) a6_2 (exo a6_2 c.c2 (some b6_2)) = J6_2 at F6 SS F1 r5 ⊢
    clear e s na nb ne
    refine ⟨by show 3 ≤ sizeLine; decide, fun q6 nq6 => ?_⟩
    have s : Same J6_2 (upd J6_2 q6 (.lst [V.ref a6_0, V.ref a6_1, V.ref a6_2])) := same_new nq6
    have r6 : (upd J6_2 q6 (.lst [V.ref a6_0, V.ref a6_1, V.ref a6_2])) q6 = some (.lst [V.ref a6_0, V.ref a6_1, V.ref a6_2]) := upd_same
    replace F1 := F1.same s
    replace F6 := F6.same s
    replace r5 := s _ _ r5
    replace SS := SS.trans s
    generalize upd J6_2 q6 (.lst [V.ref a6_0, V.ref a6_1, V.ref a6_2]) = J6 at F6 r6 SS F1 r5 ⊢
    clear s nq6
    have F7 : Fld c "value" v J6 [] [] := .nil
    refine ⟨_, rfl, _, rfl, _, rfl, fun a7_0 b7_0 na nb ne => ?_⟩
    obtain ⟨e, s⟩ := ex_new (C := c.c3) (n := "value") (y := v) na nb ne
    replace F7 := F7.snoc (i := 3) s e rfl
    replace F1 := F1.same s
    replace F6 := F6.same s
    replace r5 := s _ _ r5
    replace r6 := s _ _ r6
    replace SS := SS.trans s
    generalize upd (upd J6 b7_0 (exd b7_0 [("value", v)])) a7_0 (exo a7_0 c.c3 (some b7_0)) = J7_0 at F7 SS F1 F6 r5 r6 ⊢
    clear e s na nb ne
    refine ⟨_, rfl, _, rfl, fun a7_1 b7_1 na nb ne => ?_⟩
    obtain ⟨e, s⟩ := ex_new (C := c.c4) (n := "value") (y := v) na nb ne
    replace F7 := F7.snoc (i := 4) s e rfl
    replace F1 := F1.same s
    replace F6 := F6.same s
    replace r5 := s _ _ r5
    replace r6 := s _ _ r6
    replace SS := SS.trans s
    generalize upd (upd J7_0 b7_1 (exd b7_1 [("value", v)])) a7_1 (exo a7_1 c.c4 (some b7_1)) = J7_1 at F7 SS F1 F6 r5 r6 ⊢
    clear e s na nb ne
    refine ⟨_, rfl, _, rfl, fun a7_2 b7_2 na nb ne => ?_⟩
    obtain ⟨e, s⟩ := ex_new (C := c.c5) (n := "value") (y := v) na nb ne
    replace F7 := F7.snoc (i := 5) s e rfl
    replace F1 := F1.same s
    replace F6 := F6.same s
    replace r5 := s _ _ r5
    replace r6 := s _ _ r6
    replace SS := SS.trans s
    generalize upd (upd J7_1 b7_2 (exd b7_2 [("value", v)])) a7_2 (exo a7_2 c.c5 (some b7_2)) = J7_2 at F7 SS F1 F6 r5 r6 ⊢
    clear e s na nb ne
    refine ⟨by show 3 ≤ sizeLine; decide, fun q7 nq7 => ?_⟩
    have s : Same J7_2 (upd J7_2 q7 (.lst [V.ref a7_0, V.ref a7_1, V.ref a7_2])) := same_new nq7
    have r7 : (upd J7_2 q7 (.lst [V.ref a7_0, V.ref a7_1, V.ref a7_2])) q7 = some (.lst [V.ref a7_0, V.ref a7_1, V.ref a7_2]) := upd_same
    replace F1 := F1.same s
    replace F6 := F6.same s
    replace F7 := F7.same s
    replace r5 := s _ _ r5
    replace r6 := s _ _ r6
    replace SS := SS.trans s
    generalize upd J7_2 q7 (.lst [V.ref a7_0, V.ref a7_1, V.ref a7_2]) = J7 at F7 r7 SS F1 F6 r5 r6 ⊢
    clear s nq7
    refine ⟨_, _, _, _, rfl, rfl, r6, r7, by show 3 + 3 ≤ sizeLine; decide, fun q8 nq8 => ?_⟩
    have s : Same J7 (upd J7 q8 (.lst ([V.ref a6_0, V.ref a6_1, V.ref a6_2] ++ [V.ref a7_0, V.ref a7_1, V.ref a7_2]))) := same_new nq8
    have r8 : (upd J7 q8 (.lst ([V.ref a6_0, V.ref a6_1, V.ref a6_2] ++ [V.ref a7_0, V.ref a7_1, V.ref a7_2]))) q8 = some (.lst ([V.ref a6_0, V.ref a6_1, V.ref a6_2] ++ [V.ref a7_0, V.ref a7_1, V.ref a7_2])) := upd_same
    replace F1 := F1.same s
    replace F6 := F6.same s
    replace F7 := F7.same s
    replace r5 := s _ _ r5
    replace SS := SS.trans s
    generalize upd J7 q8 (.lst ([V.ref a6_0, V.ref a6_1, V.ref a6_2] ++ [V.ref a7_0, V.ref a7_1, V.ref a7_2])) = J8 at r8 SS F1 F6 F7 r5 ⊢
    clear s nq8
    replace F6 := F6.app F7
    clear F7
    have F9 : Fld c "value" v J8 [] [] := .nil
    refine ⟨_, rfl, _, rfl, _, rfl, fun a9_0 b9_0 na nb ne => ?_⟩
    obtain ⟨e, s⟩ := ex_new (C := c.c6) (n := "value") (y := v) na nb ne
    replace F9 := F9.snoc (i := 6) s e rfl
    replace F1 := F1.same s
    replace F6 := F6.same s
    replace r5 := s _ _ r5
    replace r8 := s _ _ r8
    replace SS := SS.trans s
    generalize upd (upd J8 b9_0 (exd b9_0 [("value", v)])) a9_0 (exo a9_0 c.c6 (some b9_0)) = J9_0 at F9 SS F1 F6 r5 r8 ⊢
    clear e s na nb ne
    refine ⟨_, rfl, _, rfl, fun a9_1 b9_1 na nb ne => ?_⟩
    obtain ⟨e, s⟩ := ex_new (C := c.c7) (n := "value") (y := v) na nb ne
    replace F9 := F9.snoc (i := 7) s e rfl
    replace F1 := F1.same s
    replace F6 := F6.same s
    replace r5 := s _ _ r5
    replace r8 := s _ _ r8
    replace SS := SS.trans s
    generalize upd (upd J9_0 b9_1 (exd b9_1 [("value", v)])) a9_1 (exo a9_1 c.c7 (some b9_1)) = J9_1 at F9 SS F1 F6 r5 r8 ⊢
    clear e s na nb ne
    refine ⟨_, rfl, _, rfl, fun a9_2 b9_2 na nb ne => ?_⟩
    obtain ⟨e, s⟩ := ex_new (C := c.c8) (n := "value") (y := v) na nb ne
    replace F9 := F9.snoc (i := 8) s e rfl
    replace F1 := F1.same s
    replace F6 := F6.same s
    replace r5 := s _ _ r5
    replace r8 := s _ _ r8
    replace SS := SS.trans s
    generalize upd (upd J9_1 b9_2 (exd b9_2 [("value", v)])) a9_2 (exo a9_2 c.c8 (some b9_2)) = J9_2 at F9 SS F1 F6 r5 r8 ⊢
    clear e s na nb ne
    refine ⟨by show 3 ≤ sizeLine; decide, fun q9 nq9 => ?_⟩
    have s : Same J9_2 (upd J9_2 q9 (.lst [V.ref a9_0, V.ref a9_1, V.ref a9_2])) := same_new nq9
    have r9 : (upd J9_2 q9 (.lst [V.ref a9_0, V.ref a9_1, V.ref a9_2])) q9 = some (.lst [V.ref a9_0, V.ref a9_1, V.ref a9_2]) := upd_same
    replace F1 := F1.same s
    replace F6 := F6.same s
    replace F9 := F9.same s
    replace r5 := s _ _ r5
    replace r8 := s _ _ r8
    replace SS := SS.trans s
    generalize upd J9_2 q9 (.lst [V.ref a9_0, V.ref a9_1, V.ref a9_2]) = J9 at F9 r9 SS F1 F6 r5 r8 ⊢
    clear s nq9
    refine ⟨_, _, _, _, rfl, rfl, r8, r9, by show 6 + 3 ≤ sizeLine; decide, fun q10 nq10 => ?_⟩
    have s : Same J9 (upd J9 q10 (.lst (([V.ref a6_0, V.ref a6_1, V.ref a6_2] ++ [V.ref a7_0, V.ref a7_1, V.ref a7_2]) ++ [V.ref a9_0, V.ref a9_1, V.ref a9_2]))) := same_new nq10
    have r10 : (upd J9 q10 (.lst (([V.ref a6_0, V.ref a6_1, V.ref a6_2] ++ [V.ref a7_0, V.ref a7_1, V.ref a7_2]) ++ [V.ref a9_0, V.ref a9_1, V.ref a9_2]))) q10 = some (.lst (([V.ref a6_0, V.ref a6_1, V.ref a6_2] ++ [V.ref a7_0, V.ref a7_1, V.ref a7_2]) ++ [V.ref a9_0, V.ref a9_1, V.ref a9_2])) := upd_same
    replace F1 := F1.same s
    replace F6 := F6.same s
    replace F9 := F9.same s
    replace r5 := s _ _ r5
    replace SS := SS.trans s
    generalize upd J9 q10 (.lst (([V.ref a6_0, V.ref a6_1, V.ref a6_2] ++ [V.ref a7_0, V.ref a7_1, V.ref a7_2]) ++ [V.ref a9_0, V.ref a9_1, V.ref a9_2])) = J10 at r10 SS F1 F6 F9 r5 ⊢
    clear s nq10
    replace F6 := F6.app F9
    clear F9
    have F11 : Fld c "value" v J10 [] [] := .nil
    refine ⟨_, rfl, _, rfl, _, rfl, fun a11_0 b11_0 na nb ne => ?_⟩
    obtain ⟨e, s⟩ := ex_new (C := c.c9) (n := "value") (y := v) na nb ne
    replace F11 := F11.snoc (i := 9) s e rfl
    replace F1 := F1.same s
    replace F6 := F6.same s
    replace r5 := s _ _ r5
    replace r10 := s _ _ r10
    replace SS := SS.trans s
    generalize upd (upd J10 b11_0 (exd b11_0 [("value", v)])) a11_0 (exo a11_0 c.c9 (some b11_0)) = J11_0 at F11 SS F1 F6 r5 r10 ⊢
    clear e s na nb ne
    refine ⟨by show 1 ≤ sizeLine; decide, fun q11 nq11 => ?_⟩
    have s : Same J11_0 (upd J11_0 q11 (.lst [V.ref a11_0])) := same_new nq11
    have r11 : (upd J11_0 q11 (.lst [V.ref a11_0])) q11 = some (.lst [V.ref a11_0]) := upd_same
    replace F1 := F1.same s
    replace F6 := F6.same s
    replace F11 := F11.same s
    replace r5 := s _ _ r5
    replace r10 := s _ _ r10
    replace SS := SS.trans s
    generalize upd J11_0 q11 (.lst [V.ref a11_0]) = J11 at F11 r11 SS F1 F6 r5 r10 ⊢
    clear s nq11
    refine ⟨_, _, _, _, rfl, rfl, r10, r11, by show 9 + 1 ≤ sizeLine; decide, fun q12 nq12 => ?_⟩
    have s : Same J11 (upd J11 q12 (.lst ((([V.ref a6_0, V.ref a6_1, V.ref a6_2] ++ [V.ref a7_0, V.ref a7_1, V.ref a7_2]) ++ [V.ref a9_0, V.ref a9_1, V.ref a9_2]) ++ [V.ref a11_0]))) := same_new nq12
    have r12 : (upd J11 q12 (.lst ((([V.ref a6_0, V.ref a6_1, V.ref a6_2] ++ [V.ref a7_0, V.ref a7_1, V.ref a7_2]) ++ [V.ref a9_0, V.ref a9_1, V.ref a9_2]) ++ [V.ref a11_0]))) q12 = some (.lst ((([V.ref a6_0, V.ref a6_1, V.ref a6_2] ++ [V.ref a7_0, V.ref a7_1, V.ref a7_2]) ++ [V.ref a9_0, V.ref a9_1, V.ref a9_2]) ++ [V.ref a11_0])) := upd_same
    replace F1 := F1.same s
    replace F6 := F6.same s
    replace F11 := F11.same s
    replace r5 := s _ _ r5
    replace SS := SS.trans s
    generalize upd J11 q12 (.lst ((([V.ref a6_0, V.ref a6_1, V.ref a6_2] ++ [V.ref a7_0, V.ref a7_1, V.ref a7_2]) ++ [V.ref a9_0, V.ref a9_1, V.ref a9_2]) ++ [V.ref a11_0])) = J12 at r12 SS F1 F6 F11 r5 ⊢
    clear s nq12
    replace F6 := F6.app F11
    clear F11
    have F13 : Fld c "index" v J12 [] [] := .nil
    refine ⟨_, rfl, _, rfl, fun a13_0 b13_0 na nb ne => ?_⟩
    obtain ⟨e, s⟩ := ex_new (C := c.c10) (n := "index") (y := v) na nb ne
    replace F13 := F13.snoc (i := 10) s e rfl
    replace F1 := F1.same s
    replace F6 := F6.same s
    replace r5 := s _ _ r5
    replace r12 := s _ _ r12
    replace SS := SS.trans s
    generalize upd (upd J12 b13_0 (exd b13_0 [("index", v)])) a13_0 (exo a13_0 c.c10 (some b13_0)) = J13_0 at F13 SS F1 F6 r5 r12 ⊢
    clear e s na nb ne
    refine ⟨_, rfl, _, rfl, fun a13_1 b13_1 na nb ne => ?_⟩
    obtain ⟨e, s⟩ := ex_new (C := c.c11) (n := "index") (y := v) na nb ne
    replace F13 := F13.snoc (i := 11) s e rfl
    replace F1 := F1.same s
    replace F6 := F6.same s
    replace r5 := s _ _ r5
    replace r12 := s _ _ r12
    replace SS := SS.trans s
    generalize upd (upd J13_0 b13_1 (exd b13_1 [("index", v)])) a13_1 (exo a13_1 c.c11 (some b13_1)) = J13_1 at F13 SS F1 F6 r5 r12 ⊢
    clear e s na nb ne
    refine ⟨_, rfl, _, rfl, fun a13_2 b13_2 na nb ne => ?_⟩
    obtain ⟨e, s⟩ := ex_new (C := c.c12) (n := "index") (y := v) na nb ne
    replace F13 := F13.snoc (i := 12) s e rfl
    replace F1 := F1.same s
    replace F6 := F6.same s
    replace r5 := s _ _ r5
    replace r12 := s _ _ r12
    replace SS := SS.trans s
    generalize upd (upd J13_1 b13_2 (exd b13_2 [("index", v)])) a13_2 (exo a13_2 c.c12 (some b13_2)) = J13_2 at F13 SS F1 F6 r5 r12 ⊢
    clear e s na nb ne
    refine ⟨_, rfl, _, rfl, fun a13_3 b13_3 na nb ne => ?_⟩
    obtain ⟨e, s⟩ := ex_new (C := c.c13) (n := "index") (y := v) na nb ne
    replace F13 := F13.snoc (i := 13) s e rfl
    replace F1 := F1.same s
    replace F6 := F6.same s
    replace r5 := s _ _ r5
    replace r12 := s _ _ r12
    replace SS := SS.trans s
    generalize upd (upd J13_2 b13_3 (exd b13_3 [("index", v)])) a13_3 (exo a13_3 c.c13 (some b13_3)) = J13_3 at F13 SS F1 F6 r5 r12 ⊢
    clear e s na nb ne
    refine ⟨by show 4 ≤ sizeLine; decide, fun q13 nq13 => ?_⟩
    have s : Same J13_3 (upd J13_3 q13 (.lst [V.ref a13_0, V.ref a13_1, V.ref a13_2, V.ref a13_3])) := same_new nq13
    have r13 : (upd J13_3 q13 (.lst [V.ref a13_0, V.ref a13_1, V.ref a13_2, V.ref a13_3])) q13 = some (.lst [V.ref a13_0, V.ref a13_1, V.ref a13_2, V.ref a13_3]) := upd_same
    replace F1 := F1.same s
    replace F6 := F6.same s
    replace F13 := F13.same s
    replace r5 := s _ _ r5
    replace r12 := s _ _ r12
    replace SS := SS.trans s
    generalize upd J13_3 q13 (.lst [V.ref a13_0, V.ref a13_1, V.ref a13_2, V.ref a13_3]) = J13 at F13 r13 SS F1 F6 r5 r12 ⊢
    clear s nq13
    have F14 : Fld c "index" v J13 [] [] := .nil
    refine ⟨_, rfl, _, rfl, _, rfl, fun a14_0 b14_0 na nb ne => ?_⟩
    obtain ⟨e, s⟩ := ex_new (C := c.c14) (n := "index") (y := v) na nb ne
    replace F14 := F14.snoc (i := 14) s e rfl
    replace F1 := F1.same s
    replace F6 := F6.same s
    replace F13 := F13.same s
    replace r5 := s _ _ r5
    replace r12 := s _ _ r12
    replace r13 := s _ _ r13
    replace SS := SS.trans s
    generalize upd (upd J13 b14_0 (exd b14_0 [("index", v)])) a14_0 (exo a14_0 c.c14 (some b14_0)) = J14_0 at F14 SS F1 F6 F13 r5 r12 r13 ⊢
    clear e s na nb ne
    refine ⟨by show 1 ≤ sizeLine; decide, fun q14 nq14 => ?_⟩
    have s : Same J14_0 (upd J14_0 q14 (.lst [V.ref a14_0])) := same_new nq14
    have r14 : (upd J14_0 q14 (.lst [V.ref a14_0])) q14 = some (.lst [V.ref a14_0]) := upd_same
    replace F1 := F1.same s
    replace F6 := F6.same s
    replace F13 := F13.same s
    replace F14 := F14.same s
    replace r5 := s _ _ r5
    replace r12 := s _ _ r12
    replace r13 := s _ _ r13
    replace SS := SS.trans s
    generalize upd J14_0 q14 (.lst [V.ref a14_0]) = J14 at F14 r14 SS F1 F6 F13 r5 r12 r13 ⊢
    clear s nq14
    refine ⟨_, _, _, _, rfl, rfl, r13, r14, by show 4 + 1 ≤ sizeLine; decide, fun q15 nq15 => ?_⟩
    have s : Same J14 (upd J14 q15 (.lst ([V.ref a13_0, V.ref a13_1, V.ref a13_2, V.ref a13_3] ++ [V.ref a14_0]))) := same_new nq15
    have r15 : (upd J14 q15 (.lst ([V.ref a13_0, V.ref a13_1, V.ref a13_2, V.ref a13_3] ++ [V.ref a14_0]))) q15 = some (.lst ([V.ref a13_0, V.ref a13_1, V.ref a13_2, V.ref a13_3] ++ [V.ref a14_0])) := upd_same
    replace F1 := F1.same s
    replace F6 := F6.same s
    replace F13 := F13.same s
    replace F14 := F14.same s
    replace r5 := s _ _ r5
    replace r12 := s _ _ r12
    replace SS := SS.trans s
    generalize upd J14 q15 (.lst ([V.ref a13_0, V.ref a13_1, V.ref a13_2, V.ref a13_3] ++ [V.ref a14_0])) = J15 at r15 SS F1 F6 F13 F14 r5 r12 ⊢
    clear s nq15
    replace F13 := F13.app F14
    clear F14
    have F16 : Fld c "index" v J15 [] [] := .nil
    refine ⟨_, rfl, _, rfl, fun a16_0 b16_0 na nb ne => ?_⟩
    obtain ⟨e, s⟩ := ex_new (C := c.c10) (n := "index") (y := v) na nb ne
    replace F16 := F16.snoc (i := 10) s e rfl
    replace F1 := F1.same s
    replace F6 := F6.same s
    replace F13 := F13.same s
    replace r5 := s _ _ r5
    replace r12 := s _ _ r12
    replace r15 := s _ _ r15
    replace SS := SS.trans s
    generalize upd (upd J15 b16_0 (exd b16_0 [("index", v)])) a16_0 (exo a16_0 c.c10 (some b16_0)) = J16_0 at F16 SS F1 F6 F13 r5 r12 r15 ⊢
    clear e s na nb ne
    refine ⟨_, rfl, _, rfl, fun a16_1 b16_1 na nb ne => ?_⟩
    obtain ⟨e, s⟩ := ex_new (C := c.c11) (n := "index") (y := v) na nb ne
    replace F16 := F16.snoc (i := 11) s e rfl
    replace F1 := F1.same s
    replace F6 := F6.same s
    replace F13 := F13.same s
    replace r5 := s _ _ r5
    replace r12 := s _ _ r12
    replace r15 := s _ _ r15
    replace SS := SS.trans s
    generalize upd (upd J16_0 b16_1 (exd b16_1 [("index", v)])) a16_1 (exo a16_1 c.c11 (some b16_1)) = J16_1 at F16 SS F1 F6 F13 r5 r12 r15 ⊢
    clear e s na nb ne
    refine ⟨_, rfl, _, rfl, fun a16_2 b16_2 na nb ne => ?_⟩
    obtain ⟨e, s⟩ := ex_new (C := c.c12) (n := "index") (y := v) na nb ne
    replace F16 := F16.snoc (i := 12) s e rfl
    replace F1 := F1.same s
    replace F6 := F6.same s
    replace F13 := F13.same s
    replace r5 := s _ _ r5
    replace r12 := s _ _ r12
    replace r15 := s _ _ r15
    replace SS := SS.trans s
    generalize upd (upd J16_1 b16_2 (exd b16_2 [("index", v)])) a16_2 (exo a16_2 c.c12 (some b16_2)) = J16_2 at F16 SS F1 F6 F13 r5 r12 r15 ⊢
    clear e s na nb ne
    refine ⟨by show 3 ≤ sizeLine; decide, fun q16 nq16 => ?_⟩
    have s : Same J16_2 (upd J16_2 q16 (.lst [V.ref a16_0, V.ref a16_1, V.ref a16_2])) := same_new nq16
    have r16 : (upd J16_2 q16 (.lst [V.ref a16_0, V.ref a16_1, V.ref a16_2])) q16 = some (.lst [V.ref a16_0, V.ref a16_1, V.ref a16_2]) := upd_same
    replace F1 := F1.same s
    replace F6 := F6.same s
    replace F13 := F13.same s
    replace F16 := F16.same s
    replace r5 := s _ _ r5
    replace r12 := s _ _ r12
    replace r15 := s _ _ r15
    replace SS := SS.trans s
    generalize upd J16_2 q16 (.lst [V.ref a16_0, V.ref a16_1, V.ref a16_2]) = J16 at F16 r16 SS F1 F6 F13 r5 r12 r15 ⊢
    clear s nq16
    have F17 : Fld c "index" v J16 [] [] := .nil
    refine ⟨_, rfl, _, rfl, _, rfl, fun a17_0 b17_0 na nb ne => ?_⟩
    obtain ⟨e, s⟩ := ex_new (C := c.c13) (n := "index") (y := v) na nb ne
    replace F17 := F17.snoc (i := 13) s e rfl
    replace F1 := F1.same s
    replace F6 := F6.same s
    replace F13 := F13.same s
    replace F16 := F16.same s
    replace r5 := s _ _ r5
    replace r12 := s _ _ r12
    replace r15 := s _ _ r15
    replace r16 := s _ _ r16
    replace SS := SS.trans s
    generalize upd (upd J16 b17_0 (exd b17_0 [("index", v)])) a17_0 (exo a17_0 c.c13 (some b17_0)) = J17_0 at F17 SS F1 F6 F13 F16 r5 r12 r15 r16 ⊢
    clear e s na nb ne
    refine ⟨_, rfl, _, rfl, fun a17_1 b17_1 na nb ne => ?_⟩
    obtain ⟨e, s⟩ := ex_new (C := c.c14) (n := "index") (y := v) na nb ne
    replace F17 := F17.snoc (i := 14) s e rfl
    replace F1 := F1.same s
    replace F6 := F6.same s
    replace F13 := F13.same s
    replace F16 := F16.same s
    replace r5 := s _ _ r5
    replace r12 := s _ _ r12
    replace r15 := s _ _ r15
    replace r16 := s _ _ r16
    replace SS := SS.trans s
    generalize upd (upd J17_0 b17_1 (exd b17_1 [("index", v)])) a17_1 (exo a17_1 c.c14 (some b17_1)) = J17_1 at F17 SS F1 F6 F13 F16 r5 r12 r15 r16 ⊢
    clear e s na nb ne
    refine ⟨by show 2 ≤ sizeLine; decide, fun q17 nq17 => ?_⟩
    have s : Same J17_1 (upd J17_1 q17 (.lst [V.ref a17_0, V.ref a17_1])) := same_new nq17
    have r17 : (upd J17_1 q17 (.lst [V.ref a17_0, V.ref a17_1])) q17 = some (.lst [V.ref a17_0, V.ref a17_1]) := upd_same
    replace F1 := F1.same s
    replace F6 := F6.same s
    replace F13 := F13.same s
    replace F16 := F16.same s
    replace F17 := F17.same s
    replace r5 := s _ _ r5
    replace r12 := s _ _ r12
    replace r15 := s _ _ r15
    replace r16 := s _ _ r16
    replace SS := SS.trans s
    generalize upd J17_1 q17 (.lst [V.ref a17_0, V.ref a17_1]) = J17 at F17 r17 SS F1 F6 F13 F16 r5 r12 r15 r16 ⊢
    clear s nq17
    refine ⟨_, _, _, _, rfl, rfl, r16, r17, by show 3 + 2 ≤ sizeLine; decide, fun q18 nq18 => ?_⟩
    have s : Same J17 (upd J17 q18 (.lst ([V.ref a16_0, V.ref a16_1, V.ref a16_2] ++ [V.ref a17_0, V.ref a17_1]))) := same_new nq18
    have r18 : (upd J17 q18 (.lst ([V.ref a16_0, V.ref a16_1, V.ref a16_2] ++ [V.ref a17_0, V.ref a17_1]))) q18 = some (.lst ([V.ref a16_0, V.ref a16_1, V.ref a16_2] ++ [V.ref a17_0, V.ref a17_1])) := upd_same
    replace F1 := F1.same s
    replace F6 := F6.same s
    replace F13 := F13.same s
    replace F16 := F16.same s
    replace F17 := F17.same s
    replace r5 := s _ _ r5
    replace r12 := s _ _ r12
    replace r15 := s _ _ r15
    replace SS := SS.trans s
    generalize upd J17 q18 (.lst ([V.ref a16_0, V.ref a16_1, V.ref a16_2] ++ [V.ref a17_0, V.ref a17_1])) = J18 at r18 SS F1 F6 F13 F16 F17 r5 r12 r15 ⊢
    clear s nq18
    replace F16 := F16.app F17
    clear F17
    refine ⟨_, rfl, _, rfl, _, _, _, _, rfl, rfl, r5, r12, by show 10 + 10 ≤ sizeLine; decide, fun q19 nq19 => ?_⟩
    have s : Same J18 (upd J18 q19 (.lst ((([V.ref a1_0, V.ref a1_1, V.ref a1_2, V.ref a1_3] ++ [V.ref a2_0, V.ref a2_1, V.ref a2_2, V.ref a2_3]) ++ [V.ref a4_0, V.ref a4_1]) ++ ((([V.ref a6_0, V.ref a6_1, V.ref a6_2] ++ [V.ref a7_0, V.ref a7_1, V.ref a7_2]) ++ [V.ref a9_0, V.ref a9_1, V.ref a9_2]) ++ [V.ref a11_0])))) := same_new nq19
    have r19 : (upd J18 q19 (.lst ((([V.ref a1_0, V.ref a1_1, V.ref a1_2, V.ref a1_3] ++ [V.ref a2_0, V.ref a2_1, V.ref a2_2, V.ref a2_3]) ++ [V.ref a4_0, V.ref a4_1]) ++ ((([V.ref a6_0, V.ref a6_1, V.ref a6_2] ++ [V.ref a7_0, V.ref a7_1, V.ref a7_2]) ++ [V.ref a9_0, V.ref a9_1, V.ref a9_2]) ++ [V.ref a11_0])))) q19 = some (.lst ((([V.ref a1_0, V.ref a1_1, V.ref a1_2, V.ref a1_3] ++ [V.ref a2_0, V.ref a2_1, V.ref a2_2, V.ref a2_3]) ++ [V.ref a4_0, V.ref a4_1]) ++ ((([V.ref a6_0, V.ref a6_1, V.ref a6_2] ++ [V.ref a7_0, V.ref a7_1, V.ref a7_2]) ++ [V.ref a9_0, V.ref a9_1, V.ref a9_2]) ++ [V.ref a11_0]))) := upd_same
    replace F1 := F1.same s
    replace F6 := F6.same s
    replace F13 := F13.same s
    replace F16 := F16.same s
    replace r15 := s _ _ r15
    replace r18 := s _ _ r18
    replace SS := SS.trans s
    generalize upd J18 q19 (.lst ((([V.ref a1_0, V.ref a1_1, V.ref a1_2, V.ref a1_3] ++ [V.ref a2_0, V.ref a2_1, V.ref a2_2, V.ref a2_3]) ++ [V.ref a4_0, V.ref a4_1]) ++ ((([V.ref a6_0, V.ref a6_1, V.ref a6_2] ++ [V.ref a7_0, V.ref a7_1, V.ref a7_2]) ++ [V.ref a9_0, V.ref a9_1, V.ref a9_2]) ++ [V.ref a11_0]))) = J19 at r19 SS F1 F6 F13 F16 r15 r18 ⊢
    clear s nq19
    refine ⟨_, rfl, _, rfl, _, _, _, _, rfl, rfl, r15, r18, by show 5 + 5 ≤ sizeLine; decide, fun q20 nq20 => ?_⟩
    have s : Same J19 (upd J19 q20 (.lst (([V.ref a13_0, V.ref a13_1, V.ref a13_2, V.ref a13_3] ++ [V.ref a14_0]) ++ ([V.ref a16_0, V.ref a16_1, V.ref a16_2] ++ [V.ref a17_0, V.ref a17_1])))) := same_new nq20
    have r20 : (upd J19 q20 (.lst (([V.ref a13_0, V.ref a13_1, V.ref a13_2, V.ref a13_3] ++ [V.ref a14_0]) ++ ([V.ref a16_0, V.ref a16_1, V.ref a16_2] ++ [V.ref a17_0, V.ref a17_1])))) q20 = some (.lst (([V.ref a13_0, V.ref a13_1, V.ref a13_2, V.ref a13_3] ++ [V.ref a14_0]) ++ ([V.ref a16_0, V.ref a16_1, V.ref a16_2] ++ [V.ref a17_0, V.ref a17_1]))) := upd_same
    replace F1 := F1.same s
    replace F6 := F6.same s
    replace F13 := F13.same s
    replace F16 := F16.same s
    replace r19 := s _ _ r19
    replace SS := SS.trans s
    generalize upd J19 q20 (.lst (([V.ref a13_0, V.ref a13_1, V.ref a13_2, V.ref a13_3] ++ [V.ref a14_0]) ++ ([V.ref a16_0, V.ref a16_1, V.ref a16_2] ++ [V.ref a17_0, V.ref a17_1]))) = J20 at r20 SS F1 F6 F13 F16 r19 ⊢
    clear s nq20
    refine ⟨by show 2 ≤ sizeLine; decide, fun p np => ?_⟩
    have s : Same J20 (upd J20 p (.tup [.ref q19, .ref q20])) := same_new np
    exact k p _ _ _ _ _ (SS.trans s) upd_same (s _ _ r19) (s _ _ r20) ((F1.app F6).same s) ((F13.app F16).same s)
end

/-! ### what an exception is an instance of -/
def KindAt (H : Hp) (a C : Addr) : Prop := H a = some (exo a C none) ∨ ∃ n y, ExAt H a C n y
theorem KindAt.same {H H' : Hp} {a C : Addr} (s : Same H H') (h : KindAt H a C) : KindAt H' a C := by
  rcases h with h | ⟨n, y, h⟩
  · exact .inl (s _ _ h)
  · exact .inr ⟨n, y, h.same s⟩
section
variable {P : Program} {w : World} {K : PySem.W.Frag} {mg : Str → Option Value} {base : Heap} {c : Cs}
theorem all_lt {i : Nat} {C : Addr} (h : c.all[i]? = some C) : i < 20 := (List.getElem?_eq_some_iff.mp h).1
theorem cnt_one : ∀ i < 20, countIn (.bool true) ((([decide (i = 0), decide (i = 1), decide (i = 2), decide (i = 3), decide (i = 4), decide (i = 5), decide (i = 6), decide (i = 7), decide (i = 8), decide (i = 9), decide (i = 10), decide (i = 11), decide (i = 12), decide (i = 13), decide (i = 14), decide (i = 15), decide (i = 16), decide (i = 17), decide (i = 18), decide (i = 19)] : List Bool)).map PyData.bool) = 1 := by decide
def sp__law_instances (c : Cs) : Sp := fun vs H Q _ => ∃ (a C : Addr) (i : Nat), vs = [.ref a] ∧ c.all[i]? = some C ∧ KindAt H a C ∧ ∀ H', Same H H' → Q (.int 1) H'
theorem cal__law_instances (B : Bl mg) (DD : OwnDef K mg "_law_instances" s__law_instances) (T : ClK P w K mg base c) : Cal P w K mg base 1 "_law_instances" (sp__law_instances c) [] := by
  obtain ⟨f, fd, F, hm⟩ := DD.ex
  refine ⟨f, fd, ["_law_e"], [], F.ok sc__law_instances (fun vs H Q E h => ?len) (fun cdv A outer s H vs Q E hr h => ?run), hm, F.kp, F.binds (fun _ _ _ _ _ _ us hl => match us, hl with | [_], _ => rfl), .nil⟩
  case len =>
    obtain ⟨_, _, _, rfl, _⟩ := h
    rfl
  case run =>
    obtain ⟨a, C, i, rfl, hC, kd, k⟩ := h
    refine ⟨_, (pss_cons (ps_set (i := 1) sc__law_instances.nd rfl (Or.inl rfl) (pe_lst (pa_cons (pe_callB call_isV (by rfl) B.isinstance (by decide +kernel) (pa_cons (pv 0) (pa_cons (pe_glob (v := .ref c.c0) (by rfl) T.g0 rfl) pa_nil))) (pa_cons (pe_callB call_isV (by rfl) B.isinstance (by decide +kernel) (pa_cons (pv 0) (pa_cons (pe_glob (v := .ref c.c1) (by rfl) T.g1 rfl) pa_nil))) (pa_cons (pe_callB call_isV (by rfl) B.isinstance (by decide +kernel) (pa_cons (pv 0) (pa_cons (pe_glob (v := .ref c.c2) (by rfl) T.g2 rfl) pa_nil))) pa_nil)))))
      (pss_cons (ps_set (i := 1) sc__law_instances.nd rfl (Or.inl rfl) (pe_op op_cat (pv 1) (pe_lst (pa_cons (pe_callB call_isV (by rfl) B.isinstance (by decide +kernel) (pa_cons (pv 0) (pa_cons (pe_glob (v := .ref c.c3) (by rfl) T.g3 rfl) pa_nil))) (pa_cons (pe_callB call_isV (by rfl) B.isinstance (by decide +kernel) (pa_cons (pv 0) (pa_cons (pe_glob (v := .ref c.c4) (by rfl) T.g4 rfl) pa_nil))) (pa_cons (pe_callB call_isV (by rfl) B.isinstance (by decide +kernel) (pa_cons (pv 0) (pa_cons (pe_glob (v := .ref c.c5) (by rfl) T.g5 rfl) pa_nil))) pa_nil))))))
      (pss_cons (ps_set (i := 1) sc__law_instances.nd rfl (Or.inl rfl) (pe_op op_cat (pv 1) (pe_lst (pa_cons (pe_callB call_isV (by rfl) B.isinstance (by decide +kernel) (pa_cons (pv 0) (pa_cons (pe_glob (v := .ref c.c6) (by rfl) T.g6 rfl) pa_nil))) (pa_cons (pe_callB call_isV (by rfl) B.isinstance (by decide +kernel) (pa_cons (pv 0) (pa_cons (pe_glob (v := .ref c.c7) (by rfl) T.g7 rfl) pa_nil))) (pa_cons (pe_callB call_isV (by rfl) B.isinstance (by decide +kernel) (pa_cons (pv 0) (pa_cons (pe_glob (v := .ref c.c8) (by rfl) T.g8 rfl) pa_nil))) pa_nil))))))
      (pss_cons (ps_set (i := 1) sc__law_instances.nd rfl (Or.inl rfl) (pe_op op_cat (pv 1) (pe_lst (pa_cons (pe_callB call_isV (by rfl) B.isinstance (by decide +kernel) (pa_cons (pv 0) (pa_cons (pe_glob (v := .ref c.c9) (by rfl) T.g9 rfl) pa_nil))) (pa_cons (pe_callB call_isV (by rfl) B.isinstance (by decide +kernel) (pa_cons (pv 0) (pa_cons (pe_glob (v := .ref c.c10) (by rfl) T.g10 rfl) pa_nil))) (pa_cons (pe_callB call_isV (by rfl) B.isinstance (by decide +kernel) (pa_cons (pv 0) (pa_cons (pe_glob (v := .ref c.c11) (by rfl) T.g11 rfl) pa_nil))) pa_nil))))))
      (pss_cons (ps_set (i := 1) sc__law_instances.nd rfl (Or.inl rfl) (pe_op op_cat (pv 1) (pe_lst (pa_cons (pe_callB call_isV (by rfl) B.isinstance (by decide +kernel) (pa_cons (pv 0) (pa_cons (pe_glob (v := .ref c.c12) (by rfl) T.g12 rfl) pa_nil))) (pa_cons (pe_callB call_isV (by rfl) B.isinstance (by decide +kernel) (pa_cons (pv 0) (pa_cons (pe_glob (v := .ref c.c13) (by rfl) T.g13 rfl) pa_nil))) pa_nil)))))
      (pss_cons (ps_set (i := 1) sc__law_instances.nd rfl (Or.inl rfl) (pe_op op_cat (pv 1) (pe_lst (pa_cons (pe_callB call_isV (by rfl) B.isinstance (by decide +kernel) (pa_cons (pv 0) (pa_cons (pe_glob (v := .ref c.c14) (by rfl) T.g14 rfl) pa_nil))) (pa_cons (pe_callB call_isV (by rfl) B.isinstance (by decide +kernel) (pa_cons (pv 0) (pa_cons (pe_glob (v := .ref c.c15) (by rfl) T.g15 rfl) pa_nil))) (pa_cons (pe_callB call_isV (by rfl) B.isinstance (by decide +kernel) (pa_cons (pv 0) (pa_cons (pe_glob (v := .ref c.c16) (by rfl) T.g16 rfl) pa_nil))) pa_nil))))))
      (pss_cons (ps_set (i := 1) sc__law_instances.nd rfl (Or.inl rfl) (pe_op op_cat (pv 1) (pe_lst (pa_cons (pe_callB call_isV (by rfl) B.isinstance (by decide +kernel) (pa_cons (pv 0) (pa_cons (pe_glob (v := .ref c.c17) (by rfl) T.g17 rfl) pa_nil))) (pa_cons (pe_callB call_isV (by rfl) B.isinstance (by decide +kernel) (pa_cons (pv 0) (pa_cons (pe_glob (v := .ref c.c18) (by rfl) T.g18 rfl) pa_nil))) (pa_cons (pe_callB call_isV (by rfl) B.isinstance (by decide +kernel) (pa_cons (pv 0) (pa_cons (pe_glob (v := .ref c.c19) (by rfl) T.g19 rfl) pa_nil))) pa_nil))))))
      (pss_one (ps_ret (pe_bm PySem.F.plainAttrs_list PySem.F.slot_list_count PySem.F.type_list_count mt_countB (pv 1) (pa_cons pe_bl pa_nil))))))))))), ?_⟩
    have SS : Same H H := Same.refl H
    refine ⟨_, rfl, a, C, .ref c.c0, .ref c.c0, _, rfl, kd, T.is i C hC, fun u hu => hu, T.one i C hC 0 _ rfl, ?_⟩
    refine ⟨_, rfl, a, C, .ref c.c1, .ref c.c1, _, rfl, kd, T.is i C hC, fun u hu => hu, T.one i C hC 1 _ rfl, ?_⟩
    refine ⟨_, rfl, a, C, .ref c.c2, .ref c.c2, _, rfl, kd, T.is i C hC, fun u hu => hu, T.one i C hC 2 _ rfl, ?_⟩
    refine ⟨by show 3 ≤ sizeLine; decide, fun q0 nq0 => ?_⟩
    have s : Same H (upd H q0 (.lst [V.bl (decide (i = 0)), V.bl (decide (i = 1)), V.bl (decide (i = 2))])) := same_new nq0
    have r0 : (upd H q0 (.lst [V.bl (decide (i = 0)), V.bl (decide (i = 1)), V.bl (decide (i = 2))])) q0 = some (.lst [V.bl (decide (i = 0)), V.bl (decide (i = 1)), V.bl (decide (i = 2))]) := upd_same
    replace kd := kd.same s; replace SS := SS.trans s
    generalize upd H q0 (.lst [V.bl (decide (i = 0)), V.bl (decide (i = 1)), V.bl (decide (i = 2))]) = J0 at kd SS r0  ⊢
    clear s nq0
    refine ⟨_, rfl, _, rfl, a, C, .ref c.c3, .ref c.c3, _, rfl, kd, T.is i C hC, fun u hu => hu, T.one i C hC 3 _ rfl, ?_⟩
    refine ⟨_, rfl, a, C, .ref c.c4, .ref c.c4, _, rfl, kd, T.is i C hC, fun u hu => hu, T.one i C hC 4 _ rfl, ?_⟩
    refine ⟨_, rfl, a, C, .ref c.c5, .ref c.c5, _, rfl, kd, T.is i C hC, fun u hu => hu, T.one i C hC 5 _ rfl, ?_⟩
    refine ⟨by show 3 ≤ sizeLine; decide, fun q1 nq1 => ?_⟩
    have s : Same J0 (upd J0 q1 (.lst [V.bl (decide (i = 3)), V.bl (decide (i = 4)), V.bl (decide (i = 5))])) := same_new nq1
    have r1 : (upd J0 q1 (.lst [V.bl (decide (i = 3)), V.bl (decide (i = 4)), V.bl (decide (i = 5))])) q1 = some (.lst [V.bl (decide (i = 3)), V.bl (decide (i = 4)), V.bl (decide (i = 5))]) := upd_same
    replace kd := kd.same s; replace SS := SS.trans s
    replace r0 := s _ _ r0
    generalize upd J0 q1 (.lst [V.bl (decide (i = 3)), V.bl (decide (i = 4)), V.bl (decide (i = 5))]) = J1 at kd SS r1 r0 ⊢
    clear s nq1
    refine ⟨_, _, _, _, rfl, rfl, r0, r1, by show 3 + 3 ≤ sizeLine; decide, fun q1c nq1c => ?_⟩
    have s : Same J1 (upd J1 q1c (.lst ([V.bl (decide (i = 0)), V.bl (decide (i = 1)), V.bl (decide (i = 2))] ++ [V.bl (decide (i = 3)), V.bl (decide (i = 4)), V.bl (decide (i = 5))]))) := same_new nq1c
    have r1c : (upd J1 q1c (.lst ([V.bl (decide (i = 0)), V.bl (decide (i = 1)), V.bl (decide (i = 2))] ++ [V.bl (decide (i = 3)), V.bl (decide (i = 4)), V.bl (decide (i = 5))]))) q1c = some (.lst ([V.bl (decide (i = 0)), V.bl (decide (i = 1)), V.bl (decide (i = 2))] ++ [V.bl (decide (i = 3)), V.bl (decide (i = 4)), V.bl (decide (i = 5))])) := upd_same
    replace kd := kd.same s; replace SS := SS.trans s
    generalize upd J1 q1c (.lst ([V.bl (decide (i = 0)), V.bl (decide (i = 1)), V.bl (decide (i = 2))] ++ [V.bl (decide (i = 3)), V.bl (decide (i = 4)), V.bl (decide (i = 5))])) = J1c at kd SS r1c  ⊢
    clear s nq1c
    refine ⟨_, rfl, _, rfl, a, C, .ref c.c6, .ref c.c6, _, rfl, kd, T.is i C hC, fun u hu => hu, T.one i C hC 6 _ rfl, ?_⟩
    refine ⟨_, rfl, a, C, .ref c.c7, .ref c.c7, _, rfl, kd, T.is i C hC, fun u hu => hu, T.one i C hC 7 _ rfl, ?_⟩
    refine ⟨_, rfl, a, C, .ref c.c8, .ref c.c8, _, rfl, kd, T.is i C hC, fun u hu => hu, T.one i C hC 8 _ rfl, ?_⟩
    refine ⟨by show 3 ≤ sizeLine; decide, fun q2 nq2 => ?_⟩
    have s : Same J1c (upd J1c q2 (.lst [V.bl (decide (i = 6)), V.bl (decide (i = 7)), V.bl (decide (i = 8))])) := same_new nq2
    have r2 : (upd J1c q2 (.lst [V.bl (decide (i = 6)), V.bl (decide (i = 7)), V.bl (decide (i = 8))])) q2 = some (.lst [V.bl (decide (i = 6)), V.bl (decide (i = 7)), V.bl (decide (i = 8))]) := upd_same
    replace kd := kd.same s; replace SS := SS.trans s
    replace r1c := s _ _ r1c
    generalize upd J1c q2 (.lst [V.bl (decide (i = 6)), V.bl (decide (i = 7)), V.bl (decide (i = 8))]) = J2 at kd SS r2 r1c ⊢
    clear s nq2
    refine ⟨_, _, _, _, rfl, rfl, r1c, r2, by show 6 + 3 ≤ sizeLine; decide, fun q2c nq2c => ?_⟩
    have s : Same J2 (upd J2 q2c (.lst (([V.bl (decide (i = 0)), V.bl (decide (i = 1)), V.bl (decide (i = 2))] ++ [V.bl (decide (i = 3)), V.bl (decide (i = 4)), V.bl (decide (i = 5))]) ++ [V.bl (decide (i = 6)), V.bl (decide (i = 7)), V.bl (decide (i = 8))]))) := same_new nq2c
    have r2c : (upd J2 q2c (.lst (([V.bl (decide (i = 0)), V.bl (decide (i = 1)), V.bl (decide (i = 2))] ++ [V.bl (decide (i = 3)), V.bl (decide (i = 4)), V.bl (decide (i = 5))]) ++ [V.bl (decide (i = 6)), V.bl (decide (i = 7)), V.bl (decide (i = 8))]))) q2c = some (.lst (([V.bl (decide (i = 0)), V.bl (decide (i = 1)), V.bl (decide (i = 2))] ++ [V.bl (decide (i = 3)), V.bl (decide (i = 4)), V.bl (decide (i = 5))]) ++ [V.bl (decide (i = 6)), V.bl (decide (i = 7)), V.bl (decide (i = 8))])) := upd_same
    replace kd := kd.same s; replace SS := SS.trans s
    generalize upd J2 q2c (.lst (([V.bl (decide (i = 0)), V.bl (decide (i = 1)), V.bl (decide (i = 2))] ++ [V.bl (decide (i = 3)), V.bl (decide (i = 4)), V.bl (decide (i = 5))]) ++ [V.bl (decide (i = 6)), V.bl (decide (i = 7)), V.bl (decide (i = 8))])) = J2c at kd SS r2c  ⊢
    clear s nq2c
    refine ⟨_, rfl, _, rfl, a, C, .ref c.c9, .ref c.c9, _, rfl, kd, T.is i C hC, fun u hu => hu, T.one i C hC 9 _ rfl, ?_⟩
    refine ⟨_, rfl, a, C, .ref c.c10, .ref c.c10, _, rfl, kd, T.is i C hC, fun u hu => hu, T.one i C hC 10 _ rfl, ?_⟩
    refine ⟨_, rfl, a, C, .ref c.c11, .ref c.c11, _, rfl, kd, T.is i C hC, fun u hu => hu, T.one i C hC 11 _ rfl, ?_⟩
    refine ⟨by show 3 ≤ sizeLine; decide, fun q3 nq3 => ?_⟩
    have s : Same J2c (upd J2c q3 (.lst [V.bl (decide (i = 9)), V.bl (decide (i = 10)), V.bl (decide (i = 11))])) := same_new nq3
    have r3 : (upd J2c q3 (.lst [V.bl (decide (i = 9)), V.bl (decide (i = 10)), V.bl (decide (i = 11))])) q3 = some (.lst [V.bl (decide (i = 9)), V.bl (decide (i = 10)), V.bl (decide (i = 11))]) := upd_same
    replace kd := kd.same s; replace SS := SS.trans s
    replace r2c := s _ _ r2c
    generalize upd J2c q3 (.lst [V.bl (decide (i = 9)), V.bl (decide (i = 10)), V.bl (decide (i = 11))]) = J3 at kd SS r3 r2c ⊢
    clear s nq3
    refine ⟨_, _, _, _, rfl, rfl, r2c, r3, by show 9 + 3 ≤ sizeLine; decide, fun q3c nq3c => ?_⟩
    have s : Same J3 (upd J3 q3c (.lst ((([V.bl (decide (i = 0)), V.bl (decide (i = 1)), V.bl (decide (i = 2))] ++ [V.bl (decide (i = 3)), V.bl (decide (i = 4)), V.bl (decide (i = 5))]) ++ [V.bl (decide (i = 6)), V.bl (decide (i = 7)), V.bl (decide (i = 8))]) ++ [V.bl (decide (i = 9)), V.bl (decide (i = 10)), V.bl (decide (i = 11))]))) := same_new nq3c
    have r3c : (upd J3 q3c (.lst ((([V.bl (decide (i = 0)), V.bl (decide (i = 1)), V.bl (decide (i = 2))] ++ [V.bl (decide (i = 3)), V.bl (decide (i = 4)), V.bl (decide (i = 5))]) ++ [V.bl (decide (i = 6)), V.bl (decide (i = 7)), V.bl (decide (i = 8))]) ++ [V.bl (decide (i = 9)), V.bl (decide (i = 10)), V.bl (decide (i = 11))]))) q3c = some (.lst ((([V.bl (decide (i = 0)), V.bl (decide (i = 1)), V.bl (decide (i = 2))] ++ [V.bl (decide (i = 3)), V.bl (decide (i = 4)), V.bl (decide (i = 5))]) ++ [V.bl (decide (i = 6)), V.bl (decide (i = 7)), V.bl (decide (i = 8))]) ++ [V.bl (decide (i = 9)), V.bl (decide (i = 10)), V.bl (decide (i = 11))])) := upd_same
    replace kd := kd.same s; replace SS := SS.trans s
    generalize upd J3 q3c (.lst ((([V.bl (decide (i = 0)), V.bl (decide (i = 1)), V.bl (decide (i = 2))] ++ [V.bl (decide (i = 3)), V.bl (decide (i = 4)), V.bl (decide (i = 5))]) ++ [V.bl (decide (i = 6)), V.bl (decide (i = 7)), V.bl (decide (i = 8))]) ++ [V.bl (decide (i = 9)), V.bl (decide (i = 10)), V.bl (decide (i = 11))])) = J3c at kd SS r3c  ⊢
    clear s nq3c
    refine ⟨_, rfl, _, rfl, a, C, .ref c.c12, .ref c.c12, _, rfl, kd, T.is i C hC, fun u hu => hu, T.one i C hC 12 _ rfl, ?_⟩
    refine ⟨_, rfl, a, C, .ref c.c13, .ref c.c13, _, rfl, kd, T.is i C hC, fun u hu => hu, T.one i C hC 13 _ rfl, ?_⟩
    refine ⟨by show 2 ≤ sizeLine; decide, fun q4 nq4 => ?_⟩
    have s : Same J3c (upd J3c q4 (.lst [V.bl (decide (i = 12)), V.bl (decide (i = 13))])) := same_new nq4
    have r4 : (upd J3c q4 (.lst [V.bl (decide (i = 12)), V.bl (decide (i = 13))])) q4 = some (.lst [V.bl (decide (i = 12)), V.bl (decide (i = 13))]) := upd_same
    replace kd := kd.same s; replace SS := SS.trans s
    replace r3c := s _ _ r3c
    generalize upd J3c q4 (.lst [V.bl (decide (i = 12)), V.bl (decide (i = 13))]) = J4 at kd SS r4 r3c ⊢
    clear s nq4
    refine ⟨_, _, _, _, rfl, rfl, r3c, r4, by show 12 + 2 ≤ sizeLine; decide, fun q4c nq4c => ?_⟩
    have s : Same J4 (upd J4 q4c (.lst (((([V.bl (decide (i = 0)), V.bl (decide (i = 1)), V.bl (decide (i = 2))] ++ [V.bl (decide (i = 3)), V.bl (decide (i = 4)), V.bl (decide (i = 5))]) ++ [V.bl (decide (i = 6)), V.bl (decide (i = 7)), V.bl (decide (i = 8))]) ++ [V.bl (decide (i = 9)), V.bl (decide (i = 10)), V.bl (decide (i = 11))]) ++ [V.bl (decide (i = 12)), V.bl (decide (i = 13))]))) := same_new nq4c
    have r4c : (upd J4 q4c (.lst (((([V.bl (decide (i = 0)), V.bl (decide (i = 1)), V.bl (decide (i = 2))] ++ [V.bl (decide (i = 3)), V.bl (decide (i = 4)), V.bl (decide (i = 5))]) ++ [V.bl (decide (i = 6)), V.bl (decide (i = 7)), V.bl (decide (i = 8))]) ++ [V.bl (decide (i = 9)), V.bl (decide (i = 10)), V.bl (decide (i = 11))]) ++ [V.bl (decide (i = 12)), V.bl (decide (i = 13))]))) q4c = some (.lst (((([V.bl (decide (i = 0)), V.bl (decide (i = 1)), V.bl (decide (i = 2))] ++ [V.bl (decide (i = 3)), V.bl (decide (i = 4)), V.bl (decide (i = 5))]) ++ [V.bl (decide (i = 6)), V.bl (decide (i = 7)), V.bl (decide (i = 8))]) ++ [V.bl (decide (i = 9)), V.bl (decide (i = 10)), V.bl (decide (i = 11))]) ++ [V.bl (decide (i = 12)), V.bl (decide (i = 13))])) := upd_same
    replace kd := kd.same s; replace SS := SS.trans s
    generalize upd J4 q4c (.lst (((([V.bl (decide (i = 0)), V.bl (decide (i = 1)), V.bl (decide (i = 2))] ++ [V.bl (decide (i = 3)), V.bl (decide (i = 4)), V.bl (decide (i = 5))]) ++ [V.bl (decide (i = 6)), V.bl (decide (i = 7)), V.bl (decide (i = 8))]) ++ [V.bl (decide (i = 9)), V.bl (decide (i = 10)), V.bl (decide (i = 11))]) ++ [V.bl (decide (i = 12)), V.bl (decide (i = 13))])) = J4c at kd SS r4c  ⊢
    clear s nq4c
    refine ⟨_, rfl, _, rfl, a, C, .ref c.c14, .ref c.c14, _, rfl, kd, T.is i C hC, fun u hu => hu, T.one i C hC 14 _ rfl, ?_⟩
    refine ⟨_, rfl, a, C, .ref c.c15, .ref c.c15, _, rfl, kd, T.is i C hC, fun u hu => hu, T.one i C hC 15 _ rfl, ?_⟩
    refine ⟨_, rfl, a, C, .ref c.c16, .ref c.c16, _, rfl, kd, T.is i C hC, fun u hu => hu, T.one i C hC 16 _ rfl, ?_⟩
    refine ⟨by show 3 ≤ sizeLine; decide, fun q5 nq5 => ?_⟩
    have s : Same J4c (upd J4c q5 (.lst [V.bl (decide (i = 14)), V.bl (decide (i = 15)), V.bl (decide (i = 16))])) := same_new nq5
    have r5 : (upd J4c q5 (.lst [V.bl (decide (i = 14)), V.bl (decide (i = 15)), V.bl (decide (i = 16))])) q5 = some (.lst [V.bl (decide (i = 14)), V.bl (decide (i = 15)), V.bl (decide (i = 16))]) := upd_same
    replace kd := kd.same s; replace SS := SS.trans s
    replace r4c := s _ _ r4c
    generalize upd J4c q5 (.lst [V.bl (decide (i = 14)), V.bl (decide (i = 15)), V.bl (decide (i = 16))]) = J5 at kd SS r5 r4c ⊢
    clear s nq5
    refine ⟨_, _, _, _, rfl, rfl, r4c, r5, by show 14 + 3 ≤ sizeLine; decide, fun q5c nq5c => ?_⟩
    have s : Same J5 (upd J5 q5c (.lst ((((([V.bl (decide (i = 0)), V.bl (decide (i = 1)), V.bl (decide (i = 2))] ++ [V.bl (decide (i = 3)), V.bl (decide (i = 4)), V.bl (decide (i = 5))]) ++ [V.bl (decide (i = 6)), V.bl (decide (i = 7)), V.bl (decide (i = 8))]) ++ [V.bl (decide (i = 9)), V.bl (decide (i = 10)), V.bl (decide (i = 11))]) ++ [V.bl (decide (i = 12)), V.bl (decide (i = 13))]) ++ [V.bl (decide (i = 14)), V.bl (decide (i = 15)), V.bl (decide (i = 16))]))) := same_new nq5c
    have r5c : (upd J5 q5c (.lst ((((([V.bl (decide (i = 0)), V.bl (decide (i = 1)), V.bl (decide (i = 2))] ++ [V.bl (decide (i = 3)), V.bl (decide (i = 4)), V.bl (decide (i = 5))]) ++ [V.bl (decide (i = 6)), V.bl (decide (i = 7)), V.bl (decide (i = 8))]) ++ [V.bl (decide (i = 9)), V.bl (decide (i = 10)), V.bl (decide (i = 11))]) ++ [V.bl (decide (i = 12)), V.bl (decide (i = 13))]) ++ [V.bl (decide (i = 14)), V.bl (decide (i = 15)), V.bl (decide (i = 16))]))) q5c = some (.lst ((((([V.bl (decide (i = 0)), V.bl (decide (i = 1)), V.bl (decide (i = 2))] ++ [V.bl (decide (i = 3)), V.bl (decide (i = 4)), V.bl (decide (i = 5))]) ++ [V.bl (decide (i = 6)), V.bl (decide (i = 7)), V.bl (decide (i = 8))]) ++ [V.bl (decide (i = 9)), V.bl (decide (i = 10)), V.bl (decide (i = 11))]) ++ [V.bl (decide (i = 12)), V.bl (decide (i = 13))]) ++ [V.bl (decide (i = 14)), V.bl (decide (i = 15)), V.bl (decide (i = 16))])) := upd_same
    replace kd := kd.same s; replace SS := SS.trans s
    generalize upd J5 q5c (.lst ((((([V.bl (decide (i = 0)), V.bl (decide (i = 1)), V.bl (decide (i = 2))] ++ [V.bl (decide (i = 3)), V.bl (decide (i = 4)), V.bl (decide (i = 5))]) ++ [V.bl (decide (i = 6)), V.bl (decide (i = 7)), V.bl (decide (i = 8))]) ++ [V.bl (decide (i = 9)), V.bl (decide (i = 10)), V.bl (decide (i = 11))]) ++ [V.bl (decide (i = 12)), V.bl (decide (i = 13))]) ++ [V.bl (decide (i = 14)), V.bl (decide (i = 15)), V.bl (decide (i = 16))])) = J5c at kd SS r5c  ⊢
    clear s nq5c
    refine ⟨_, rfl, _, rfl, a, C, .ref c.c17, .ref c.c17, _, rfl, kd, T.is i C hC, fun u hu => hu, T.one i C hC 17 _ rfl, ?_⟩
    refine ⟨_, rfl, a, C, .ref c.c18, .ref c.c18, _, rfl, kd, T.is i C hC, fun u hu => hu, T.one i C hC 18 _ rfl, ?_⟩
    refine ⟨_, rfl, a, C, .ref c.c19, .ref c.c19, _, rfl, kd, T.is i C hC, fun u hu => hu, T.one i C hC 19 _ rfl, ?_⟩
    refine ⟨by show 3 ≤ sizeLine; decide, fun q6 nq6 => ?_⟩
    have s : Same J5c (upd J5c q6 (.lst [V.bl (decide (i = 17)), V.bl (decide (i = 18)), V.bl (decide (i = 19))])) := same_new nq6
    have r6 : (upd J5c q6 (.lst [V.bl (decide (i = 17)), V.bl (decide (i = 18)), V.bl (decide (i = 19))])) q6 = some (.lst [V.bl (decide (i = 17)), V.bl (decide (i = 18)), V.bl (decide (i = 19))]) := upd_same
    replace kd := kd.same s; replace SS := SS.trans s
    replace r5c := s _ _ r5c
    generalize upd J5c q6 (.lst [V.bl (decide (i = 17)), V.bl (decide (i = 18)), V.bl (decide (i = 19))]) = J6 at kd SS r6 r5c ⊢
    clear s nq6
    refine ⟨_, _, _, _, rfl, rfl, r5c, r6, by show 17 + 3 ≤ sizeLine; decide, fun q6c nq6c => ?_⟩
    have s : Same J6 (upd J6 q6c (.lst (((((([V.bl (decide (i = 0)), V.bl (decide (i = 1)), V.bl (decide (i = 2))] ++ [V.bl (decide (i = 3)), V.bl (decide (i = 4)), V.bl (decide (i = 5))]) ++ [V.bl (decide (i = 6)), V.bl (decide (i = 7)), V.bl (decide (i = 8))]) ++ [V.bl (decide (i = 9)), V.bl (decide (i = 10)), V.bl (decide (i = 11))]) ++ [V.bl (decide (i = 12)), V.bl (decide (i = 13))]) ++ [V.bl (decide (i = 14)), V.bl (decide (i = 15)), V.bl (decide (i = 16))]) ++ [V.bl (decide (i = 17)), V.bl (decide (i = 18)), V.bl (decide (i = 19))]))) := same_new nq6c
    have r6c : (upd J6 q6c (.lst (((((([V.bl (decide (i = 0)), V.bl (decide (i = 1)), V.bl (decide (i = 2))] ++ [V.bl (decide (i = 3)), V.bl (decide (i = 4)), V.bl (decide (i = 5))]) ++ [V.bl (decide (i = 6)), V.bl (decide (i = 7)), V.bl (decide (i = 8))]) ++ [V.bl (decide (i = 9)), V.bl (decide (i = 10)), V.bl (decide (i = 11))]) ++ [V.bl (decide (i = 12)), V.bl (decide (i = 13))]) ++ [V.bl (decide (i = 14)), V.bl (decide (i = 15)), V.bl (decide (i = 16))]) ++ [V.bl (decide (i = 17)), V.bl (decide (i = 18)), V.bl (decide (i = 19))]))) q6c = some (.lst (((((([V.bl (decide (i = 0)), V.bl (decide (i = 1)), V.bl (decide (i = 2))] ++ [V.bl (decide (i = 3)), V.bl (decide (i = 4)), V.bl (decide (i = 5))]) ++ [V.bl (decide (i = 6)), V.bl (decide (i = 7)), V.bl (decide (i = 8))]) ++ [V.bl (decide (i = 9)), V.bl (decide (i = 10)), V.bl (decide (i = 11))]) ++ [V.bl (decide (i = 12)), V.bl (decide (i = 13))]) ++ [V.bl (decide (i = 14)), V.bl (decide (i = 15)), V.bl (decide (i = 16))]) ++ [V.bl (decide (i = 17)), V.bl (decide (i = 18)), V.bl (decide (i = 19))])) := upd_same
    replace kd := kd.same s; replace SS := SS.trans s
    generalize upd J6 q6c (.lst (((((([V.bl (decide (i = 0)), V.bl (decide (i = 1)), V.bl (decide (i = 2))] ++ [V.bl (decide (i = 3)), V.bl (decide (i = 4)), V.bl (decide (i = 5))]) ++ [V.bl (decide (i = 6)), V.bl (decide (i = 7)), V.bl (decide (i = 8))]) ++ [V.bl (decide (i = 9)), V.bl (decide (i = 10)), V.bl (decide (i = 11))]) ++ [V.bl (decide (i = 12)), V.bl (decide (i = 13))]) ++ [V.bl (decide (i = 14)), V.bl (decide (i = 15)), V.bl (decide (i = 16))]) ++ [V.bl (decide (i = 17)), V.bl (decide (i = 18)), V.bl (decide (i = 19))])) = J6c at kd SS r6c  ⊢
    clear s nq6c
    refine ⟨_, rfl, .inl ⟨rfl, _, .inl (.inl r6c)⟩, _, [decide (i = 0), decide (i = 1), decide (i = 2), decide (i = 3), decide (i = 4), decide (i = 5), decide (i = 6), decide (i = 7), decide (i = 8), decide (i = 9), decide (i = 10), decide (i = 11), decide (i = 12), decide (i = 13), decide (i = 14), decide (i = 15), decide (i = 16), decide (i = 17), decide (i = 18), decide (i = 19)], true, rfl, rfl, .inl (.inl r6c), ?_⟩
    rw [cnt_one i (all_lt hC)]
    exact k _ SS
def sp__law_bases (c : Cs) : Sp := fun vs H Q _ => ∃ (a C : Addr) (i : Nat), vs = [.ref a] ∧ c.all[i]? = some C ∧ KindAt H a C ∧ ∀ p H', Same H H' → H' p = some (.lst ((kindBs i).map V.bl)) → Q (.ref p) H'
theorem cal__law_bases (B : Bl mg) (DD : OwnDef K mg "_law_bases" s__law_bases) (T : ClK P w K mg base c) : Cal P w K mg base 1 "_law_bases" (sp__law_bases c) [] := by
  obtain ⟨f, fd, F, hm⟩ := DD.ex
  refine ⟨f, fd, ["_law_e"], [], F.ok sc__law_bases (fun vs H Q E h => ?len) (fun cdv A outer s H vs Q E hr h => ?run), hm, F.kp, F.binds (fun _ _ _ _ _ _ us hl => match us, hl with | [_], _ => rfl), .nil⟩
  case len =>
    obtain ⟨_, _, _, rfl, _⟩ := h
    rfl
  case run =>
    obtain ⟨a, C, i, rfl, hC, kd, k⟩ := h
    refine ⟨_, (pss_cons (ps_set (i := 1) sc__law_bases.nd rfl (Or.inl rfl) (pe_lst (pa_cons (pe_callB call_isV (by rfl) B.isinstance (by decide +kernel) (pa_cons (pv 0) (pa_cons (pe_glob (v := .ref c.inp) (by rfl) T.gI rfl) pa_nil))) (pa_cons (pe_callB call_isV (by rfl) B.isinstance (by decide +kernel) (pa_cons (pv 0) (pa_cons (pe_glob (v := .ref c.sta) (by rfl) T.gS rfl) pa_nil))) (pa_cons (pe_callB call_isV (by rfl) B.isinstance (by decide +kernel) (pa_cons (pv 0) (pa_cons (pe_glob (v := .ref c.siz) (by rfl) T.gZ rfl) pa_nil))) pa_nil)))))
      (pss_one (ps_ret (pe_op op_cat (pv 1) (pe_lst (pa_cons (pe_callB call_isV (by rfl) B.isinstance (by decide +kernel) (pa_cons (pv 0) (pa_cons (pe_bltn (v := .ty "ValueError") (by rfl) T.mV (by decide +kernel) rfl) pa_nil))) (pa_cons (pe_callB call_isV (by rfl) B.isinstance (by decide +kernel) (pa_cons (pv 0) (pa_cons (pe_bltn (v := .ty "LookupError") (by rfl) T.mL (by decide +kernel) rfl) pa_nil))) (pa_cons (pe_callB call_isV (by rfl) B.isinstance (by decide +kernel) (pa_cons (pv 0) (pa_cons (pe_bltn (v := .ty "ArithmeticError") (by rfl) T.mA (by decide +kernel) rfl) pa_nil))) pa_nil)))))))), ?_⟩
    refine ⟨_, rfl, a, C, .ref c.inp, .ref c.inp, _, rfl, kd, T.is i C hC, fun u hu => hu, T.bI i C hC, ?_⟩
    refine ⟨_, rfl, a, C, .ref c.sta, .ref c.sta, _, rfl, kd, T.is i C hC, fun u hu => hu, T.bS i C hC, ?_⟩
    refine ⟨_, rfl, a, C, .ref c.siz, .ref c.siz, _, rfl, kd, T.is i C hC, fun u hu => hu, T.bZ i C hC, ?_⟩
    refine ⟨by show 3 ≤ sizeLine; decide, fun q nq => ?_⟩
    have s1 : Same H (upd H q (.lst [V.bl (decide (i < 15)), V.bl (decide (15 ≤ i ∧ i < 18)), V.bl (decide (18 ≤ i))])) := same_new nq
    have r1 : (upd H q (.lst [V.bl (decide (i < 15)), V.bl (decide (15 ≤ i ∧ i < 18)), V.bl (decide (18 ≤ i))])) q = some (.lst [V.bl (decide (i < 15)), V.bl (decide (15 ≤ i ∧ i < 18)), V.bl (decide (18 ≤ i))]) := upd_same
    replace kd := kd.same s1
    generalize upd H q (.lst _) = J at s1 r1 kd ⊢
    refine ⟨_, rfl, _, rfl, a, C, .ty "ValueError", .type "ValueError", _, rfl, kd, T.is i C hC, fun u hu => hu, T.bV i C hC, ?_⟩
    refine ⟨_, rfl, a, C, .ty "LookupError", .type "LookupError", _, rfl, kd, T.is i C hC, fun u hu => hu, T.bL i C hC, ?_⟩
    refine ⟨_, rfl, a, C, .ty "ArithmeticError", .type "ArithmeticError", _, rfl, kd, T.is i C hC, fun u hu => hu, T.bA i C hC, ?_⟩
    refine ⟨by show 3 ≤ sizeLine; decide, fun q2 nq2 => ?_⟩
    refine ⟨_, _, _, _, rfl, rfl, same_new nq2 _ _ r1, upd_same, by show 3 + 3 ≤ sizeLine; decide, fun p np => ?_⟩
    exact k p _ ((s1.trans (same_new nq2)).trans (same_new np)) upd_same
end

end LW

set_option Elab.async false
set_option linter.all false
set_option maxRecDepth 100000
set_option maxHeartbeats 4000100
set_option exponentiation.threshold 9000
namespace LW
open PySem PySem.Spec PyProof.Rows L2 StX
abbrev s__law_right : Stmt := topS 38
theorem sc__law_right : FnScope ["_law_tank_here", "_law_thing", "_law_some", "_law_places", "_law_sizes", "_law_states", "_law_kept", "_law_e"] ["_law_tank_here"] (defScope s__law_right) := ⟨rfl, rfl, rfl, by decide +kernel, rfl, by decide +kernel, by decide +kernel⟩
abbrev s_law : Stmt := topS 39
theorem sc_law : FnScope ["_law_script", "_law_k"] ["_law_script"] (defScope s_law) := ⟨rfl, rfl, rfl, by decide +kernel, rfl, by decide +kernel, by decide +kernel⟩
local macro_rules | `(tactic| walk_at "len") => `(tactic| skip)
/-! ### data that holds empty dicts, with addresses left out -/
section
variable {K : PySem.W.Frag} {A : List Addr} {H H' : Hp} {v : V} {d : PyData} {vs : List V} {ds : List PyData} {a p : Addr}
def IsO (K : PySem.W.Frag) (A : List Addr) (H : Hp) (v : V) (d : PyData) : Prop := DO K (hv A H) v d
def IssO (K : PySem.W.Frag) (A : List Addr) (H : Hp) (vs : List V) (ds : List PyData) : Prop := DOs K (hv A H) vs ds
/-- all but what stands at A and tables is kept -/
def ExA (A : List Addr) (H H' : Hp) : Prop := ∀ b o, b ∉ A → H b = some o → (∀ ps, o ≠ .tbl ps) → H' b = some o
theorem ExA.refl : ExA A H H := fun _ _ _ e _ => e
theorem ExA.trans {H2 : Hp} (a : ExA A H H') (b : ExA A H' H2) : ExA A H H2 := fun c o n e t => b c o n (a c o n e t) t
theorem ExA.of (g : Go A H H') : ExA A H H' := fun b o n e _ => g.keep b o n e
theorem ExA.ext (e : LamX.ExtN H H') : ExA A H H' := fun b o _ h t => e b o h t
theorem ExA.same (e : Same H H') : ExA A H H' := fun b o _ h _ => e b o h
theorem DO.keep (e : ∀ b o, H b = some o → (∀ ps, o ≠ .tbl ps) → H' b = some o) (h : DO K H v d) : DO K H' v d := by
  induction h with
  | non => exact .non
  | bl b => exact .bl b
  | int i => exact .int i
  | str x => exact .str x
  | lst h ne len all ih =>
    refine .lst ?_ ne len ih
    rcases h with (h | ⟨o,
          h⟩) | h
    · exact .inl (.inl (e _ _ h (fun ps z => by cases z)))
    · exact .inl (.inr ⟨o, e _ _ h (fun ps z => by cases z)⟩)
    · exact .inr h
  | tup h ne len all ih =>
    refine .tup ?_ ne len ih
    rcases h with (h | ⟨o,
          h⟩) | h
    · exact .inl (.inl (e _ _ h (fun ps z => by cases z)))
    · exact .inl (.inr ⟨o, e _ _ h (fun ps z => by cases z)⟩)
    · exact .inr h
  | dct h ne => exact .dct (e _ _ h (fun ps z => by cases z)) ne
theorem ExA.hv (e : ExA A H H') : ∀ b o, LW.hv A H b = some o → (∀ ps, o ≠ .tbl ps) → LW.hv A H' b = some o := fun b o h t => by
  by_cases hb : b ∈ A
  · rw [hv_in hb] at h; cases h
  · rw [hv_out hb] at h ⊢; exact e b o hb h t
theorem IsO.ex (e : ExA A H H') (h : IsO K A H v d) : IsO K A H' v d := DO.keep e.hv h
theorem IssO.ex (e : ExA A H H') (h : IssO K A H vs ds) : IssO K A H' vs ds := ⟨h.len, fun i v d h1 h2 => DO.keep e.hv (h.all i v d h1 h2)⟩
theorem IsO.same (s : Same H H') (h : IsO K A H v d) : IsO K A H' v d := h.ex (.same s)
theorem IssO.same (s : Same H H') (h : IssO K A H vs ds) : IssO K A H' vs ds := h.ex (.same s)
theorem IsO.mono (g : Go A H H') (h : IsO K A H v d) : IsO K A H' v d := h.ex (.of g)
theorem IsO.is (h : IsO K A H v d) : Is K A H v d := DO.dat h
theorem IssO.iss (h : IssO K A H vs ds) : Iss K A H vs ds := ⟨h.len, fun i v d h1 h2 => (h.all i v d h1 h2).dat⟩
theorem IsO.full (h : IsO K A H v d) : DO K H v d := DO.same hv_le h
theorem IssO.full (h : IssO K A H vs ds) : DOs K H vs ds := DOs.same hv_le h
/-- more hidden that is new -/
theorem IsO.more (n : H a = none) (h : IsO K A H v d) : IsO K (a :: A) H v d := DO.same (fun b o e => by
  have hb : b ∉ A := fun z => by rw [hv_in z] at e; cases e
  rw [hv_out hb] at e
  have b1 : b ≠ a := ne_of_none e n
  rw [hv_out (by simp [b1, hb])]
  exact e) h
theorem IssO.nil : IssO K A H [] [] := DOs.nil
theorem IssO.cons (h : IsO K A H v d) (r : IssO K A H vs ds) : IssO K A H (v :: vs) (d :: ds) := DOs.cons h r
theorem IssO.one (h : IsO K A H v d) : IssO K A H [v] [d] := DOs.cons h DOs.nil
theorem isO_int {i : Int} : IsO K A H (.int i) (.int i) := DO.int i
theorem isO_bl {b : Bool} : IsO K A H (.bl b) (.bool b) := DO.bl b
theorem isO_str {x : Str} : IsO K A H (.str x) (.str x) := DO.str x
theorem isO_non : IsO K A H .non .none := DO.non
theorem new_tupO (hd : Hd A H) (n : H p = none) (ne : p ≠ sysModules) (h : IssO K A H vs ds) : IsO K A (upd H p (.tup vs)) (.ref p) (.tuple ds) ∧ Same H (upd H p (.tup vs)) ∧ Hd A (upd H p (.tup vs)) := by
  have s : Same H (upd H p (.tup vs)) := same_new n
  have h2 := h.same s
  refine ⟨DO.tup (.inl (.inl ?_)) ne h2.len h2.all, s, hd_new hd n⟩
  rw [hv_out (hd.out n), upd_same]
theorem new_lstO (hd : Hd A H) (n : H p = none) (ne : p ≠ sysModules) (h : IssO K A H vs ds) : IsO K A (upd H p (.lst vs)) (.ref p) (.list ds) ∧ Same H (upd H p (.lst vs)) ∧ Hd A (upd H p (.lst vs)) := by
  have s : Same H (upd H p (.lst vs)) := same_new n
  have h2 := h.same s
  refine ⟨DO.lst (.inl (.inl ?_)) ne h2.len h2.all, s, hd_new hd n⟩
  rw [hv_out (hd.out n), upd_same]
theorem new_dctO (hd : Hd A H) (n : H p = none) (ne : p ≠ sysModules) : IsO K A (upd H p (.dK [])) (.ref p) (.dict []) ∧ Same H (upd H p (.dK [])) ∧ Hd A (upd H p (.dK [])) := by
  refine ⟨DO.dct ?_ ne, same_new n, hd_new hd n⟩
  rw [hv_out (hd.out n), upd_same]
/-- tables stay tables where all but lists is kept -/
theorem tabs_keep {T : List (Addr × Str)} {H H' : Hp} (t : LamX.Tabs T H) (e : ∀ b o, H b = some o → (∀ xs, o ≠ .lst xs) → H' b = some o) : LamX.Tabs T H' := by
  intro p hp
  obtain ⟨ps, h1, h2, h3⟩ := t p hp
  refine ⟨ps, e _ _ h1 (fun xs z => by cases z), h2, fun pos cv hc => ?_⟩
  obtain ⟨c, e1, e2⟩ :=
        h3 pos cv hc
  exact ⟨c, e1, e _ _ e2 (fun xs z => by unfold LamX.CodeO at z; cases z)⟩
theorem tabs_keepD {T : List (Addr × Str)} {H : Hp} {D : Addr} {xs ys : List V} (t : LamX.Tabs T H) (e : H D = some (.lst xs)) : LamX.Tabs T (upd H D (.lst ys)) :=
  tabs_keep t fun b o eb n => by
    rw [upd_ne (fun z => by rw [z, e] at eb; exact n _ (Option.some.inj eb).symm)]
    exact eb
/-- .. where all but the law's tank is kept -/
theorem tabs_tank {T : List (Addr × Str)} (t : LamX.Tabs T H) (tk : TankAt H a) (g : Go [a] H H') : LamX.Tabs T H' := tabs_keep t fun b ob e n => g.keep b ob (fun z => by
  rw [List.mem_singleton] at z
  obtain ⟨x, y, w, e2, _⟩ := tk.ex
  rw [z, e2] at e
  exact n _ (Option.some.inj e).symm) e
end

/-! ### a display, one address at a time -/
section
variable {K : PySem.W.Frag} {A : List Addr} {H : Hp} {p : Addr} {v : V} {xs vs : List V} {ds es : List PyData} {d : PyData}
theorem iss_tup (hd : Hd A H) (n : H p = none) (ne : p ≠ sysModules) (all : IssO K A H xs ds) (h : IssO K A H vs es) : IssO K A (upd H p (.tup vs)) (xs ++ [.ref p]) (ds ++ [.tuple es]) ∧ Same H (upd H p (.tup vs)) ∧ Hd A (upd H p (.tup vs)) := by
  obtain ⟨i, s, g⟩ := new_tupO hd n ne h
  exact ⟨DOs.snoc (all.same s) i, s, g⟩
theorem iss_lst (hd : Hd A H) (n : H p = none) (ne : p ≠ sysModules) (all : IssO K A H xs ds) (h : IssO K A H vs es) : IssO K A (upd H p (.lst vs)) (xs ++ [.ref p]) (ds ++ [.list es]) ∧ Same H (upd H p (.lst vs)) ∧ Hd A (upd H p (.lst vs)) := by
  obtain ⟨i, s, g⟩ := new_lstO hd n ne h
  exact ⟨DOs.snoc (all.same s) i, s, g⟩
theorem iss_dct (hd : Hd A H) (n : H p = none) (ne : p ≠ sysModules) (all : IssO K A H xs ds) : IssO K A (upd H p (.dK [])) (xs ++ [.ref p]) (ds ++ [.dict []]) ∧ Same H (upd H p (.dK [])) ∧ Hd A (upd H p (.dK [])) := by
  obtain ⟨i, s, g⟩ := new_dctO (K := K) hd n ne
  exact ⟨DOs.snoc (all.same s) i, s, g⟩
theorem iss_int (i : Int) (all : IssO K A H xs ds) : IssO K A H (xs ++ [.int i]) (ds ++ [.int i]) := DOs.snoc all (DO.int i)
theorem iss_bl (b : Bool) (all : IssO K A H xs ds) : IssO K A H (xs ++ [.bl b]) (ds ++ [.bool b]) := DOs.snoc all (DO.bl b)
theorem iss_str (b : Str) (all : IssO K A H xs ds) : IssO K A H (xs ++ [.str b]) (ds ++ [.str b]) := DOs.snoc all (DO.str b)
theorem iss_non (all : IssO K A H xs ds) : IssO K A H (xs ++ [.non]) (ds ++ [.none]) := DOs.snoc all DO.non
theorem isso_ints (is : List Int) : IssO K A H (is.map V.int) (is.map PyData.int) := by
  refine ⟨by simp, fun i v d h1 h2 => ?_⟩
  rw [List.getElem?_map] at h1 h2
  cases e : is[i]? with
  | none => rw [e] at h1; cases h1
  | some x =>
    rw [e] at h1 h2
    cases h1
    cases h2
    exact DO.int x
theorem IssO.mem (h : IssO K A H xs ds) (hv : v ∈ xs) : ∃ d ∈ ds, IsO K A H v d := by
  obtain ⟨i, hi, e⟩ := List.mem_iff_getElem.mp hv
  have hj : i < ds.length := by rw [← h.len]; exact hi
  exact ⟨ds[i], List.getElem_mem hj, h.all i v _ (by rw [List.getElem?_eq_getElem hi, e]) (List.getElem?_eq_getElem hj)⟩
end

/-! ### the law's own look -/
section
def thingB (d : PyData) : Bool := d.showable && decide (d.depth ≤ 3) && decide (d.shown.length ≤ 100)
def things : List PyData := [.none, .int 0, .bool false, .str "x", .tuple [.int 2, .str "y"], .list [.int 3], .dict [], .int (10 ^ 39), .tuple [], .int (-7)]
theorem things_ok : ∀ d ∈ things, thingB d = true := by decide +kernel
structure ThD (d : PyData) : Prop where
  sh : d.showable = true
  dep : d.depth ≤ 3
  len : d.shown.length ≤ 100
theorem thD_of {d : PyData} (h : thingB d = true) : ThD d := by
  unfold thingB at h
  simp only [Bool.and_eq_true,
        decide_eq_true_eq] at h
  exact ⟨h.1.1, h.1.2, h.2⟩
theorem rep_show {d : PyData} (n : Nat) (h : ThD d) : PyData.showableAll (List.replicate n d) = true ∧ PyData.depthAll (List.replicate n d) ≤ 3 ∧ piled (PyData.shownAll (List.replicate n d)) ≤ n * 102 := by
  induction n with
  | zero => exact ⟨rfl, Nat.zero_le _, Nat.zero_le _⟩
  | succ n ih =>
    obtain ⟨a, b, c⟩ := ih
    have h1 := h.dep
    have h2 := h.len
    rw [List.replicate_succ]
    refine ⟨?_, ?_, ?_⟩
    · simp only [PyData.showableAll, h.sh, a, Bool.and_self]
    · simp only [PyData.depthAll]
      omega
    · simp only [PyData.shownAll, piled, List.map_cons, List.sum_cons] at c ⊢
      omega
theorem text_cons (t : Str) (r : List Str) : (listText (t :: r)).length = piled (t :: r) := by
  have h := textFrom_length_pos r 1 (("[" : Str) ++ (if (0 : Nat) > 0 then ", "
        else "" : String) ++ t) (Nat.succ_pos 0)
  have e : ((("[" : Str) ++ (if (0 : Nat) > 0 then ", " else "" : String)
        ++ t)).length = 1 + t.length := by
    rw [strLen_append,
          strLen_append]; rfl
  have hX : (listText (t :: r)).length = (textFrom 0 "["
        (t :: r)).length + 1 := by
    show (textFrom 0 "[" (t :: r) ++
          "]").length = _
    rw [strLen_append]; rfl
  have hY : (textFrom 0 "[" (t :: r)).length = (textFrom 1 (("[" : Str) ++ (if (0 : Nat) > 0 then
        ", " else "" : String) ++ t) r).length := rfl
  rw [hX, hY, h, e,
        piled_cons]; omega
theorem rep_ok {d : PyData} (h : ThD d) : (PyData.list (List.replicate 34 d)).showable = true ∧ (PyData.list (List.replicate 34 d)).depth ≤ 60 ∧ (PyData.list (List.replicate 34 d)).shown.length ≤ sizeLine := by
  obtain ⟨a, b, c⟩ := rep_show 34 h
  refine ⟨?_, ?_, ?_⟩
  · simp only [PyData.showable]; exact a
  · simp only [PyData.depth]; omega
  · have e : PyData.shown (.list (List.replicate 34 d)) = listText (PyData.shownAll (List.replicate 34 d)) := by simp only [PyData.shown]
    have e2 : PyData.shownAll (List.replicate 34 d) = d.shown :: PyData.shownAll (List.replicate 33 d) := by
      rw [show List.replicate 34 d = d :: List.replicate 33 d from rfl]
      simp only [PyData.shownAll]
    rw [e2] at c
    rw [e, e2, text_cons, sizeLine_eq]
    omega
end
section
variable {P : Program} {w : World} {K : PySem.W.Frag} {mg : Str → Option Value} {base : Heap} {cs : Cs} {c : Addr} {H H' : Hp}
theorem dos_rep {v : V} {d : PyData} (h : DO K H v d) (n : Nat) : DOs K H (List.replicate n v) (List.replicate n d) := by
  induction n with
  | zero => exact DOs.nil
  | succ n ih => rw [List.replicate_succ, List.replicate_succ]; exact DOs.cons h ih
theorem dp_bools : ∀ {l : Addr} (bs : List Bool), H l = some (.lst (bs.map V.bl)) → Dp K H (.ref l) (.list (bs.map PyData.bool)) := fun {l} bs e => by
  refine .lst (.inl (.inl e)) ?_
  clear e
  induction bs with
  | nil => exact .nil
  | cons b bs ih => exact .cons (.bl b) ih
theorem Fld.lt {cs : Cs} {n : Str} {y : V} {xs : List V} {is : List Nat} (f : Fld cs n y H xs is) {i : Nat} {x : V} (h : xs[i]? = some x) : ∃ k, is[i]? = some k ∧ k ∈ is := by
  have hi := (List.getElem?_eq_some_iff.mp h).1
  rw [f.len] at hi
  exact ⟨is[i], List.getElem?_eq_getElem hi, List.getElem_mem hi⟩
theorem Exs.lt {cs : Cs} {xs : List V} {is : List Nat} (f : Exs cs H xs is) {i : Nat} {x : V} (h : xs[i]? = some x) : ∃ k, is[i]? = some k ∧ k ∈ is := by
  have hi := (List.getElem?_eq_some_iff.mp h).1
  rw [f.len] at hi
  exact ⟨is[i], List.getElem?_eq_getElem hi, List.getElem_mem hi⟩
theorem no_val (T : ClK P w K mg base cs) : ∀ (i : Nat) (C : Addr), 0 ≤ i → i < 10 → cs.all[i]? = some C → PySem.W.findIn K (.ref C) "value" = some none
  | 0, _, _, _, h => by cases h; exact T.m0.no
  | 1, _, _, _, h => by cases h; exact T.m1.no
  | 2, _, _, _, h => by cases h; exact T.m2.no
  | 3, _, _, _, h => by cases h; exact T.m3.no
  | 4, _, _, _, h => by cases h; exact T.m4.no
  | 5, _, _, _, h => by cases h; exact T.m5.no
  | 6, _, _, _, h => by cases h; exact T.m6.no
  | 7, _, _, _, h => by cases h; exact T.m7.no
  | 8, _, _, _, h => by cases h; exact T.m8.no
  | 9, _, _, _, h => by cases h; exact T.m9.no
  | n + 10, _, _, h, _ => absurd h (by omega)
theorem no_idx (T : ClK P w K mg base cs) : ∀ (i : Nat) (C : Addr), 10 ≤ i → i < 15 → cs.all[i]? = some C → PySem.W.findIn K (.ref C) "index" = some none
  | 10, _, _, _, h => by cases h; exact T.m10.no
  | 11, _, _, _, h => by cases h; exact T.m11.no
  | 12, _, _, _, h => by cases h; exact T.m12.no
  | 13, _, _, _, h => by cases h; exact T.m13.no
  | 14, _, _, _, h => by cases h; exact T.m14.no
  | 0, _, h, _, _ => absurd h (by decide)
  | 1, _, h, _, _ => absurd h (by decide)
  | 2, _, h, _, _ => absurd h (by decide)
  | 3, _, h, _, _ => absurd h (by decide)
  | 4, _, h, _, _ => absurd h (by decide)
  | 5, _, h, _, _ => absurd h (by decide)
  | 6, _, h, _, _ => absurd h (by decide)
  | 7, _, h, _, _ => absurd h (by decide)
  | 8, _, h, _, _ => absurd h (by decide)
  | 9, _, h, _, _ => absurd h (by decide)
  | n + 15, _, _, h, _ => absurd h (by omega)
theorem no_lim (T : ClK P w K mg base cs) : ∀ (i : Nat) (C : Addr), 18 ≤ i → i < 20 → cs.all[i]? = some C → PySem.W.findIn K (.ref C) "limit" = some none
  | 18, _, _, _, h => by cases h; exact T.m18.no
  | 19, _, _, _, h => by cases h; exact T.m19.no
  | 0, _, h, _, _ => absurd h (by decide)
  | 1, _, h, _, _ => absurd h (by decide)
  | 2, _, h, _, _ => absurd h (by decide)
  | 3, _, h, _, _ => absurd h (by decide)
  | 4, _, h, _, _ => absurd h (by decide)
  | 5, _, h, _, _ => absurd h (by decide)
  | 6, _, h, _, _ => absurd h (by decide)
  | 7, _, h, _, _ => absurd h (by decide)
  | 8, _, h, _, _ => absurd h (by decide)
  | 9, _, h, _, _ => absurd h (by decide)
  | 10, _, h, _, _ => absurd h (by decide)
  | 11, _, h, _, _ => absurd h (by decide)
  | 12, _, h, _, _ => absurd h (by decide)
  | 13, _, h, _, _ => absurd h (by decide)
  | 14, _, h, _, _ => absurd h (by decide)
  | 15, _, h, _, _ => absurd h (by decide)
  | 16, _, h, _, _ => absurd h (by decide)
  | 17, _, h, _, _ => absurd h (by decide)
  | n + 20, _, _, h, _ => absurd h (by omega)
theorem kind_I : ∀ i < 15, kindBs i = [true, false, false, true, false, false] := by decide
theorem kind_S : ∀ i, 15 ≤ i → i < 18 → kindBs i = [false, true, false, false, true, false] := fun i a b => by
  have : i = 15 ∨ i = 16 ∨ i = 17 := by omega
  rcases this with z | z | z <;> rw [z] <;> decide
theorem kind_L : ∀ i, 18 ≤ i → i < 20 → kindBs i = [false, false, true, false, false, true] := fun i a b => by
  have : i = 18 ∨ i = 19 := by omega
  rcases this with z | z <;> rw [z] <;> decide
def sp__law_right (K : PySem.W.Frag) (c : Addr) : Sp := fun vs H Q _ => ∃ a : Addr, vs = [.ref a] ∧ TankAt H a ∧ ∀ H', Go [a] H H' → Q (.bl true) H'
theorem calG__law_right (B : Bl mg) (DD : OwnDef K mg "_law_right" s__law_right) (T : ClK P w K mg base cs) (C__law_any : Cal P w K mg base 2 "_law_any" (sp__law_any K c) []) (C__law_created : Cal P w K mg base 5 "_law_created" (sp__law_created cs) [])
    (C__law_bases : Cal P w K mg base 1 "_law_bases" (sp__law_bases cs) []) (C__law_instances : Cal P w K mg base 1 "_law_instances" (sp__law_instances cs) []) : CalG P w K mg base 14 "_law_right" (sp__law_right K c) [] := by
  obtain ⟨f, fd, F, hm⟩ := DD.ex
  refine ⟨f, fd, ["_law_tank_here"], [], Fun_okG F sc__law_right (fun vs H Q E h => ?_) (fun cdv A outer s H vs Q E hr quiet h => ?_), hm, F.kp, F.binds (fun _ _ _ _ _ _ us hl => match us, hl with | [_], _ => rfl), .nil⟩
  · obtain ⟨_, rfl, _⟩ := h; rfl
  · obtain ⟨a, rfl, tk, k⟩ := h
    have hu64 : (A.deeper (envOfC "_law_right" (defScope s__law_right) s.heap.objs.size f cdv)).units + 64 < cLine := by have := hr.un; omega
    refine ⟨_, (pss_cons (ps_set (i := 1) sc__law_right.nd rfl (Or.inl rfl) (pe_c C__law_any hr (by decide) (by rfl) (pa_cons (pv 0) (pa_cons (pe_lstS (pa_cons pe_non (pa_cons pe_int (pa_cons pe_bl (pa_cons pe_str (pa_cons (pe_tupS (pa_cons pe_int (pa_cons pe_str pa_nil))) (pa_cons (pe_lstS (pa_cons pe_int pa_nil)) (pa_cons pe_dnewS (pa_cons (pe_op op_pow pe_int pe_int) (pa_cons (pe_tupS pa_nil) (pa_cons (pe_un un_neg pe_int) pa_nil))))))))))) pa_nil))))
      (pss_cons (ps_asg (pe_c C__law_created hr (by decide) (by rfl) (pa_cons (pv 1) pa_nil)) (pg_tup (by rfl) (pgs_cons (pg_name (i := 2) sc__law_right.nd rfl (Or.inl rfl)) (pgs_cons (pg_name (i := 3) sc__law_right.nd rfl (Or.inl rfl)) pgs_nil))))
      (pss_cons (ps_set (i := 4) sc__law_right.nd rfl (Or.inl rfl) (pe_lstS (pa_cons (pe_exP T.m18 hr (by decide) (by rfl) (pv 1)) (pa_cons (pe_exK T.m18 hr (by decide) (by rfl) (pk_cons (pv 1) pk_nil)) (pa_cons (pe_exP T.m19 hr (by decide) (by rfl) (pv 1)) (pa_cons (pe_exK T.m19 hr (by decide) (by rfl) (pk_cons (pv 1) pk_nil)) pa_nil))))))
      (pss_cons (ps_set (i := 5) sc__law_right.nd rfl (Or.inl rfl) (pe_lstS (pa_cons (pe_exN T.m15 (by rfl)) (pa_cons (pe_exN T.m16 (by rfl)) (pa_cons (pe_exN T.m17 (by rfl)) pa_nil)))))
      (pss_cons (ps_set (i := 6) sc__law_right.nd rfl (Or.inl rfl) (pe_op op_catS (pe_op op_cat (pe_lc (own := [("_law_e", 7)]) (by rfl) sc__law_right.nd (pi_list (pv 2)) (blkOk_by (own := [("_law_e", 7)]) (N := ["_law_tank_here", "_law_thing", "_law_some", "_law_places", "_law_sizes", "_law_states", "_law_kept", "_law_e"]) (sc := defScope s__law_right) (by decide +kernel)) (fun _ _ _ _ _ => (pg_name (i := 7) sc__law_right.nd rfl (Or.inl rfl))) (fun _ _ _ _ _ => pts_nil) (fun _ _ _ _ _ => (show PE _ _ (tXv K "value" (tVar 7)) from pe_xv (pv 7)))) (pe_lc (own := [("_law_e", 7)]) (by rfl) sc__law_right.nd (pi_list (pv 3)) (blkOk_by (own := [("_law_e", 7)]) (N := ["_law_tank_here", "_law_thing", "_law_some", "_law_places", "_law_sizes", "_law_states", "_law_kept", "_law_e"]) (sc := defScope s__law_right) (by decide +kernel)) (fun _ _ _ _ _ => (pg_name (i := 7) sc__law_right.nd rfl (Or.inl rfl))) (fun _ _ _ _ _ => pts_nil) (fun _ _ _ _ _ => (show PE _ _ (tXv K "index" (tVar 7)) from pe_xv (pv 7))))) (pe_lc (own := [("_law_e", 7)]) (by rfl) sc__law_right.nd (pi_list (pv 4)) (blkOk_by (own := [("_law_e", 7)]) (N := ["_law_tank_here", "_law_thing", "_law_some", "_law_places", "_law_sizes", "_law_states", "_law_kept", "_law_e"]) (sc := defScope s__law_right) (by decide +kernel)) (fun _ _ _ _ _ => (pg_name (i := 7) sc__law_right.nd rfl (Or.inl rfl))) (fun _ _ _ _ _ => pts_nil) (fun _ _ _ _ _ => (show PE _ _ (tXv K "limit" (tVar 7)) from pe_xv (pv 7))))))
      (pss_cons (ps_if (PW.pt (pw_or (pt_cmpR op_ne (pe_callB (call_reprA quiet hr) (by rfl) B.repr (by decide +kernel) (pa_cons (pv 6) pa_nil)) (pe_callB (call_reprA quiet hr) (by rfl) B.repr (by decide +kernel) (pa_cons (pe_op op_repS (pe_lstS (pa_cons (pv 1) pa_nil)) (pe_callB call_len_seq (by rfl) B.len (by decide +kernel) (pa_cons (pv 6) pa_nil))) pa_nil)) (nomark _)) (pw_or (pt_cmpR op_ne (pe_callB call_len_seq (by rfl) B.len (by decide +kernel) (pa_cons (pv 2) pa_nil)) pe_int (nomark _)) (pw_or1 (pt_cmpR op_ne (pe_callB call_len_seq (by rfl) B.len (by decide +kernel) (pa_cons (pv 3) pa_nil)) pe_int (nomark _)))))) (pss_one (ps_ret pe_bl)) pss_nil)
      (pss_cons (ps_if (pt_not (pt_val (pe_callB (cr_all rfl) (by rfl) B.all (by decide +kernel) (pa_cons (pe_lc (own := [("_law_e", 7)]) (by rfl) sc__law_right.nd (pi_list (pe_op op_cat (pv 2) (pv 3))) (blkOk_by (own := [("_law_e", 7)]) (N := ["_law_tank_here", "_law_thing", "_law_some", "_law_places", "_law_sizes", "_law_states", "_law_kept", "_law_e"]) (sc := defScope s__law_right) (by decide +kernel)) (fun _ _ _ _ _ => (pg_name (i := 7) sc__law_right.nd rfl (Or.inl rfl))) (fun _ _ _ _ _ => pts_nil) (fun _ _ _ _ _ => (pe_cmpR (show OpR _ (compareOp .Eq) (rEqD K) from op_eqD hu64) (pe_c C__law_bases hr (by decide) (by rfl) (pa_cons (pv 7) pa_nil)) (pe_lstS (pa_cons pe_bl (pa_cons pe_bl (pa_cons pe_bl (pa_cons pe_bl (pa_cons pe_bl (pa_cons pe_bl pa_nil))))))) (nomark _)))) pa_nil)))) (pss_one (ps_ret pe_bl)) pss_nil)
      (pss_cons (ps_if (pt_not (pt_val (pe_callB (cr_all rfl) (by rfl) B.all (by decide +kernel) (pa_cons (pe_lc (own := [("_law_e", 7)]) (by rfl) sc__law_right.nd (pi_list (pv 5)) (blkOk_by (own := [("_law_e", 7)]) (N := ["_law_tank_here", "_law_thing", "_law_some", "_law_places", "_law_sizes", "_law_states", "_law_kept", "_law_e"]) (sc := defScope s__law_right) (by decide +kernel)) (fun _ _ _ _ _ => (pg_name (i := 7) sc__law_right.nd rfl (Or.inl rfl))) (fun _ _ _ _ _ => pts_nil) (fun _ _ _ _ _ => (pe_cmpR (show OpR _ (compareOp .Eq) (rEqD K) from op_eqD hu64) (pe_c C__law_bases hr (by decide) (by rfl) (pa_cons (pv 7) pa_nil)) (pe_lstS (pa_cons pe_bl (pa_cons pe_bl (pa_cons pe_bl (pa_cons pe_bl (pa_cons pe_bl (pa_cons pe_bl pa_nil))))))) (nomark _)))) pa_nil)))) (pss_one (ps_ret pe_bl)) pss_nil)
      (pss_cons (ps_if (pt_not (pt_val (pe_callB (cr_all rfl) (by rfl) B.all (by decide +kernel) (pa_cons (pe_lc (own := [("_law_e", 7)]) (by rfl) sc__law_right.nd (pi_list (pv 4)) (blkOk_by (own := [("_law_e", 7)]) (N := ["_law_tank_here", "_law_thing", "_law_some", "_law_places", "_law_sizes", "_law_states", "_law_kept", "_law_e"]) (sc := defScope s__law_right) (by decide +kernel)) (fun _ _ _ _ _ => (pg_name (i := 7) sc__law_right.nd rfl (Or.inl rfl))) (fun _ _ _ _ _ => pts_nil) (fun _ _ _ _ _ => (pe_cmpR (show OpR _ (compareOp .Eq) (rEqD K) from op_eqD hu64) (pe_c C__law_bases hr (by decide) (by rfl) (pa_cons (pv 7) pa_nil)) (pe_lstS (pa_cons pe_bl (pa_cons pe_bl (pa_cons pe_bl (pa_cons pe_bl (pa_cons pe_bl (pa_cons pe_bl pa_nil))))))) (nomark _)))) pa_nil)))) (pss_one (ps_ret pe_bl)) pss_nil)
      (pss_cons (ps_if (pt_cmpR (op_neD hu64) (pe_lstS (pa_cons (pe_gint (by rfl) T.g_MOST_CLAIMANTS) (pa_cons (pe_gint (by rfl) T.g_MOST_SHARERS) (pa_cons (pe_gint (by rfl) T.g_MOST_HEAD) (pa_cons (pe_gint (by rfl) T.g_MOST_STATEMENTS) (pa_cons (pe_gint (by rfl) T.g_MOST_ITEMS) pa_nil)))))) (pe_lstS (pa_cons pe_int (pa_cons pe_int (pa_cons pe_int (pa_cons pe_int (pa_cons (pe_op op_pow pe_int pe_int) pa_nil)))))) (nomark _)) (pss_one (ps_ret pe_bl)) pss_nil)
      (pss_cons (ps_if (pt_cmpR (op_neD hu64) (pe_lstS (pa_cons (pe_gint (by rfl) T.g_MOST_COMPARED) (pa_cons (pe_gint (by rfl) T.g_MOST_LISTED) pa_nil))) (pe_lstS (pa_cons pe_int (pa_cons pe_int pa_nil))) (nomark _)) (pss_one (ps_ret pe_bl)) pss_nil)
      (pss_one (ps_ret (pe_callB (cr_all rfl) (by rfl) B.all (by decide +kernel) (pa_cons (pe_lc (own := [("_law_e", 7)]) (by rfl) sc__law_right.nd (pi_list (pe_op op_cat (pe_op op_cat (pe_op op_cat (pv 2) (pv 3)) (pv 4)) (pv 5))) (blkOk_by (own := [("_law_e", 7)]) (N := ["_law_tank_here", "_law_thing", "_law_some", "_law_places", "_law_sizes", "_law_states", "_law_kept", "_law_e"]) (sc := defScope s__law_right) (by decide +kernel)) (fun _ _ _ _ _ => (pg_name (i := 7) sc__law_right.nd rfl (Or.inl rfl))) (fun _ _ _ _ _ => pts_nil) (fun _ _ _ _ _ => (pe_cmpR op_eq (pe_c C__law_instances hr (by decide) (by rfl) (pa_cons (pv 7) pa_nil)) pe_int (nomark _)))) pa_nil))))))))))))))), ?_⟩
    have hA : Hd [a] H := fun b hb => by
      rw [List.mem_singleton] at hb
      rw [hb]
      exact tk.ne
    have mA : a ∈ [a] := List.mem_singleton.mpr rfl
    refine via (t := tCall _ _ _ _) (fun v H' => ∃ td, td ∈ things ∧ DO K H' v td ∧ Go [a] H H') (fun Q' k' => ?_) ?_
    · have i0 : IssO K [a] H [V.non, V.int 0, V.bl false, V.str "x"] [.none, .int 0, .bool false, .str "x"] := iss_str _ (iss_bl _ (iss_int _ (IssO.one isO_non)))
      refine ⟨_, rfl, by show 2 ≤ sizeLine; decide, fun p1 n1 z1 => ?_⟩
      obtain ⟨i1, s1, h1⟩ := iss_tup (vs := [V.int 2, V.str "y"]) (es := [.int 2, .str "y"]) hA n1 z1 i0 (IssO.cons isO_int (IssO.one isO_str))
      generalize upd H p1 (.tup [V.int 2, V.str "y"]) = K1 at i1 s1 h1 ⊢
      refine ⟨by show 1 ≤ sizeLine; decide, fun p2 n2 z2 => ?_⟩
      obtain ⟨i2, s2, h2⟩ := iss_lst (vs := [V.int 3]) (es := [.int 3]) h1 n2 z2 i1 (IssO.one isO_int)
      generalize upd K1 p2 (.lst [V.int 3]) = K2 at i2 s2 h2 ⊢
      refine fun p3 n3 z3 => ?_
      obtain ⟨i3, s3, h3⟩ := iss_dct h2 n3 z3 i2
      generalize upd K2 p3 (.dK []) = K3 at i3 s3 h3 ⊢
      have i4 := iss_int (10 ^ Int.toNat 39) i3
      refine ⟨_, _, rfl, rfl, ⟨by decide, by decide, by decide⟩, by show 0 ≤ sizeLine; decide, fun p4 n4 z4 => ?_⟩
      obtain ⟨i5, s5, h5⟩ := iss_tup h3 n4 z4 i4 (IssO.nil (K := K) (A := [a]))
      generalize upd K3 p4 (.tup []) = K4 at i5 s5 h5 ⊢
      have i6 := iss_int (-7) i5
      have sA : Same H K4 := s1.trans (s2.trans (s3.trans s5))
      refine ⟨_, rfl, by show 10 ≤ sizeLine; decide, fun l nl zl => ?_⟩
      have la : l ≠ a := fun z => (tk.keep sA).ne (by rw [← z]; exact nl)
      refine ⟨a, l, _, rfl, (tk.keep sA).keep (same_new nl), .inl (.inl upd_same), la, by show 0 < 10; decide, by show 10 < 1000; decide, fun v H6 hv go6 tk6 => k' _ _ ?_⟩
      obtain ⟨td, hd, io⟩ := IssO.mem i6 hv
      have g6 : Go [a] _ H6 := (Go.new nl).trans (go6 _ mA)
      exact ⟨td, hd, (io.mono g6).full, (Go.of sA).trans g6⟩
    rintro tv H1 ⟨td, htd, dt, g1⟩
    have tD : ThD td := thD_of (things_ok td htd)
    try dsimp only [gName, tSeq, tAsg]
    refine ⟨_, rfl, tv, rfl, fun p l m xs ys H2 s2 ep el em Fx Fy => ?_⟩
    refine ⟨p, [.ref l, .ref m], rfl, .inl (.inl ep), rfl, .ref l, [.ref m], rfl, ?_⟩
    refine ⟨.ref m, [], rfl, rfl, ?_⟩
    clear ep
    replace dt := dt.same s2
    replace g1 : Go [a] H H2 := g1.trans (Go.of s2)
    try dsimp only [gName, tSeq, tAsg]
    have Fz : Fld cs "limit" tv H2 [] [] := .nil
    refine ⟨_, rfl, _, rfl, fun a0 b0 na nb ne => ?_⟩
    obtain ⟨e, s⟩ := ex_new (C := cs.c18) (n := "limit") (y := tv) na nb ne
    replace Fz := Fz.snoc (i := 18) s e rfl
    replace Fx := Fx.same s
    replace Fy := Fy.same s
    replace el := s _ _ el
    replace em := s _ _ em
    replace dt := dt.same s; replace g1 := g1.trans (Go.of s)
    generalize upd (upd H2 b0 (exd b0 [("limit", tv)])) a0 (exo a0 cs.c18 (some b0)) = M0 at Fx Fy el em Fz dt g1 ⊢
    clear e s na nb ne
    refine ⟨_, rfl, _, rfl, fun a1 b1 na nb ne => ?_⟩
    obtain ⟨e, s⟩ := ex_new (C := cs.c18) (n := "limit") (y := tv) na nb ne
    replace Fz := Fz.snoc (i := 18) s e rfl
    replace Fx := Fx.same s
    replace Fy := Fy.same s
    replace el := s _ _ el
    replace em := s _ _ em
    replace dt := dt.same s; replace g1 := g1.trans (Go.of s)
    generalize upd (upd M0 b1 (exd b1 [("limit", tv)])) a1 (exo a1 cs.c18 (some b1)) = M1 at Fx Fy el em Fz dt g1 ⊢
    clear e s na nb ne
    refine ⟨_, rfl, _, rfl, fun a2 b2 na nb ne => ?_⟩
    obtain ⟨e, s⟩ := ex_new (C := cs.c19) (n := "limit") (y := tv) na nb ne
    replace Fz := Fz.snoc (i := 19) s e rfl
    replace Fx := Fx.same s
    replace Fy := Fy.same s
    replace el := s _ _ el
    replace em := s _ _ em
    replace dt := dt.same s; replace g1 := g1.trans (Go.of s)
    generalize upd (upd M1 b2 (exd b2 [("limit", tv)])) a2 (exo a2 cs.c19 (some b2)) = M2 at Fx Fy el em Fz dt g1 ⊢
    clear e s na nb ne
    refine ⟨_, rfl, _, rfl, fun a3 b3 na nb ne => ?_⟩
    obtain ⟨e, s⟩ := ex_new (C := cs.c19) (n := "limit") (y := tv) na nb ne
    replace Fz := Fz.snoc (i := 19) s e rfl
    replace Fx := Fx.same s
    replace Fy := Fy.same s
    replace el := s _ _ el
    replace em := s _ _ em
    replace dt := dt.same s; replace g1 := g1.trans (Go.of s)
    generalize upd (upd M2 b3 (exd b3 [("limit", tv)])) a3 (exo a3 cs.c19 (some b3)) = M3 at Fx Fy el em Fz dt g1 ⊢
    clear e s na nb ne
    refine ⟨by show 4 ≤ sizeLine; decide, fun lz nlz zlz => ?_⟩
    have s : Same M3 (upd M3 lz (.lst [V.ref a0, V.ref a1, V.ref a2, V.ref a3])) := same_new nlz
    have ez : (upd M3 lz (.lst [V.ref a0, V.ref a1, V.ref a2, V.ref a3])) lz = some (.lst [V.ref a0, V.ref a1, V.ref a2, V.ref a3]) := upd_same
    replace Fz := Fz.same s
    replace Fx := Fx.same s
    replace Fy := Fy.same s
    replace el := s _ _ el
    replace em := s _ _ em
    replace dt := dt.same s; replace g1 := g1.trans (Go.of s)
    generalize upd M3 lz (.lst [V.ref a0, V.ref a1, V.ref a2, V.ref a3]) = M4 at Fx Fy el em Fz ez dt g1 ⊢
    clear s nlz zlz
    try dsimp only [gName, tSeq, tAsg]
    have Fs : Exs cs M4 [] [] := .nil
    refine fun d0 nd => ?_
    have s : Same M4 (upd M4 d0 (exo d0 cs.c15 none)) := same_new nd
    replace Fs := Fs.snoc (i := 15) s (a := d0) upd_same rfl
    replace Fx := Fx.same s
    replace Fy := Fy.same s
    replace Fz := Fz.same s
    replace el := s _ _ el
    replace em := s _ _ em
    replace ez := s _ _ ez
    replace dt := dt.same s; replace g1 := g1.trans (Go.of s)
    generalize upd M4 d0 (exo d0 cs.c15 none) = N0 at Fx Fy Fz el em ez Fs dt g1 ⊢
    clear s nd
    refine fun d1 nd => ?_
    have s : Same N0 (upd N0 d1 (exo d1 cs.c16 none)) := same_new nd
    replace Fs := Fs.snoc (i := 16) s (a := d1) upd_same rfl
    replace Fx := Fx.same s
    replace Fy := Fy.same s
    replace Fz := Fz.same s
    replace el := s _ _ el
    replace em := s _ _ em
    replace ez := s _ _ ez
    replace dt := dt.same s; replace g1 := g1.trans (Go.of s)
    generalize upd N0 d1 (exo d1 cs.c16 none) = N1 at Fx Fy Fz el em ez Fs dt g1 ⊢
    clear s nd
    refine fun d2 nd => ?_
    have s : Same N1 (upd N1 d2 (exo d2 cs.c17 none)) := same_new nd
    replace Fs := Fs.snoc (i := 17) s (a := d2) upd_same rfl
    replace Fx := Fx.same s
    replace Fy := Fy.same s
    replace Fz := Fz.same s
    replace el := s _ _ el
    replace em := s _ _ em
    replace ez := s _ _ ez
    replace dt := dt.same s; replace g1 := g1.trans (Go.of s)
    generalize upd N1 d2 (exo d2 cs.c17 none) = N2 at Fx Fy Fz el em ez Fs dt g1 ⊢
    clear s nd
    refine ⟨by show 3 ≤ sizeLine; decide, fun lt nlt zlt => ?_⟩
    have s : Same N2 (upd N2 lt (.lst [V.ref d0, V.ref d1, V.ref d2])) := same_new nlt
    have et : (upd N2 lt (.lst [V.ref d0, V.ref d1, V.ref d2])) lt = some (.lst [V.ref d0, V.ref d1, V.ref d2]) := upd_same
    replace Fx := Fx.same s
    replace Fy := Fy.same s
    replace Fz := Fz.same s
    replace Fs := Fs.same s
    replace el := s _ _ el
    replace em := s _ _ em
    replace ez := s _ _ ez
    replace dt := dt.same s; replace g1 := g1.trans (Go.of s)
    generalize upd N2 lt (.lst [V.ref d0, V.ref d1, V.ref d2]) = N3 at Fx Fy Fz Fs el em ez et dt g1 ⊢
    clear s nlt zlt
    try dsimp only [gName, tSeq, tAsg]
    refine ⟨_, rfl, l, rfl, ⟨_, .inl (.inl el)⟩, fun D0 nD0 => ?_⟩
    refine lc_list (K := K) (a := l) (xs := xs) (fun i H4 => Same N3 H4 ∧ H4 D0 = some (.lst (List.replicate i tv))) ⟨same_new nD0, upd_same⟩ (fun i H4 _ ⟨s4, _⟩ => .inl (.inl (s4 _ _ el))) ?_ ?_
    · rintro i x H4 hi ⟨s4, eD⟩
      obtain ⟨j, hj, hm⟩ := Fx.lt hi
      obtain ⟨ax, C, rfl, hC, ex⟩ := Fx.all i x j hi hj
      have jr : 0 ≤ j ∧ j < 10 := by
        have all : ∀ z ∈ (([0, 1, 2, 3] ++ [4, 5, 6, 7] ++ [8, 9] ++ ([0, 1, 2] ++ [3, 4, 5] ++ [6, 7, 8] ++ [9])) : List Nat), 0 ≤ z ∧ z < 10 := by decide
        exact all j hm
      have il : i < 20 := by
        have z := (List.getElem?_eq_some_iff.mp hi).1
        exact Nat.lt_of_lt_of_eq z (show List.length xs = 20 from Fx.len)
      refine ⟨rfl, _, rfl, ax, C, tv, rfl, ex.same s4, T.xf j C hC, no_val T j C jr.1 jr.2 hC, _, eD, ?_, fun b o e => ?_, ?_⟩
      · rw [List.length_replicate]; exact small1000 (by omega)
      · rw [upd_ne (ne_of_none e nD0)]; exact s4 _ _ e
      · rw [upd_same, List.replicate_succ']
    rintro H0c ⟨s, eD0⟩
    have ln0 : List.length xs = 20 := Fx.len
    rw [ln0] at eD0
    replace Fx := Fx.same s
    replace Fy := Fy.same s
    replace Fz := Fz.same s
    replace Fs := Fs.same s
    replace el := s _ _ el
    replace em := s _ _ em
    replace ez := s _ _ ez
    replace et := s _ _ et
    replace dt := dt.same s; replace g1 := g1.trans (Go.of s)
    clear nD0
    clear s
    refine ⟨_, rfl, m, rfl, ⟨_, .inl (.inl em)⟩, fun D1 nD1 => ?_⟩
    refine lc_list (K := K) (a := m) (xs := ys) (fun i H4 => Same H0c H4 ∧ H4 D1 = some (.lst (List.replicate i tv))) ⟨same_new nD1, upd_same⟩ (fun i H4 _ ⟨s4, _⟩ => .inl (.inl (s4 _ _ em))) ?_ ?_
    · rintro i x H4 hi ⟨s4, eD⟩
      obtain ⟨j, hj, hm⟩ := Fy.lt hi
      obtain ⟨ax, C, rfl, hC, ex⟩ := Fy.all i x j hi hj
      have jr : 10 ≤ j ∧ j < 15 := by
        have all : ∀ z ∈ (([10, 11, 12, 13] ++ [14] ++ ([10, 11, 12] ++ [13, 14])) : List Nat), 10 ≤ z ∧ z < 15 := by decide
        exact all j hm
      have il : i < 10 := by
        have z := (List.getElem?_eq_some_iff.mp hi).1
        exact Nat.lt_of_lt_of_eq z (show List.length ys = 10 from Fy.len)
      refine ⟨rfl, _, rfl, ax, C, tv, rfl, ex.same s4, T.xf j C hC, no_idx T j C jr.1 jr.2 hC, _, eD, ?_, fun b o e => ?_, ?_⟩
      · rw [List.length_replicate]; exact small1000 (by omega)
      · rw [upd_ne (ne_of_none e nD1)]; exact s4 _ _ e
      · rw [upd_same, List.replicate_succ']
    rintro H1c ⟨s, eD1⟩
    have ln1 : List.length ys = 10 := Fy.len
    rw [ln1] at eD1
    replace Fx := Fx.same s
    replace Fy := Fy.same s
    replace Fz := Fz.same s
    replace Fs := Fs.same s
    replace el := s _ _ el
    replace em := s _ _ em
    replace ez := s _ _ ez
    replace et := s _ _ et
    replace eD0 := s _ _ eD0
    replace dt := dt.same s; replace g1 := g1.trans (Go.of s)
    clear nD1
    clear s
    refine ⟨D0, D1, _, _, rfl, rfl, eD0, eD1, by show 20 + 10 ≤ sizeLine; decide, fun qc nqc => ?_⟩
    have s : Same H1c (upd H1c qc (.lst (List.replicate 20 tv ++ List.replicate 10 tv))) := same_new nqc
    have ec : (upd H1c qc (.lst (List.replicate 20 tv ++ List.replicate 10 tv))) qc = some (.lst (List.replicate 20 tv ++ List.replicate 10 tv)) := upd_same
    clear eD0 eD1
    replace Fx := Fx.same s
    replace Fy := Fy.same s
    replace Fz := Fz.same s
    replace Fs := Fs.same s
    replace el := s _ _ el
    replace em := s _ _ em
    replace ez := s _ _ ez
    replace et := s _ _ et
    replace dt := dt.same s; replace g1 := g1.trans (Go.of s)
    generalize upd H1c qc (.lst (List.replicate 20 tv ++ List.replicate 10 tv)) = Mc at Fx Fy Fz Fs el em ez et ec dt g1 ⊢
    clear s nqc
    refine ⟨_, rfl, lz, rfl, ⟨_, .inl (.inl ez)⟩, fun D2 nD2 => ?_⟩
    refine lc_list (K := K) (a := lz) (xs := [V.ref a0, V.ref a1, V.ref a2, V.ref a3]) (fun i H4 => Same Mc H4 ∧ H4 D2 = some (.lst (List.replicate i tv))) ⟨same_new nD2, upd_same⟩ (fun i H4 _ ⟨s4, _⟩ => .inl (.inl (s4 _ _ ez))) ?_ ?_
    · rintro i x H4 hi ⟨s4, eD⟩
      obtain ⟨j, hj, hm⟩ := Fz.lt hi
      obtain ⟨ax, C, rfl, hC, ex⟩ := Fz.all i x j hi hj
      have jr : 18 ≤ j ∧ j < 20 := by
        have all : ∀ z ∈ ([18, 18, 19, 19] : List Nat), 18 ≤ z ∧ z < 20 := by decide
        exact all j hm
      have il : i < 4 := by
        have z := (List.getElem?_eq_some_iff.mp hi).1
        exact Nat.lt_of_lt_of_eq z (show List.length [V.ref a0, V.ref a1, V.ref a2, V.ref a3] = 4 from Fz.len)
      refine ⟨rfl, _, rfl, ax, C, tv, rfl, ex.same s4, T.xf j C hC, no_lim T j C jr.1 jr.2 hC, _, eD, ?_, fun b o e => ?_, ?_⟩
      · rw [List.length_replicate]; exact small1000 (by omega)
      · rw [upd_ne (ne_of_none e nD2)]; exact s4 _ _ e
      · rw [upd_same, List.replicate_succ']
    rintro H2c ⟨s, eD2⟩
    have ln2 : List.length [V.ref a0, V.ref a1, V.ref a2, V.ref a3] = 4 := Fz.len
    rw [ln2] at eD2
    replace Fx := Fx.same s
    replace Fy := Fy.same s
    replace Fz := Fz.same s
    replace Fs := Fs.same s
    replace el := s _ _ el
    replace em := s _ _ em
    replace ez := s _ _ ez
    replace et := s _ _ et
    replace ec := s _ _ ec
    replace dt := dt.same s; replace g1 := g1.trans (Go.of s)
    clear nD2
    clear s
    refine ⟨qc, D2, _, _, rfl, rfl, ec, eD2, by show 30 + 4 ≤ sizeLine; decide, fun qk nqk zqk => ?_⟩
    have s : Same H2c (upd H2c qk (.lst ((List.replicate 20 tv ++ List.replicate 10 tv) ++ List.replicate 4 tv))) := same_new nqk
    have ek : (upd H2c qk (.lst ((List.replicate 20 tv ++ List.replicate 10 tv) ++ List.replicate 4 tv))) qk = some (.lst ((List.replicate 20 tv ++ List.replicate 10 tv) ++ List.replicate 4 tv)) := upd_same
    clear ec eD2
    replace Fx := Fx.same s
    replace Fy := Fy.same s
    replace Fz := Fz.same s
    replace Fs := Fs.same s
    replace el := s _ _ el
    replace em := s _ _ em
    replace ez := s _ _ ez
    replace et := s _ _ et
    replace dt := dt.same s; replace g1 := g1.trans (Go.of s)
    generalize upd H2c qk (.lst ((List.replicate 20 tv ++ List.replicate 10 tv) ++ List.replicate 4 tv)) = Mk at Fx Fy Fz Fs el em ez et ek dt g1 ⊢
    clear s nqk
    try dsimp only [gName, tSeq, tAsg]
    obtain ⟨ok1, ok2, ok3⟩ := rep_ok tD
    have RE : ((List.replicate 20 tv ++ List.replicate 10 tv) ++ List.replicate 4 tv) = List.replicate 34 tv := rfl
    rw [RE] at ek
    have dK : DO K Mk (.ref qk) (.list (List.replicate 34 td)) := DO.list (.inl (.inl ek)) zqk (dos_rep dt 34)
    refine ⟨_, rfl, qk, _, rfl, .inl dK, ok1, ok2, ok3, ?_⟩
    refine ⟨_, rfl, by show 1 ≤ sizeLine; decide, fun r1 nr1 zr1 => ?_⟩
    have s : Same Mk (upd Mk r1 (.lst [tv])) := same_new nr1
    have er1 : (upd Mk r1 (.lst [tv])) r1 = some (.lst [tv]) := upd_same
    replace Fx := Fx.same s
    replace Fy := Fy.same s
    replace Fz := Fz.same s
    replace Fs := Fs.same s
    replace el := s _ _ el
    replace em := s _ _ em
    replace ez := s _ _ ez
    replace et := s _ _ et
    replace ek := s _ _ ek
    replace dt := dt.same s; replace g1 := g1.trans (Go.of s)
    generalize upd Mk r1 (.lst [tv]) = Mr at Fx Fy Fz Fs el em ez et ek er1 dt g1 ⊢
    clear s nr1
    refine ⟨_, rfl, qk, _, rfl, .inl (.inl (.inl ek)), r1, 34, tv, rfl, rfl, er1, by decide, fun r2 nr2 zr2 => ?_⟩
    have s : Same Mr (upd Mr r2 (.lst (List.replicate 34 tv))) := same_new nr2
    have er2 : (upd Mr r2 (.lst (List.replicate 34 tv))) r2 = some (.lst (List.replicate 34 tv)) := upd_same
    replace Fx := Fx.same s
    replace Fy := Fy.same s
    replace Fz := Fz.same s
    replace Fs := Fs.same s
    replace el := s _ _ el
    replace em := s _ _ em
    replace ez := s _ _ ez
    replace et := s _ _ et
    replace ek := s _ _ ek
    replace dt := dt.same s; replace g1 := g1.trans (Go.of s)
    generalize upd Mr r2 (.lst (List.replicate 34 tv)) = Ms at Fx Fy Fz Fs el em ez et ek er2 dt g1 ⊢
    clear s nr2 dK er1
    have dR : DO K Ms (.ref r2) (.list (List.replicate 34 td)) := DO.list (.inl (.inl er2)) zr2 (dos_rep dt 34)
    refine ⟨r2, _, rfl, .inl dR, ok1, ok2, ok3, rfl, _, rfl, ite2 (fun e => ?_) (fun _ => ?_)⟩
    · simp at e
    have lx : xs.length = 20 := Fx.len
    have ly : ys.length = 10 := Fy.len
    refine ⟨_, rfl, l, _, rfl, .inl (.inl (.inl el)), rfl, _, rfl, ite2 (fun e => ?_) (fun _ => ?_)⟩
    · rw [lx] at e; simp at e
    refine ⟨_, rfl, m, _, rfl, .inl (.inl (.inl em)), rfl, _, rfl, ?_⟩
    rw [ly]
    refine ite2 (fun e => by simp at e) (fun _ => ?_)
    clear dR er2 zr2 ek zqk
    try dsimp only [gName, tSeq, tAsg, tNext]
    refine ⟨_, rfl, _, rfl, l, m, _, _, rfl, rfl, el, em, by rw [lx, ly, sizeLine_eq]; decide, fun qa nqa => ?_⟩
    have s : Same Ms (upd Ms qa (.lst (xs ++ ys))) := same_new nqa
    have eal : (upd Ms qa (.lst (xs ++ ys))) qa = some (.lst (xs ++ ys)) := upd_same
    replace Fx := Fx.same s
    replace Fy := Fy.same s
    replace Fz := Fz.same s
    replace Fs := Fs.same s
    replace el := s _ _ el
    replace em := s _ _ em
    replace ez := s _ _ ez
    replace et := s _ _ et
    replace dt := dt.same s; replace g1 := g1.trans (Go.of s)
    generalize upd Ms qa (.lst (xs ++ ys)) = Ma at Fx Fy Fz Fs el em ez et eal dt g1 ⊢
    clear s nqa
    have Ea := Fx.exs.app Fy.exs
    refine ⟨qa, rfl, ⟨_, .inl (.inl eal)⟩, fun Da nDa => ?_⟩
    refine lc_list (K := K) (a := qa) (xs := xs ++ ys) (fun i H4 => Same Ma H4 ∧ H4 Da = some (.lst (List.replicate i (V.bl true)))) ⟨same_new nDa, upd_same⟩ (fun i H4 _ ⟨s4, _⟩ => .inl (.inl (s4 _ _ eal))) ?_ ?_
    · rintro i x H4 hi ⟨s4, eD⟩
      obtain ⟨j, hj, hm⟩ := Ea.lt hi
      obtain ⟨ax, C, rfl, hC, kd⟩ := Ea.all i x j hi hj
      have il : i < 30 := by
        have z := (List.getElem?_eq_some_iff.mp hi).1
        exact Nat.lt_of_lt_of_eq z (show List.length (xs ++ ys) = 30 from Ea.len)
      have jr : 0 ≤ j ∧ j < 15 := by
        have all : ∀ z ∈ ((([0, 1, 2, 3] ++ [4, 5, 6, 7] ++ [8, 9] ++ ([0, 1, 2] ++ [3, 4, 5] ++ [6, 7, 8] ++ [9])) ++ ([10, 11, 12, 13] ++ [14] ++ ([10, 11, 12] ++ [13, 14]))) : List Nat), 0 ≤ z ∧ z < 15 := by decide
        exact all j hm
      refine ⟨rfl, _, rfl, ax, C, j, rfl, hC, KindAt.same s4 kd, fun p1 H5 s5 ep => ?_⟩
      refine ⟨by show 6 ≤ sizeLine; decide, fun p2 n2 z2 => ?_⟩
      rw [kind_I j jr.2] at ep
      refine ⟨.list (([true, false, false, true, false, false] : List Bool).map PyData.bool), .list (([true, false, false, true, false, false] : List Bool).map PyData.bool), dp_bools _ (same_new n2 _ _ ep), dp_bools [true, false, false, true, false, false] upd_same, by decide +kernel, by decide +kernel, ?_⟩
      have eq : PyData.eqv (.list (([true, false, false, true, false, false] : List Bool).map PyData.bool)) (.list (([true, false, false, true, false, false] : List Bool).map PyData.bool)) = true := by decide +kernel
      rw [eq]
      refine ⟨_, same_new n2 _ _ (s5 _ _ eD), ?_, fun b o e => ?_, ?_⟩
      · rw [List.length_replicate]; exact small1000 (by omega)
      · rw [upd_ne (ne_of_none e nDa)]; exact same_new n2 _ _ (s5 _ _ (s4 _ _ e))
      · rw [upd_same, List.replicate_succ']
    rintro Hac ⟨s, eDa⟩
    rw [show List.length (xs ++ ys) = 30 from Ea.len] at eDa
    clear nDa
    replace Fx := Fx.same s
    replace Fy := Fy.same s
    replace Fz := Fz.same s
    replace Fs := Fs.same s
    replace el := s _ _ el
    replace em := s _ _ em
    replace ez := s _ _ ez
    replace et := s _ _ et
    replace dt := dt.same s; replace g1 := g1.trans (Go.of s)
    clear s Ea eal
    refine ⟨Da, List.replicate 30 true, rfl, .inl (.inl (by rw [List.map_replicate]; exact eDa)), ?_⟩
    rw [show (List.replicate 30 true).all id = true from by simp]
    refine ⟨_, rfl, ite2 (fun e => by simp at e) (fun _ => ?_)⟩
    clear eDa
    try dsimp only [gName, tSeq, tAsg, tNext]
    have ebl := et
    refine ⟨_, rfl, lt, rfl, ⟨_, .inl (.inl et)⟩, fun Db nDb => ?_⟩
    refine lc_list (K := K) (a := lt) (xs := [V.ref d0, V.ref d1, V.ref d2]) (fun i H4 => Same Hac H4 ∧ H4 Db = some (.lst (List.replicate i (V.bl true)))) ⟨same_new nDb, upd_same⟩ (fun i H4 _ ⟨s4, _⟩ => .inl (.inl (s4 _ _ ebl))) ?_ ?_
    · rintro i x H4 hi ⟨s4, eD⟩
      obtain ⟨j, hj, hm⟩ := Fs.lt hi
      obtain ⟨ax, C, rfl, hC, kd⟩ := Fs.all i x j hi hj
      have il : i < 3 := by
        have z := (List.getElem?_eq_some_iff.mp hi).1
        exact Nat.lt_of_lt_of_eq z (show List.length ([V.ref d0, V.ref d1, V.ref d2]) = 3 from Fs.len)
      have jr : 15 ≤ j ∧ j < 18 := by
        have all : ∀ z ∈ ([15, 16, 17] : List Nat), 15 ≤ z ∧ z < 18 := by decide
        exact all j hm
      refine ⟨rfl, _, rfl, ax, C, j, rfl, hC, KindAt.same s4 kd, fun p1 H5 s5 ep => ?_⟩
      refine ⟨by show 6 ≤ sizeLine; decide, fun p2 n2 z2 => ?_⟩
      rw [kind_S j jr.1 jr.2] at ep
      refine ⟨.list (([false, true, false, false, true, false] : List Bool).map PyData.bool), .list (([false, true, false, false, true, false] : List Bool).map PyData.bool), dp_bools _ (same_new n2 _ _ ep), dp_bools [false, true, false, false, true, false] upd_same, by decide +kernel, by decide +kernel, ?_⟩
      have eq : PyData.eqv (.list (([false, true, false, false, true, false] : List Bool).map PyData.bool)) (.list (([false, true, false, false, true, false] : List Bool).map PyData.bool)) = true := by decide +kernel
      rw [eq]
      refine ⟨_, same_new n2 _ _ (s5 _ _ eD), ?_, fun b o e => ?_, ?_⟩
      · rw [List.length_replicate]; exact small1000 (by omega)
      · rw [upd_ne (ne_of_none e nDb)]; exact same_new n2 _ _ (s5 _ _ (s4 _ _ e))
      · rw [upd_same, List.replicate_succ']
    rintro Hbc ⟨s, eDb⟩
    rw [show List.length ([V.ref d0, V.ref d1, V.ref d2]) = 3 from Fs.len] at eDb
    clear nDb
    replace Fx := Fx.same s
    replace Fy := Fy.same s
    replace Fz := Fz.same s
    replace Fs := Fs.same s
    replace el := s _ _ el
    replace em := s _ _ em
    replace ez := s _ _ ez
    replace et := s _ _ et
    replace dt := dt.same s; replace g1 := g1.trans (Go.of s)
    clear s ebl
    refine ⟨Db, List.replicate 3 true, rfl, .inl (.inl (by rw [List.map_replicate]; exact eDb)), ?_⟩
    rw [show (List.replicate 3 true).all id = true from by simp]
    refine ⟨_, rfl, ite2 (fun e => by simp at e) (fun _ => ?_)⟩
    clear eDb
    try dsimp only [gName, tSeq, tAsg, tNext]
    have Ez := Fz.exs
    have edl := ez
    refine ⟨_, rfl, lz, rfl, ⟨_, .inl (.inl ez)⟩, fun Dd nDd => ?_⟩
    refine lc_list (K := K) (a := lz) (xs := [V.ref a0, V.ref a1, V.ref a2, V.ref a3]) (fun i H4 => Same Hbc H4 ∧ H4 Dd = some (.lst (List.replicate i (V.bl true)))) ⟨same_new nDd, upd_same⟩ (fun i H4 _ ⟨s4, _⟩ => .inl (.inl (s4 _ _ edl))) ?_ ?_
    · rintro i x H4 hi ⟨s4, eD⟩
      obtain ⟨j, hj, hm⟩ := Ez.lt hi
      obtain ⟨ax, C, rfl, hC, kd⟩ := Ez.all i x j hi hj
      have il : i < 4 := by
        have z := (List.getElem?_eq_some_iff.mp hi).1
        exact Nat.lt_of_lt_of_eq z (show List.length ([V.ref a0, V.ref a1, V.ref a2, V.ref a3]) = 4 from Ez.len)
      have jr : 18 ≤ j ∧ j < 20 := by
        have all : ∀ z ∈ ([18, 18, 19, 19] : List Nat), 18 ≤ z ∧ z < 20 := by decide
        exact all j hm
      refine ⟨rfl, _, rfl, ax, C, j, rfl, hC, KindAt.same s4 kd, fun p1 H5 s5 ep => ?_⟩
      refine ⟨by show 6 ≤ sizeLine; decide, fun p2 n2 z2 => ?_⟩
      rw [kind_L j jr.1 jr.2] at ep
      refine ⟨.list (([false, false, true, false, false, true] : List Bool).map PyData.bool), .list (([false, false, true, false, false, true] : List Bool).map PyData.bool), dp_bools _ (same_new n2 _ _ ep), dp_bools [false, false, true, false, false, true] upd_same, by decide +kernel, by decide +kernel, ?_⟩
      have eq : PyData.eqv (.list (([false, false, true, false, false, true] : List Bool).map PyData.bool)) (.list (([false, false, true, false, false, true] : List Bool).map PyData.bool)) = true := by decide +kernel
      rw [eq]
      refine ⟨_, same_new n2 _ _ (s5 _ _ eD), ?_, fun b o e => ?_, ?_⟩
      · rw [List.length_replicate]; exact small1000 (by omega)
      · rw [upd_ne (ne_of_none e nDd)]; exact same_new n2 _ _ (s5 _ _ (s4 _ _ e))
      · rw [upd_same, List.replicate_succ']
    rintro Hdc ⟨s, eDd⟩
    rw [show List.length ([V.ref a0, V.ref a1, V.ref a2, V.ref a3]) = 4 from Ez.len] at eDd
    clear nDd
    replace Fx := Fx.same s
    replace Fy := Fy.same s
    replace Fz := Fz.same s
    replace Fs := Fs.same s
    replace el := s _ _ el
    replace em := s _ _ em
    replace ez := s _ _ ez
    replace et := s _ _ et
    replace dt := dt.same s; replace g1 := g1.trans (Go.of s)
    clear s edl Ez
    refine ⟨Dd, List.replicate 4 true, rfl, .inl (.inl (by rw [List.map_replicate]; exact eDd)), ?_⟩
    rw [show (List.replicate 4 true).all id = true from by simp]
    refine ⟨_, rfl, ite2 (fun e => by simp at e) (fun _ => ?_)⟩
    clear eDd
    try dsimp only [gName, tSeq, tAsg, tNext]
    refine ⟨by show 5 ≤ sizeLine; decide, fun u1 nu1 zu1 => ?_⟩
    have s : Same Hdc (upd Hdc u1 (.lst [V.int 6, V.int 12, V.int 8, V.int 12, V.int (10 ^ 18)])) := same_new nu1
    have eu1 : (upd Hdc u1 (.lst [V.int 6, V.int 12, V.int 8, V.int 12, V.int (10 ^ 18)])) u1 = some (.lst [V.int 6, V.int 12, V.int 8, V.int 12, V.int (10 ^ 18)]) := upd_same
    replace Fx := Fx.same s
    replace Fy := Fy.same s
    replace Fz := Fz.same s
    replace Fs := Fs.same s
    replace el := s _ _ el
    replace em := s _ _ em
    replace ez := s _ _ ez
    replace et := s _ _ et
    replace dt := dt.same s; replace g1 := g1.trans (Go.of s)
    generalize upd Hdc u1 (.lst [V.int 6, V.int 12, V.int 8, V.int 12, V.int (10 ^ 18)]) = Up at Fx Fy Fz Fs el em ez et eu1 dt g1 ⊢
    clear s nu1 zu1
    refine ⟨_, _, rfl, rfl, ⟨by decide, by decide, by decide⟩, by show 5 ≤ sizeLine; decide, fun u2 nu2 zu2 => ?_⟩
    have s : Same Up (upd Up u2 (.lst [V.int 6, V.int 12, V.int 8, V.int 12, V.int (10 ^ Int.toNat 18)])) := same_new nu2
    have eu2 : (upd Up u2 (.lst [V.int 6, V.int 12, V.int 8, V.int 12, V.int (10 ^ Int.toNat 18)])) u2 = some (.lst [V.int 6, V.int 12, V.int 8, V.int 12, V.int (10 ^ Int.toNat 18)]) := upd_same
    replace eu1 := s _ _ eu1
    replace Fx := Fx.same s
    replace Fy := Fy.same s
    replace Fz := Fz.same s
    replace Fs := Fs.same s
    replace el := s _ _ el
    replace em := s _ _ em
    replace ez := s _ _ ez
    replace et := s _ _ et
    replace dt := dt.same s; replace g1 := g1.trans (Go.of s)
    generalize upd Up u2 (.lst [V.int 6, V.int 12, V.int 8, V.int 12, V.int (10 ^ Int.toNat 18)]) = Wp at Fx Fy Fz Fs el em ez et eu1 eu2 dt g1 ⊢
    clear s nu2 zu2
    refine ⟨.list [.int 6, .int 12, .int 8, .int 12, .int (10 ^ 18)], .list [.int 6, .int 12, .int 8, .int 12, .int (10 ^ Int.toNat 18)], .lst (.inl (.inl eu1)) (.cons (.int _) (.cons (.int _) (.cons (.int _) (.cons (.int _) (.cons (.int _) (.nil)))))), .lst (.inl (.inl eu2)) (.cons (.int _) (.cons (.int _) (.cons (.int _) (.cons (.int _) (.cons (.int _) (.nil)))))), by decide +kernel, by decide +kernel, ?_⟩
    have eq : PyData.eqv (.list [.int 6, .int 12, .int 8, .int 12, .int (10 ^ 18)]) (.list [.int 6, .int 12, .int 8, .int 12, .int (10 ^ Int.toNat 18)]) = true := by decide +kernel
    rw [eq]
    refine ⟨_, rfl, ite2 (fun e => by simp at e) (fun _ => ?_)⟩
    clear eu1 eu2 eq
    try dsimp only [gName, tSeq, tAsg, tNext]
    refine ⟨by show 2 ≤ sizeLine; decide, fun u1 nu1 zu1 => ?_⟩
    have s : Same Wp (upd Wp u1 (.lst [V.int 200, V.int 10])) := same_new nu1
    have eu1 : (upd Wp u1 (.lst [V.int 200, V.int 10])) u1 = some (.lst [V.int 200, V.int 10]) := upd_same
    replace Fx := Fx.same s
    replace Fy := Fy.same s
    replace Fz := Fz.same s
    replace Fs := Fs.same s
    replace el := s _ _ el
    replace em := s _ _ em
    replace ez := s _ _ ez
    replace et := s _ _ et
    replace dt := dt.same s; replace g1 := g1.trans (Go.of s)
    generalize upd Wp u1 (.lst [V.int 200, V.int 10]) = Uq at Fx Fy Fz Fs el em ez et eu1 dt g1 ⊢
    clear s nu1 zu1
    refine ⟨by show 2 ≤ sizeLine; decide, fun u2 nu2 zu2 => ?_⟩
    have s : Same Uq (upd Uq u2 (.lst [V.int 200, V.int 10])) := same_new nu2
    have eu2 : (upd Uq u2 (.lst [V.int 200, V.int 10])) u2 = some (.lst [V.int 200, V.int 10]) := upd_same
    replace eu1 := s _ _ eu1
    replace Fx := Fx.same s
    replace Fy := Fy.same s
    replace Fz := Fz.same s
    replace Fs := Fs.same s
    replace el := s _ _ el
    replace em := s _ _ em
    replace ez := s _ _ ez
    replace et := s _ _ et
    replace dt := dt.same s; replace g1 := g1.trans (Go.of s)
    generalize upd Uq u2 (.lst [V.int 200, V.int 10]) = Wq at Fx Fy Fz Fs el em ez et eu1 eu2 dt g1 ⊢
    clear s nu2 zu2
    refine ⟨.list [.int 200, .int 10], .list [.int 200, .int 10], .lst (.inl (.inl eu1)) (.cons (.int _) (.cons (.int _) (.nil))), .lst (.inl (.inl eu2)) (.cons (.int _) (.cons (.int _) (.nil))), by decide +kernel, by decide +kernel, ?_⟩
    have eq : PyData.eqv (.list [.int 200, .int 10]) (.list [.int 200, .int 10]) = true := by decide +kernel
    rw [eq]
    refine ⟨_, rfl, ite2 (fun e => by simp at e) (fun _ => ?_)⟩
    clear eu1 eu2 eq
    try dsimp only [gName, tSeq, tAsg, tNext]
    refine ⟨_, rfl, _, rfl, l, m, _, _, rfl, rfl, el, em, by rw [sizeLine_eq]; simp [lx, ly], fun v1 nv1 => ?_⟩
    have s : Same Wq (upd Wq v1 (.lst (xs ++ ys))) := same_new nv1
    have ev1 : (upd Wq v1 (.lst (xs ++ ys))) v1 = some (.lst (xs ++ ys)) := upd_same
    replace Fx := Fx.same s
    replace Fy := Fy.same s
    replace Fz := Fz.same s
    replace Fs := Fs.same s
    replace el := s _ _ el
    replace em := s _ _ em
    replace ez := s _ _ ez
    replace et := s _ _ et
    replace dt := dt.same s; replace g1 := g1.trans (Go.of s)
    generalize upd Wq v1 (.lst (xs ++ ys)) = X1 at Fx Fy Fz Fs el em ez et ev1 dt g1 ⊢
    clear s nv1
    refine ⟨_, rfl, v1, lz, _, _, rfl, rfl, ev1, ez, by rw [sizeLine_eq]; simp [lx, ly], fun v2 nv2 => ?_⟩
    have s : Same X1 (upd X1 v2 (.lst ((xs ++ ys) ++ [V.ref a0, V.ref a1, V.ref a2, V.ref a3]))) := same_new nv2
    have ev2 : (upd X1 v2 (.lst ((xs ++ ys) ++ [V.ref a0, V.ref a1, V.ref a2, V.ref a3]))) v2 = some (.lst ((xs ++ ys) ++ [V.ref a0, V.ref a1, V.ref a2, V.ref a3])) := upd_same
    replace Fx := Fx.same s
    replace Fy := Fy.same s
    replace Fz := Fz.same s
    replace Fs := Fs.same s
    replace el := s _ _ el
    replace em := s _ _ em
    replace ez := s _ _ ez
    replace et := s _ _ et
    replace dt := dt.same s; replace g1 := g1.trans (Go.of s)
    generalize upd X1 v2 (.lst ((xs ++ ys) ++ [V.ref a0, V.ref a1, V.ref a2, V.ref a3])) = X2 at Fx Fy Fz Fs el em ez et ev2 dt g1 ⊢
    clear s nv2
    refine ⟨_, rfl, v2, lt, _, _, rfl, rfl, ev2, et, by rw [sizeLine_eq]; simp [lx, ly], fun v3 nv3 => ?_⟩
    have s : Same X2 (upd X2 v3 (.lst (((xs ++ ys) ++ [V.ref a0, V.ref a1, V.ref a2, V.ref a3]) ++ [V.ref d0, V.ref d1, V.ref d2]))) := same_new nv3
    have ev3 : (upd X2 v3 (.lst (((xs ++ ys) ++ [V.ref a0, V.ref a1, V.ref a2, V.ref a3]) ++ [V.ref d0, V.ref d1, V.ref d2]))) v3 = some (.lst (((xs ++ ys) ++ [V.ref a0, V.ref a1, V.ref a2, V.ref a3]) ++ [V.ref d0, V.ref d1, V.ref d2])) := upd_same
    replace Fx := Fx.same s
    replace Fy := Fy.same s
    replace Fz := Fz.same s
    replace Fs := Fs.same s
    replace el := s _ _ el
    replace em := s _ _ em
    replace ez := s _ _ ez
    replace et := s _ _ et
    replace dt := dt.same s; replace g1 := g1.trans (Go.of s)
    generalize upd X2 v3 (.lst (((xs ++ ys) ++ [V.ref a0, V.ref a1, V.ref a2, V.ref a3]) ++ [V.ref d0, V.ref d1, V.ref d2])) = X3 at Fx Fy Fz Fs el em ez et ev3 dt g1 ⊢
    clear s nv3
    have Ev := ((Fx.exs.app Fy.exs).app Fz.exs).app Fs
    have evl := ev3
    refine ⟨v3, rfl, ⟨_, .inl (.inl ev3)⟩, fun Dv nDv => ?_⟩
    refine lc_list (K := K) (a := v3) (xs := (((xs ++ ys) ++ [V.ref a0, V.ref a1, V.ref a2, V.ref a3]) ++ [V.ref d0, V.ref d1, V.ref d2])) (fun i H4 => Same X3 H4 ∧ H4 Dv = some (.lst (List.replicate i (V.bl true)))) ⟨same_new nDv, upd_same⟩ (fun i H4 _ ⟨s4, _⟩ => .inl (.inl (s4 _ _ evl))) ?_ ?_
    · rintro i x H4 hi ⟨s4, eD⟩
      obtain ⟨j, hj, hm⟩ := Ev.lt hi
      obtain ⟨ax, C, rfl, hC, kd⟩ := Ev.all i x j hi hj
      have il : i < 37 := by
        have z := (List.getElem?_eq_some_iff.mp hi).1
        exact Nat.lt_of_lt_of_eq z (show List.length ((((xs ++ ys) ++ [V.ref a0, V.ref a1, V.ref a2, V.ref a3]) ++ [V.ref d0, V.ref d1, V.ref d2])) = 37 from Ev.len)
      refine ⟨rfl, _, rfl, ax, C, j, rfl, hC, KindAt.same s4 kd, fun H5 s5 => ⟨rfl, ?_⟩⟩
      refine ⟨_, s5 _ _ eD, ?_, fun b o e => ?_, ?_⟩
      · rw [List.length_replicate]; exact small1000 (by omega)
      · rw [upd_ne (ne_of_none e nDv)]; exact s5 _ _ (s4 _ _ e)
      · rw [upd_same, List.replicate_succ']
        simp
    rintro Hvc ⟨s, eDv⟩
    rw [show List.length ((((xs ++ ys) ++ [V.ref a0, V.ref a1, V.ref a2, V.ref a3]) ++ [V.ref d0, V.ref d1, V.ref d2])) = 37 from Ev.len] at eDv
    clear nDv
    refine ⟨Dv, List.replicate 37 true, rfl, .inl (.inl (by rw [List.map_replicate]; exact eDv)), ?_⟩
    rw [show (List.replicate 37 true).all id = true from by simp]
    exact k _ (g1.trans (Go.of s))
end

end LW

set_option Elab.async false
set_option linter.all false
set_option maxRecDepth 100000
set_option maxHeartbeats 4000100
set_option exponentiation.threshold 9000
namespace LW
open PySem PySem.Spec PyProof.Rows L2 StX
local macro_rules | `(tactic| walk_at "len") => `(tactic| skip)
/-! ### the law's own def -/
section
variable {P : Program} {w : World} {K : PySem.W.Frag} {mg : Str → Option Value} {base : Heap} {c : Addr}
def sp_law (K : PySem.W.Frag) : Sp := fun vs H Q _ => ∃ (a : Addr) (ns : List Int), vs = [.ref a] ∧ SqL K H a (ns.map V.int) ∧ ns.length ≤ 63 ∧ ∀ H', Q (.bl true) H'
theorem ok_law {f : Addr} {fd : FuncData} (B : Bl mg) (F : Fun K "law" "law" s_law f fd) (C__law_tank : Cal P w K mg base 1 "_law_tank" (sp__law_tank K c) []) (C__law_right : CalG P w K mg base 14 "_law_right" (sp__law_right K c) []) :
    FnG P w K mg base CX0 15 f fd ["_law_script"] (sp_law K) := by
  refine Fun_okG F sc_law (fun vs H Q E h => ?_) (fun cdv A outer s H vs Q E hr quiet h => ?_)
  · obtain ⟨_, _, rfl, _⟩ := h
    rfl
  · obtain ⟨a, ns, rfl, hS, hn, q⟩ := h
    have hq : (A.deeper (envOfC "law" (defScope s_law) s.heap.objs.size f cdv)).guards = some [] := quiet
    refine ⟨_, (pss_one (ps_ret (pe_callB (cr_all rfl) (by rfl) B.all (by decide +kernel) (pa_cons (pe_lc (own := [("_law_k", 1)]) (by rfl) sc_law.nd (pi_range1 (by rfl) B.range (pa_cons (pe_callB (call_max2 rfl) (by rfl) B.max (by decide +kernel) (pa_cons pe_int (pa_cons (pe_callB (call_min2 rfl) (by rfl) B.min (by decide +kernel) (pa_cons (pe_callB call_len_seq (by rfl) B.len (by decide +kernel) (pa_cons (pv 0) pa_nil)) (pa_cons pe_int pa_nil))) pa_nil))) pa_nil)) (blkOk_by (own := [("_law_k", 1)]) (N := ["_law_script", "_law_k"]) (sc := defScope s_law) (by decide +kernel)) (fun _ _ _ _ _ => (pg_name (i := 1) sc_law.nd rfl (Or.inl rfl))) (fun _ _ _ _ _ => pts_nil) (fun _ _ _ _ _ => (pe_cG hq C__law_right hr (by decide) (by rfl) (pa_cons (pe_c C__law_tank hr (by decide) (by rfl) (pa_cons (pv 0) (pa_cons (pv 1) pa_nil))) pa_nil)))) pa_nil)))), ?_⟩
    obtain ⟨N, eN, hN⟩ : ∃ N : Int, (if (if (6 : Int) < ((ns.map V.int).length : Int) then (6 : Int) else ((ns.map V.int).length : Int)) > 2 then (if (6 : Int) < ((ns.map V.int).length : Int) then (6 : Int) else ((ns.map V.int).length : Int)) else 2) = N ∧ 2 ≤ N ∧ N ≤ 6 := ⟨_, rfl, by split <;> (try split) <;> omega, by split <;> (try split) <;> omega⟩
    refine ⟨_, rfl, a, _, rfl, .inl hS, _, _, rfl, _, _, rfl, N, congrArg (fun z => [V.int z]) eN, by omega, by omega, fun D nD => ?_⟩
    have nDa : ∀ H', Same H H' → SqL K H' a (ns.map V.int) := fun H' s => s.seq hS
    refine lc_range (lo := 0) (fun i H2 => Same H H2 ∧ H2 D = some (.lst (List.replicate i (V.bl true)))) ⟨same_new nD, upd_same⟩ ?_ ?_
    · rintro i H2 hi ⟨sm, eD⟩
      refine ⟨rfl, ?_⟩
      refine ⟨_, rfl, _, rfl, a, ns, _, rfl, nDa _ sm, by omega, by omega, by omega, fun p H3 sm3 np tk => ?_⟩
      refine ⟨p, rfl, tk, fun H4 go => ?_⟩
      have npD : D ≠ p := ne_of_none eD np
      have sm4 : Same H2 H4 := fun b o e => go.keep b o (by simpa using ne_of_none e np) (sm3 b o e)
      refine ⟨_, sm4 _ _ eD, by rw [List.length_replicate]; exact small1000 (by omega), fun b o e => ?_, ?_⟩
      · rw [upd_ne (ne_of_none e nD)]
        exact sm4 _ _ (sm _ _ e)
      · rw [upd_same, List.replicate_succ']
    · rintro H2 ⟨sm, eD⟩
      refine ⟨D, List.replicate _ true, rfl, .inl (.inl (by rw [List.map_replicate]; exact eD)), ?_⟩
      rw [show (List.replicate N.toNat true).all id = true from by simp]
      exact q _
end

/-! ### what the written part says, all of it -/
inductive RowK (K : PySem.W.Frag) (C : Addr) (i : Nat) : Nat → List Addr → Prop
  | nil {j : Nat} : RowK K C i j []
  | cons {j : Nat} {D : Addr} {r : List Addr} (h : PySem.W.kitOne K (.ref C) (.ref D) = some (decide (i = j))) (t : RowK K C i (j + 1) r) : RowK K C i j (D :: r)
theorem RowK.get {K : PySem.W.Frag} {C : Addr} {i j : Nat} {L : List Addr} (h : RowK K C i j L) : ∀ (k : Nat) (D : Addr), L[k]? = some D → PySem.W.kitOne K (.ref C) (.ref D) = some (decide (i = j + k)) := by
  induction h with
  | nil => intro k D h; simp at h
  | @cons j D r h t ih =>
    intro k E hk
    cases k with
    | zero => cases hk; exact h
    | succ k =>
      have z := ih k E hk
      rw [show j + (k + 1) = j + 1 + k from by omega]
      exact z
inductive Each (φ : Nat → Addr → Prop) : Nat → List Addr → Prop
  | nil {i : Nat} : Each φ i []
  | cons {i : Nat} {C : Addr} {r : List Addr} (h : φ i C) (t : Each φ (i + 1) r) : Each φ i (C :: r)
theorem Each.get {φ : Nat → Addr → Prop} {i : Nat} {L : List Addr} (h : Each φ i L) : ∀ (k : Nat) (C : Addr), L[k]? = some C → φ (i + k) C := by
  induction h with
  | nil => intro k C h; simp at h
  | @cons i C r h t ih =>
    intro k E hk
    cases k with
    | zero => cases hk; exact h
    | succ k =>
      have z := ih k E hk
      rw [show i + (k + 1) = i + 1 + k from by omega]
      exact z
structure BaseK (K : PySem.W.Frag) (cs : Cs) (i : Nat) (C : Addr) : Prop where
  is : IsEx K C
  xf : XfC K C
  bI : PySem.W.kitOne K (.ref C) (.ref cs.inp) = some (decide (i < 15))
  bS : PySem.W.kitOne K (.ref C) (.ref cs.sta) = some (decide (15 ≤ i ∧ i < 18))
  bZ : PySem.W.kitOne K (.ref C) (.ref cs.siz) = some (decide (18 ≤ i))
  bV : PySem.W.kitOne K (.ref C) (.type "ValueError") = some (decide (i < 15))
  bL : PySem.W.kitOne K (.ref C) (.type "LookupError") = some (decide (15 ≤ i ∧ i < 18))
  bA : PySem.W.kitOne K (.ref C) (.type "ArithmeticError") = some (decide (18 ≤ i))
def IniR (K : PySem.W.Frag) (C : Addr) (q : Str) (st : Stmt) : Prop := ∃ (g : Addr) (fd : FuncData), PySem.W.findIn K (.ref C) "__init__" = some (some (.ref g)) ∧ PySem.W.typeIn K (.ref g) = some (.type "function") ∧ Fun K "__init__" q st g fd
structure ClR (K : PySem.W.Frag) (mg : Str → Option Value) (c : Cs) : Prop where
  g0 : mg "NotARule" = some (.ref c.c0)
  g1 : mg "NotAnInquiry" = some (.ref c.c1)
  g2 : mg "InvalidOffset" = some (.ref c.c2)
  g3 : mg "InvalidText" = some (.ref c.c3)
  g4 : mg "InvalidCount" = some (.ref c.c4)
  g5 : mg "InvalidClaimants" = some (.ref c.c5)
  g6 : mg "InvalidClaimant" = some (.ref c.c6)
  g7 : mg "InvalidPlace" = some (.ref c.c7)
  g8 : mg "InvalidRow" = some (.ref c.c8)
  g9 : mg "NotFair" = some (.ref c.c9)
  g10 : mg "InvalidHead" = some (.ref c.c10)
  g11 : mg "InvalidClaims" = some (.ref c.c11)
  g12 : mg "InvalidDivision" = some (.ref c.c12)
  g13 : mg "InvalidStatements" = some (.ref c.c13)
  g14 : mg "InvalidDeeds" = some (.ref c.c14)
  g15 : mg "Inconsistent" = some (.ref c.c15)
  g16 : mg "NothingToUndo" = some (.ref c.c16)
  g17 : mg "Busy" = some (.ref c.c17)
  g18 : mg "TooManyItems" = some (.ref c.c18)
  g19 : mg "TooManyStatements" = some (.ref c.c19)
  gI : mg "InputError" = some (.ref c.inp)
  gS : mg "StateError" = some (.ref c.sta)
  gZ : mg "SizeError" = some (.ref c.siz)
  o0 : OexG K c.c0
  n0 : PySem.W.findIn K (.ref c.c0) "value" = some none
  i0 : IniR K c.c0 "NotARule.__init__" s_NotARule___init__
  o1 : OexG K c.c1
  n1 : PySem.W.findIn K (.ref c.c1) "value" = some none
  i1 : IniR K c.c1 "NotAnInquiry.__init__" s_NotAnInquiry___init__
  o2 : OexG K c.c2
  n2 : PySem.W.findIn K (.ref c.c2) "value" = some none
  i2 : IniR K c.c2 "InvalidOffset.__init__" s_InvalidOffset___init__
  o3 : OexG K c.c3
  n3 : PySem.W.findIn K (.ref c.c3) "value" = some none
  i3 : IniR K c.c3 "InvalidText.__init__" s_InvalidText___init__
  o4 : OexG K c.c4
  n4 : PySem.W.findIn K (.ref c.c4) "value" = some none
  i4 : IniR K c.c4 "InvalidCount.__init__" s_InvalidCount___init__
  o5 : OexG K c.c5
  n5 : PySem.W.findIn K (.ref c.c5) "value" = some none
  i5 : IniR K c.c5 "InvalidClaimants.__init__" s_InvalidClaimants___init__
  o6 : OexG K c.c6
  n6 : PySem.W.findIn K (.ref c.c6) "value" = some none
  i6 : IniR K c.c6 "InvalidClaimant.__init__" s_InvalidClaimant___init__
  o7 : OexG K c.c7
  n7 : PySem.W.findIn K (.ref c.c7) "value" = some none
  i7 : IniR K c.c7 "InvalidPlace.__init__" s_InvalidPlace___init__
  o8 : OexG K c.c8
  n8 : PySem.W.findIn K (.ref c.c8) "value" = some none
  i8 : IniR K c.c8 "InvalidRow.__init__" s_InvalidRow___init__
  o9 : OexG K c.c9
  n9 : PySem.W.findIn K (.ref c.c9) "value" = some none
  i9 : IniR K c.c9 "NotFair.__init__" s_NotFair___init__
  o10 : OexG K c.c10
  n10 : PySem.W.findIn K (.ref c.c10) "index" = some none
  i10 : IniR K c.c10 "InvalidHead.__init__" s_InvalidHead___init__
  o11 : OexG K c.c11
  n11 : PySem.W.findIn K (.ref c.c11) "index" = some none
  i11 : IniR K c.c11 "InvalidClaims.__init__" s_InvalidClaims___init__
  o12 : OexG K c.c12
  n12 : PySem.W.findIn K (.ref c.c12) "index" = some none
  i12 : IniR K c.c12 "InvalidDivision.__init__" s_InvalidDivision___init__
  o13 : OexG K c.c13
  n13 : PySem.W.findIn K (.ref c.c13) "index" = some none
  i13 : IniR K c.c13 "InvalidStatements.__init__" s_InvalidStatements___init__
  o14 : OexG K c.c14
  n14 : PySem.W.findIn K (.ref c.c14) "index" = some none
  i14 : IniR K c.c14 "InvalidDeeds.__init__" s_InvalidDeeds___init__
  m15 : ExN K mg "Inconsistent" c.c15
  m16 : ExN K mg "NothingToUndo" c.c16
  m17 : ExN K mg "Busy" c.c17
  o18 : OexG K c.c18
  n18 : PySem.W.findIn K (.ref c.c18) "limit" = some none
  i18 : IniR K c.c18 "TooManyItems.__init__" s_TooManyItems___init__
  o19 : OexG K c.c19
  n19 : PySem.W.findIn K (.ref c.c19) "limit" = some none
  i19 : IniR K c.c19 "TooManyStatements.__init__" s_TooManyStatements___init__
  mV : mg "ValueError" = none
  mL : mg "LookupError" = none
  mA : mg "ArithmeticError" = none
  g_MOST_CLAIMANTS : ∃ t, mg "MOST_CLAIMANTS" = some (.int (6) t)
  g_MOST_SHARERS : ∃ t, mg "MOST_SHARERS" = some (.int (12) t)
  g_MOST_HEAD : ∃ t, mg "MOST_HEAD" = some (.int (8) t)
  g_MOST_STATEMENTS : ∃ t, mg "MOST_STATEMENTS" = some (.int (12) t)
  g_MOST_ITEMS : ∃ t, mg "MOST_ITEMS" = some (.int (10 ^ 18) t)
  g_MOST_COMPARED : ∃ t, mg "MOST_COMPARED" = some (.int (200) t)
  g_MOST_LISTED : ∃ t, mg "MOST_LISTED" = some (.int (10) t)
  rows : Each (fun i C => RowK K C i 0 c.all) 0 c.all
  each : Each (BaseK K c) 0 c.all
section
variable {P : Program} {w : World} {K : PySem.W.Frag} {mg : Str → Option Value} {base : Heap} {c : Cs}
theorem exV_NotARule {C : Addr} (O : OexG K C) (no : PySem.W.findIn K (.ref C) "value" = some none) (hm : mg "NotARule" = some (.ref C)) (I : IniR K C "NotARule.__init__" s_NotARule___init__) : ExV P w K mg base 1 "NotARule" C "value" := by
  obtain ⟨g, fd, h1, h2, F⟩ := I
  refine ⟨O, no, hm, g, fd, ["self", "value"], h1, h2, ini_NotARule F O no, F.binds (fun _ _ _ _ _ _ us hl => match us, hl with | [_, _], _ => rfl), ?_⟩
  obtain ⟨oc, od, kV, doc, pm, an, cdv, ct, osl,
        rfl, lk, hcd⟩ := F.ex
  intro s u v _
  exact .of_eq rfl
theorem exV_NotAnInquiry {C : Addr} (O : OexG K C) (no : PySem.W.findIn K (.ref C) "value" = some none) (hm : mg "NotAnInquiry" = some (.ref C)) (I : IniR K C "NotAnInquiry.__init__" s_NotAnInquiry___init__) : ExV P w K mg base 1 "NotAnInquiry" C "value" := by
  obtain ⟨g, fd, h1, h2, F⟩ := I
  refine ⟨O, no, hm, g, fd, ["self", "value"], h1, h2, ini_NotAnInquiry F O no, F.binds (fun _ _ _ _ _ _ us hl => match us, hl with | [_, _], _ => rfl), ?_⟩
  obtain ⟨oc, od, kV, doc, pm, an, cdv, ct, osl,
        rfl, lk, hcd⟩ := F.ex
  intro s u v _
  exact .of_eq rfl
theorem exV_InvalidOffset {C : Addr} (O : OexG K C) (no : PySem.W.findIn K (.ref C) "value" = some none) (hm : mg "InvalidOffset" = some (.ref C)) (I : IniR K C "InvalidOffset.__init__" s_InvalidOffset___init__) : ExV P w K mg base 1 "InvalidOffset" C "value" := by
  obtain ⟨g, fd, h1, h2, F⟩ := I
  refine ⟨O, no, hm, g, fd, ["self", "value"], h1, h2, ini_InvalidOffset F O no, F.binds (fun _ _ _ _ _ _ us hl => match us, hl with | [_, _], _ => rfl), ?_⟩
  obtain ⟨oc, od, kV, doc, pm, an, cdv, ct, osl,
        rfl, lk, hcd⟩ := F.ex
  intro s u v _
  exact .of_eq rfl
theorem exV_InvalidText {C : Addr} (O : OexG K C) (no : PySem.W.findIn K (.ref C) "value" = some none) (hm : mg "InvalidText" = some (.ref C)) (I : IniR K C "InvalidText.__init__" s_InvalidText___init__) : ExV P w K mg base 1 "InvalidText" C "value" := by
  obtain ⟨g, fd, h1, h2, F⟩ := I
  refine ⟨O, no, hm, g, fd, ["self", "value"], h1, h2, ini_InvalidText F O no, F.binds (fun _ _ _ _ _ _ us hl => match us, hl with | [_, _], _ => rfl), ?_⟩
  obtain ⟨oc, od, kV, doc, pm, an, cdv, ct, osl,
        rfl, lk, hcd⟩ := F.ex
  intro s u v _
  exact .of_eq rfl
theorem exV_InvalidCount {C : Addr} (O : OexG K C) (no : PySem.W.findIn K (.ref C) "value" = some none) (hm : mg "InvalidCount" = some (.ref C)) (I : IniR K C "InvalidCount.__init__" s_InvalidCount___init__) : ExV P w K mg base 1 "InvalidCount" C "value" := by
  obtain ⟨g, fd, h1, h2, F⟩ := I
  refine ⟨O, no, hm, g, fd, ["self", "value"], h1, h2, ini_InvalidCount F O no, F.binds (fun _ _ _ _ _ _ us hl => match us, hl with | [_, _], _ => rfl), ?_⟩
  obtain ⟨oc, od, kV, doc, pm, an, cdv, ct, osl,
        rfl, lk, hcd⟩ := F.ex
  intro s u v _
  exact .of_eq rfl
theorem exV_InvalidClaimants {C : Addr} (O : OexG K C) (no : PySem.W.findIn K (.ref C) "value" = some none) (hm : mg "InvalidClaimants" = some (.ref C)) (I : IniR K C "InvalidClaimants.__init__" s_InvalidClaimants___init__) : ExV P w K mg base 1 "InvalidClaimants" C "value" := by
  obtain ⟨g, fd, h1, h2, F⟩ := I
  refine ⟨O, no, hm, g, fd, ["self", "value"], h1, h2, ini_InvalidClaimants F O no, F.binds (fun _ _ _ _ _ _ us hl => match us, hl with | [_, _], _ => rfl), ?_⟩
  obtain ⟨oc, od, kV, doc, pm, an, cdv, ct, osl,
        rfl, lk, hcd⟩ := F.ex
  intro s u v _
  exact .of_eq rfl
theorem exV_InvalidClaimant {C : Addr} (O : OexG K C) (no : PySem.W.findIn K (.ref C) "value" = some none) (hm : mg "InvalidClaimant" = some (.ref C)) (I : IniR K C "InvalidClaimant.__init__" s_InvalidClaimant___init__) : ExV P w K mg base 1 "InvalidClaimant" C "value" := by
  obtain ⟨g, fd, h1, h2, F⟩ := I
  refine ⟨O, no, hm, g, fd, ["self", "value"], h1, h2, ini_InvalidClaimant F O no, F.binds (fun _ _ _ _ _ _ us hl => match us, hl with | [_, _], _ => rfl), ?_⟩
  obtain ⟨oc, od, kV, doc, pm, an, cdv, ct, osl,
        rfl, lk, hcd⟩ := F.ex
  intro s u v _
  exact .of_eq rfl
theorem exV_InvalidPlace {C : Addr} (O : OexG K C) (no : PySem.W.findIn K (.ref C) "value" = some none) (hm : mg "InvalidPlace" = some (.ref C)) (I : IniR K C "InvalidPlace.__init__" s_InvalidPlace___init__) : ExV P w K mg base 1 "InvalidPlace" C "value" := by
  obtain ⟨g, fd, h1, h2, F⟩ := I
  refine ⟨O, no, hm, g, fd, ["self", "value"], h1, h2, ini_InvalidPlace F O no, F.binds (fun _ _ _ _ _ _ us hl => match us, hl with | [_, _], _ => rfl), ?_⟩
  obtain ⟨oc, od, kV, doc, pm, an, cdv, ct, osl,
        rfl, lk, hcd⟩ := F.ex
  intro s u v _
  exact .of_eq rfl
theorem exV_InvalidRow {C : Addr} (O : OexG K C) (no : PySem.W.findIn K (.ref C) "value" = some none) (hm : mg "InvalidRow" = some (.ref C)) (I : IniR K C "InvalidRow.__init__" s_InvalidRow___init__) : ExV P w K mg base 1 "InvalidRow" C "value" := by
  obtain ⟨g, fd, h1, h2, F⟩ := I
  refine ⟨O, no, hm, g, fd, ["self", "value"], h1, h2, ini_InvalidRow F O no, F.binds (fun _ _ _ _ _ _ us hl => match us, hl with | [_, _], _ => rfl), ?_⟩
  obtain ⟨oc, od, kV, doc, pm, an, cdv, ct, osl,
        rfl, lk, hcd⟩ := F.ex
  intro s u v _
  exact .of_eq rfl
theorem exV_NotFair {C : Addr} (O : OexG K C) (no : PySem.W.findIn K (.ref C) "value" = some none) (hm : mg "NotFair" = some (.ref C)) (I : IniR K C "NotFair.__init__" s_NotFair___init__) : ExV P w K mg base 1 "NotFair" C "value" := by
  obtain ⟨g, fd, h1, h2, F⟩ := I
  refine ⟨O, no, hm, g, fd, ["self", "value"], h1, h2, ini_NotFair F O no, F.binds (fun _ _ _ _ _ _ us hl => match us, hl with | [_, _], _ => rfl), ?_⟩
  obtain ⟨oc, od, kV, doc, pm, an, cdv, ct, osl,
        rfl, lk, hcd⟩ := F.ex
  intro s u v _
  exact .of_eq rfl
theorem exV_InvalidHead {C : Addr} (O : OexG K C) (no : PySem.W.findIn K (.ref C) "index" = some none) (hm : mg "InvalidHead" = some (.ref C)) (I : IniR K C "InvalidHead.__init__" s_InvalidHead___init__) : ExV P w K mg base 1 "InvalidHead" C "index" := by
  obtain ⟨g, fd, h1, h2, F⟩ := I
  refine ⟨O, no, hm, g, fd, ["self", "index"], h1, h2, ini_InvalidHead F O no, F.binds (fun _ _ _ _ _ _ us hl => match us, hl with | [_, _], _ => rfl), ?_⟩
  obtain ⟨oc, od, kV, doc, pm, an, cdv, ct, osl,
        rfl, lk, hcd⟩ := F.ex
  intro s u v _
  exact .of_eq rfl
theorem exV_InvalidClaims {C : Addr} (O : OexG K C) (no : PySem.W.findIn K (.ref C) "index" = some none) (hm : mg "InvalidClaims" = some (.ref C)) (I : IniR K C "InvalidClaims.__init__" s_InvalidClaims___init__) : ExV P w K mg base 1 "InvalidClaims" C "index" := by
  obtain ⟨g, fd, h1, h2, F⟩ := I
  refine ⟨O, no, hm, g, fd, ["self", "index"], h1, h2, ini_InvalidClaims F O no, F.binds (fun _ _ _ _ _ _ us hl => match us, hl with | [_, _], _ => rfl), ?_⟩
  obtain ⟨oc, od, kV, doc, pm, an, cdv, ct, osl,
        rfl, lk, hcd⟩ := F.ex
  intro s u v _
  exact .of_eq rfl
theorem exV_InvalidDivision {C : Addr} (O : OexG K C) (no : PySem.W.findIn K (.ref C) "index" = some none) (hm : mg "InvalidDivision" = some (.ref C)) (I : IniR K C "InvalidDivision.__init__" s_InvalidDivision___init__) : ExV P w K mg base 1 "InvalidDivision" C "index" := by
  obtain ⟨g, fd, h1, h2, F⟩ := I
  refine ⟨O, no, hm, g, fd, ["self", "index"], h1, h2, ini_InvalidDivision F O no, F.binds (fun _ _ _ _ _ _ us hl => match us, hl with | [_, _], _ => rfl), ?_⟩
  obtain ⟨oc, od, kV, doc, pm, an, cdv, ct, osl,
        rfl, lk, hcd⟩ := F.ex
  intro s u v _
  exact .of_eq rfl
theorem exV_InvalidStatements {C : Addr} (O : OexG K C) (no : PySem.W.findIn K (.ref C) "index" = some none) (hm : mg "InvalidStatements" = some (.ref C)) (I : IniR K C "InvalidStatements.__init__" s_InvalidStatements___init__) : ExV P w K mg base 1 "InvalidStatements" C "index" := by
  obtain ⟨g, fd, h1, h2, F⟩ := I
  refine ⟨O, no, hm, g, fd, ["self", "index"], h1, h2, ini_InvalidStatements F O no, F.binds (fun _ _ _ _ _ _ us hl => match us, hl with | [_, _], _ => rfl), ?_⟩
  obtain ⟨oc, od, kV, doc, pm, an, cdv, ct, osl,
        rfl, lk, hcd⟩ := F.ex
  intro s u v _
  exact .of_eq rfl
theorem exV_InvalidDeeds {C : Addr} (O : OexG K C) (no : PySem.W.findIn K (.ref C) "index" = some none) (hm : mg "InvalidDeeds" = some (.ref C)) (I : IniR K C "InvalidDeeds.__init__" s_InvalidDeeds___init__) : ExV P w K mg base 1 "InvalidDeeds" C "index" := by
  obtain ⟨g, fd, h1, h2, F⟩ := I
  refine ⟨O, no, hm, g, fd, ["self", "index"], h1, h2, ini_InvalidDeeds F O no, F.binds (fun _ _ _ _ _ _ us hl => match us, hl with | [_, _], _ => rfl), ?_⟩
  obtain ⟨oc, od, kV, doc, pm, an, cdv, ct, osl,
        rfl, lk, hcd⟩ := F.ex
  intro s u v _
  exact .of_eq rfl
theorem exV_TooManyItems {C : Addr} (O : OexG K C) (no : PySem.W.findIn K (.ref C) "limit" = some none) (hm : mg "TooManyItems" = some (.ref C)) (I : IniR K C "TooManyItems.__init__" s_TooManyItems___init__) : ExV P w K mg base 1 "TooManyItems" C "limit" := by
  obtain ⟨g, fd, h1, h2, F⟩ := I
  refine ⟨O, no, hm, g, fd, ["self", "limit"], h1, h2, ini_TooManyItems F O no, F.binds (fun _ _ _ _ _ _ us hl => match us, hl with | [_, _], _ => rfl), ?_⟩
  obtain ⟨oc, od, kV, doc, pm, an, cdv, ct, osl,
        rfl, lk, hcd⟩ := F.ex
  intro s u v _
  exact .of_eq rfl
theorem exV_TooManyStatements {C : Addr} (O : OexG K C) (no : PySem.W.findIn K (.ref C) "limit" = some none) (hm : mg "TooManyStatements" = some (.ref C)) (I : IniR K C "TooManyStatements.__init__" s_TooManyStatements___init__) : ExV P w K mg base 1 "TooManyStatements" C "limit" := by
  obtain ⟨g, fd, h1, h2, F⟩ := I
  refine ⟨O, no, hm, g, fd, ["self", "limit"], h1, h2, ini_TooManyStatements F O no, F.binds (fun _ _ _ _ _ _ us hl => match us, hl with | [_, _], _ => rfl), ?_⟩
  obtain ⟨oc, od, kV, doc, pm, an, cdv, ct, osl,
        rfl, lk, hcd⟩ := F.ex
  intro s u v _
  exact .of_eq rfl
theorem clK_of (R : ClR K mg c) : ClK P w K mg base c := by
  have ea := fun (i : Nat) (C : Addr) (h : c.all[i]? = some C) => R.each.get i C h
  simp only [Nat.zero_add] at ea
  have ro : ∀ (i : Nat) (C : Addr), c.all[i]? = some C → ∀ (j : Nat) (D : Addr), c.all[j]? = some D → PySem.W.kitOne K (.ref C) (.ref D) = some (decide (i = j)) := fun i C h j D h2 => by
    have z := (R.rows.get i C h).get j D h2
    rw [Nat.zero_add, Nat.zero_add] at z
    exact z
  exact {
    g0 := R.g0
    m0 := exV_NotARule R.o0 R.n0 R.g0 R.i0
    g1 := R.g1
    m1 := exV_NotAnInquiry R.o1 R.n1 R.g1 R.i1
    g2 := R.g2
    m2 := exV_InvalidOffset R.o2 R.n2 R.g2 R.i2
    g3 := R.g3
    m3 := exV_InvalidText R.o3 R.n3 R.g3 R.i3
    g4 := R.g4
    m4 := exV_InvalidCount R.o4 R.n4 R.g4 R.i4
    g5 := R.g5
    m5 := exV_InvalidClaimants R.o5 R.n5 R.g5 R.i5
    g6 := R.g6
    m6 := exV_InvalidClaimant R.o6 R.n6 R.g6 R.i6
    g7 := R.g7
    m7 := exV_InvalidPlace R.o7 R.n7 R.g7 R.i7
    g8 := R.g8
    m8 := exV_InvalidRow R.o8 R.n8 R.g8 R.i8
    g9 := R.g9
    m9 := exV_NotFair R.o9 R.n9 R.g9 R.i9
    g10 := R.g10
    m10 := exV_InvalidHead R.o10 R.n10 R.g10 R.i10
    g11 := R.g11
    m11 := exV_InvalidClaims R.o11 R.n11 R.g11 R.i11
    g12 := R.g12
    m12 := exV_InvalidDivision R.o12 R.n12 R.g12 R.i12
    g13 := R.g13
    m13 := exV_InvalidStatements R.o13 R.n13 R.g13 R.i13
    g14 := R.g14
    m14 := exV_InvalidDeeds R.o14 R.n14 R.g14 R.i14
    g15 := R.g15
    m15 := R.m15
    g16 := R.g16
    m16 := R.m16
    g17 := R.g17
    m17 := R.m17
    g18 := R.g18
    m18 := exV_TooManyItems R.o18 R.n18 R.g18 R.i18
    g19 := R.g19
    m19 := exV_TooManyStatements R.o19 R.n19 R.g19 R.i19
    gI := R.gI
    gS := R.gS
    gZ := R.gZ
    mV := R.mV
    mL := R.mL
    mA := R.mA
    g_MOST_CLAIMANTS := R.g_MOST_CLAIMANTS
    g_MOST_SHARERS := R.g_MOST_SHARERS
    g_MOST_HEAD := R.g_MOST_HEAD
    g_MOST_STATEMENTS := R.g_MOST_STATEMENTS
    g_MOST_ITEMS := R.g_MOST_ITEMS
    g_MOST_COMPARED := R.g_MOST_COMPARED
    g_MOST_LISTED := R.g_MOST_LISTED
    one := ro
    is := fun i C h => (ea i C h).is
    xf := fun i C h => (ea i C h).xf
    bI := fun i C h => (ea i C h).bI
    bS := fun i C h => (ea i C h).bS
    bZ := fun i C h => (ea i C h).bZ
    bV := fun i C h => (ea i C h).bV
    bL := fun i C h => (ea i C h).bL
    bA := fun i C h => (ea i C h).bA
  }
end
theorem finishL {l : PySem.W.OpenLaw} {w : World} {K : PySem.W.Frag} {h : Heap} {mg : Str → Option Value} {fa : Addr} {cs : Cs} (X : K.In h) (G : h.Ns mainGlobals mg) (hfa : mg "law" = some (.ref fa)) (B : Bl mg) (R : ClR K mg cs) (D__law_tank : OwnDef K mg "_law_tank" s__law_tank) (D__law_tap : OwnDef K mg "_law_tap" s__law_tap) (D__law_any : OwnDef K mg "_law_any" s__law_any) (D__law_created : OwnDef K mg "_law_created" s__law_created) (D__law_instances : OwnDef K mg "_law_instances" s__law_instances) (D__law_bases : OwnDef K mg "_law_bases" s__law_bases) (D__law_right : OwnDef K mg "_law_right" s__law_right) (D_law : OwnDef K mg "law" s_law) :
    ∃ fd : FuncData, (∀ (s : Shared) (u : Value), BindsTo s fd ⟨[u], []⟩ [("_law_script", u)]) ∧ ∀ base : Heap, K.In base → base.Ns mainGlobals mg → FnG l.prog w K mg base CX0 15 fa fd ["_law_script"] (sp_law K) := by
  obtain ⟨f, fd, F, hm⟩ := D_law.ex
  have e := hfa.symm.trans hm
  cases e
  have F0 := F
  obtain ⟨oc, od, kV, doc, pm, an, cdv, ct, osl,
        rfl, lk, hcd⟩ := F.ex
  refine ⟨PySem.W.fnOf "law" "law" (defArgs s_law) (defBody s_law) (defScope s_law) .none kV doc pm an cdv ct, fun s u => .of_eq rfl, fun base _ _ => ?_⟩
  have T : ClK l.prog w K mg base cs := clK_of R
  have C__law_tank := cal__law_tank (P := l.prog) (w := w) (base := base) (c := 0) B D__law_tank
  have C__law_tap := cal__law_tap (P := l.prog) (w := w) (base := base) (c := 0) B D__law_tap
  have C__law_any := cal__law_any (P := l.prog) (w := w) (base := base) (c := 0) B D__law_any C__law_tap
  have C__law_created := cal__law_created (P := l.prog) (w := w) (base := base) B D__law_created T
  have C__law_instances := cal__law_instances (P := l.prog) (w := w) (base := base) B D__law_instances T
  have C__law_bases := cal__law_bases (P := l.prog) (w := w) (base := base) B D__law_bases T
  have C__law_right := calG__law_right (P := l.prog) (w := w) (base := base) B D__law_right T C__law_any C__law_created C__law_bases C__law_instances
  exact ok_law B F0 C__law_tank C__law_right

end LW

set_option Elab.async false
set_option linter.all false
set_option maxRecDepth 100000
set_option maxHeartbeats 4000100
namespace LW
theorem ofK {K : PySem.W.Frag} {h : PySem.Heap} (X : K.In h) {B : PySem.W.Frag → Prop} (x : B K) : B K := x
end LW
open PySem.W PyProof.Rows PySem
set_option maxRecDepth 100100 in
set_option maxHeartbeats 0 in
theorem PySem.Challenge.cw_wholeshares_k05_errors_and_limits_holds : PySem.Challenge.rw_wholeshares_k05_errors_and_limits.Holds := by
  w_on; o_law; k_head
  (case hw => w_witness2)
  k_fill
  refine LW.law_walk (l := PySem.Challenge.rw_wholeshares_k05_errors_and_limits) (n := 63) (k := 15) (x := "_law_script") (sp := LW.sp_law) rfl (by decide) rfl ⟨rfl, by decide, by decide⟩ (fun w h Y => by first | exact PySem.W.kIn_of Y | exact PySem.W.km_in_of Y) ?F (fun _ _ a ns hl hS => ⟨a, ns, rfl, hS, hl, fun _ => rfl⟩)
  case F =>
    intro w mg fa h KX G XH hmg
    have B : LW.Bl mg := by
      constructor <;> exact PySem.W.mg_none_of KX G (by k_is)
    have D__law_tank := LW.ofK KX (B := fun K => LW.OwnDef K mg "_law_tank" LW.s__law_tank) (by
      refine' LW.own_mk KX G ?a ?l ?c ?k
      (case a => first | k_is | rfl | decide +kernel)
      (case l => first | k_is | rfl | decide +kernel)
      (case c => first | k_is | rfl | decide +kernel)
      (case k => first | k_is | rfl | decide +kernel))
    have D__law_tap := LW.ofK KX (B := fun K => LW.OwnDef K mg "_law_tap" LW.s__law_tap) (by
      refine' LW.own_mk KX G ?a ?l ?c ?k
      (case a => first | k_is | rfl | decide +kernel)
      (case l => first | k_is | rfl | decide +kernel)
      (case c => first | k_is | rfl | decide +kernel)
      (case k => first | k_is | rfl | decide +kernel))
    have D__law_any := LW.ofK KX (B := fun K => LW.OwnDef K mg "_law_any" LW.s__law_any) (by
      refine' LW.own_mk KX G ?a ?l ?c ?k
      (case a => first | k_is | rfl | decide +kernel)
      (case l => first | k_is | rfl | decide +kernel)
      (case c => first | k_is | rfl | decide +kernel)
      (case k => first | k_is | rfl | decide +kernel))
    have D__law_created := LW.ofK KX (B := fun K => LW.OwnDef K mg "_law_created" LW.s__law_created) (by
      refine' LW.own_mk KX G ?a ?l ?c ?k
      (case a => first | k_is | rfl | decide +kernel)
      (case l => first | k_is | rfl | decide +kernel)
      (case c => first | k_is | rfl | decide +kernel)
      (case k => first | k_is | rfl | decide +kernel))
    have D__law_instances := LW.ofK KX (B := fun K => LW.OwnDef K mg "_law_instances" LW.s__law_instances) (by
      refine' LW.own_mk KX G ?a ?l ?c ?k
      (case a => first | k_is | rfl | decide +kernel)
      (case l => first | k_is | rfl | decide +kernel)
      (case c => first | k_is | rfl | decide +kernel)
      (case k => first | k_is | rfl | decide +kernel))
    have D__law_bases := LW.ofK KX (B := fun K => LW.OwnDef K mg "_law_bases" LW.s__law_bases) (by
      refine' LW.own_mk KX G ?a ?l ?c ?k
      (case a => first | k_is | rfl | decide +kernel)
      (case l => first | k_is | rfl | decide +kernel)
      (case c => first | k_is | rfl | decide +kernel)
      (case k => first | k_is | rfl | decide +kernel))
    have D__law_right := LW.ofK KX (B := fun K => LW.OwnDef K mg "_law_right" LW.s__law_right) (by
      refine' LW.own_mk KX G ?a ?l ?c ?k
      (case a => first | k_is | rfl | decide +kernel)
      (case l => first | k_is | rfl | decide +kernel)
      (case c => first | k_is | rfl | decide +kernel)
      (case k => first | k_is | rfl | decide +kernel))
    have D_law := LW.ofK KX (B := fun K => LW.OwnDef K mg "law" LW.s_law) (by
      refine' LW.own_mk KX G ?a ?l ?c ?k
      (case a => first | k_is | rfl | decide +kernel)
      (case l => first | k_is | rfl | decide +kernel)
      (case c => first | k_is | rfl | decide +kernel)
      (case k => first | k_is | rfl | decide +kernel))
    obtain ⟨cs, CR⟩ := LW.ofK KX (B := fun K => ∃ cs, LW.ClR K mg cs) (by
      refine' ⟨⟨_, _, _, _, _, _, _, _, _, _, _, _, _, _, _, _, _, _, _, _, _, _, _⟩, ⟨PySem.W.mg_of KX G ?zg0, PySem.W.mg_of KX G ?zg1, PySem.W.mg_of KX G ?zg2, PySem.W.mg_of KX G ?zg3, PySem.W.mg_of KX G ?zg4, PySem.W.mg_of KX G ?zg5, PySem.W.mg_of KX G ?zg6, PySem.W.mg_of KX G ?zg7, PySem.W.mg_of KX G ?zg8, PySem.W.mg_of KX G ?zg9, PySem.W.mg_of KX G ?zg10, PySem.W.mg_of KX G ?zg11, PySem.W.mg_of KX G ?zg12, PySem.W.mg_of KX G ?zg13, PySem.W.mg_of KX G ?zg14, PySem.W.mg_of KX G ?zg15, PySem.W.mg_of KX G ?zg16, PySem.W.mg_of KX G ?zg17, PySem.W.mg_of KX G ?zg18, PySem.W.mg_of KX G ?zg19, PySem.W.mg_of KX G ?zgI, PySem.W.mg_of KX G ?zgS, PySem.W.mg_of KX G ?zgZ, ⟨⟨_, _, _, _, PySem.F.excBase_ValueError, PySem.F.store_ValueError, rfl, by decide +kernel, _, _, _, _, _, _, _, _, _, _, _, _, _, _, _, ?zx0, ?zr0⟩, ?zs0, ?zk0⟩, ?zn0, ⟨_, _, ?za0, ?zt0, L2.fun_mk ?zl0 ?zc0 ?zkk0⟩, ⟨⟨_, _, _, _, PySem.F.excBase_ValueError, PySem.F.store_ValueError, rfl, by decide +kernel, _, _, _, _, _, _, _, _, _, _, _, _, _, _, _, ?zx1, ?zr1⟩, ?zs1, ?zk1⟩, ?zn1, ⟨_, _, ?za1, ?zt1, L2.fun_mk ?zl1 ?zc1 ?zkk1⟩, ⟨⟨_, _, _, _, PySem.F.excBase_ValueError, PySem.F.store_ValueError, rfl, by decide +kernel, _, _, _, _, _, _, _, _, _, _, _, _, _, _, _, ?zx2, ?zr2⟩, ?zs2, ?zk2⟩, ?zn2, ⟨_, _, ?za2, ?zt2, L2.fun_mk ?zl2 ?zc2 ?zkk2⟩, ⟨⟨_, _, _, _, PySem.F.excBase_ValueError, PySem.F.store_ValueError, rfl, by decide +kernel, _, _, _, _, _, _, _, _, _, _, _, _, _, _, _, ?zx3, ?zr3⟩, ?zs3, ?zk3⟩, ?zn3, ⟨_, _, ?za3, ?zt3, L2.fun_mk ?zl3 ?zc3 ?zkk3⟩, ⟨⟨_, _, _, _, PySem.F.excBase_ValueError, PySem.F.store_ValueError, rfl, by decide +kernel, _, _, _, _, _, _, _, _, _, _, _, _, _, _, _, ?zx4, ?zr4⟩, ?zs4, ?zk4⟩, ?zn4, ⟨_, _, ?za4, ?zt4, L2.fun_mk ?zl4 ?zc4 ?zkk4⟩, ⟨⟨_, _, _, _, PySem.F.excBase_ValueError, PySem.F.store_ValueError, rfl, by decide +kernel, _, _, _, _, _, _, _, _, _, _, _, _, _, _, _, ?zx5, ?zr5⟩, ?zs5, ?zk5⟩, ?zn5, ⟨_, _, ?za5, ?zt5, L2.fun_mk ?zl5 ?zc5 ?zkk5⟩, ⟨⟨_, _, _, _, PySem.F.excBase_ValueError, PySem.F.store_ValueError, rfl, by decide +kernel, _, _, _, _, _, _, _, _, _, _, _, _, _, _, _, ?zx6, ?zr6⟩, ?zs6, ?zk6⟩, ?zn6, ⟨_, _, ?za6, ?zt6, L2.fun_mk ?zl6 ?zc6 ?zkk6⟩, ⟨⟨_, _, _, _, PySem.F.excBase_ValueError, PySem.F.store_ValueError, rfl, by decide +kernel, _, _, _, _, _, _, _, _, _, _, _, _, _, _, _, ?zx7, ?zr7⟩, ?zs7, ?zk7⟩, ?zn7, ⟨_, _, ?za7, ?zt7, L2.fun_mk ?zl7 ?zc7 ?zkk7⟩, ⟨⟨_, _, _, _, PySem.F.excBase_ValueError, PySem.F.store_ValueError, rfl, by decide +kernel, _, _, _, _, _, _, _, _, _, _, _, _, _, _, _, ?zx8, ?zr8⟩, ?zs8, ?zk8⟩, ?zn8, ⟨_, _, ?za8, ?zt8, L2.fun_mk ?zl8 ?zc8 ?zkk8⟩, ⟨⟨_, _, _, _, PySem.F.excBase_ValueError, PySem.F.store_ValueError, rfl, by decide +kernel, _, _, _, _, _, _, _, _, _, _, _, _, _, _, _, ?zx9, ?zr9⟩, ?zs9, ?zk9⟩, ?zn9, ⟨_, _, ?za9, ?zt9, L2.fun_mk ?zl9 ?zc9 ?zkk9⟩, ⟨⟨_, _, _, _, PySem.F.excBase_ValueError, PySem.F.store_ValueError, rfl, by decide +kernel, _, _, _, _, _, _, _, _, _, _, _, _, _, _, _, ?zx10, ?zr10⟩, ?zs10, ?zk10⟩, ?zn10, ⟨_, _, ?za10, ?zt10, L2.fun_mk ?zl10 ?zc10 ?zkk10⟩, ⟨⟨_, _, _, _, PySem.F.excBase_ValueError, PySem.F.store_ValueError, rfl, by decide +kernel, _, _, _, _, _, _, _, _, _, _, _, _, _, _, _, ?zx11, ?zr11⟩, ?zs11, ?zk11⟩, ?zn11, ⟨_, _, ?za11, ?zt11, L2.fun_mk ?zl11 ?zc11 ?zkk11⟩, ⟨⟨_, _, _, _, PySem.F.excBase_ValueError, PySem.F.store_ValueError, rfl, by decide +kernel, _, _, _, _, _, _, _, _, _, _, _, _, _, _, _, ?zx12, ?zr12⟩, ?zs12, ?zk12⟩, ?zn12, ⟨_, _, ?za12, ?zt12, L2.fun_mk ?zl12 ?zc12 ?zkk12⟩, ⟨⟨_, _, _, _, PySem.F.excBase_ValueError, PySem.F.store_ValueError, rfl, by decide +kernel, _, _, _, _, _, _, _, _, _, _, _, _, _, _, _, ?zx13, ?zr13⟩, ?zs13, ?zk13⟩, ?zn13, ⟨_, _, ?za13, ?zt13, L2.fun_mk ?zl13 ?zc13 ?zkk13⟩, ⟨⟨_, _, _, _, PySem.F.excBase_ValueError, PySem.F.store_ValueError, rfl, by decide +kernel, _, _, _, _, _, _, _, _, _, _, _, _, _, _, _, ?zx14, ?zr14⟩, ?zs14, ?zk14⟩, ?zn14, ⟨_, _, ?za14, ?zt14, L2.fun_mk ?zl14 ?zc14 ?zkk14⟩, ⟨⟨_, _, _, _, PySem.F.excBase_LookupError, ?za15, _, _, _, _, _, _, _, _, _, _, _, _, _, _, _, ?zx15, ?zr15⟩, ?zk15, PySem.W.mg_of KX G ?zh15⟩, ⟨⟨_, _, _, _, PySem.F.excBase_LookupError, ?za16, _, _, _, _, _, _, _, _, _, _, _, _, _, _, _, ?zx16, ?zr16⟩, ?zk16, PySem.W.mg_of KX G ?zh16⟩, ⟨⟨_, _, _, _, PySem.F.excBase_LookupError, ?za17, _, _, _, _, _, _, _, _, _, _, _, _, _, _, _, ?zx17, ?zr17⟩, ?zk17, PySem.W.mg_of KX G ?zh17⟩, ⟨⟨_, _, _, _, PySem.F.excBase_ArithmeticError, PySem.F.store_ArithmeticError, rfl, by decide +kernel, _, _, _, _, _, _, _, _, _, _, _, _, _, _, _, ?zx18, ?zr18⟩, ?zs18, ?zk18⟩, ?zn18, ⟨_, _, ?za18, ?zt18, L2.fun_mk ?zl18 ?zc18 ?zkk18⟩, ⟨⟨_, _, _, _, PySem.F.excBase_ArithmeticError, PySem.F.store_ArithmeticError, rfl, by decide +kernel, _, _, _, _, _, _, _, _, _, _, _, _, _, _, _, ?zx19, ?zr19⟩, ?zs19, ?zk19⟩, ?zn19, ⟨_, _, ?za19, ?zt19, L2.fun_mk ?zl19 ?zc19 ?zkk19⟩, PySem.W.mg_none_of KX G ?zmV, PySem.W.mg_none_of KX G ?zmL, PySem.W.mg_none_of KX G ?zmA, ⟨_, PySem.W.mg_of KX G ?zqMOST_CLAIMANTS⟩, ⟨_, PySem.W.mg_of KX G ?zqMOST_SHARERS⟩, ⟨_, PySem.W.mg_of KX G ?zqMOST_HEAD⟩, ⟨_, PySem.W.mg_of KX G ?zqMOST_STATEMENTS⟩, ?gMI, ⟨_, PySem.W.mg_of KX G ?zqMOST_COMPARED⟩, ⟨_, PySem.W.mg_of KX G ?zqMOST_LISTED⟩, ?rows, ?each⟩⟩
      (case zg0 => first | k_is | rfl | decide +kernel)
      (case zg1 => first | k_is | rfl | decide +kernel)
      (case zg2 => first | k_is | rfl | decide +kernel)
      (case zg3 => first | k_is | rfl | decide +kernel)
      (case zg4 => first | k_is | rfl | decide +kernel)
      (case zg5 => first | k_is | rfl | decide +kernel)
      (case zg6 => first | k_is | rfl | decide +kernel)
      (case zg7 => first | k_is | rfl | decide +kernel)
      (case zg8 => first | k_is | rfl | decide +kernel)
      (case zg9 => first | k_is | rfl | decide +kernel)
      (case zg10 => first | k_is | rfl | decide +kernel)
      (case zg11 => first | k_is | rfl | decide +kernel)
      (case zg12 => first | k_is | rfl | decide +kernel)
      (case zg13 => first | k_is | rfl | decide +kernel)
      (case zg14 => first | k_is | rfl | decide +kernel)
      (case zg15 => first | k_is | rfl | decide +kernel)
      (case zg16 => first | k_is | rfl | decide +kernel)
      (case zg17 => first | k_is | rfl | decide +kernel)
      (case zg18 => first | k_is | rfl | decide +kernel)
      (case zg19 => first | k_is | rfl | decide +kernel)
      (case zgI => first | k_is | rfl | decide +kernel)
      (case zgS => first | k_is | rfl | decide +kernel)
      (case zgZ => first | k_is | rfl | decide +kernel)
      (case zx0 => first | k_is | rfl | decide +kernel)
      (case zr0 => first | k_is | rfl | decide +kernel)
      (case zs0 => first | k_is | rfl | decide +kernel)
      (case zk0 => first | k_is | rfl | decide +kernel)
      (case zn0 => first | k_is | rfl | decide +kernel)
      (case za0 => first | k_is | rfl | decide +kernel)
      (case zt0 => first | k_is | rfl | decide +kernel)
      (case zl0 => first | k_is | rfl | decide +kernel)
      (case zc0 => first | k_is | rfl | decide +kernel)
      (case zkk0 => first | k_is | rfl | decide +kernel)
      (case zx1 => first | k_is | rfl | decide +kernel)
      (case zr1 => first | k_is | rfl | decide +kernel)
      (case zs1 => first | k_is | rfl | decide +kernel)
      (case zk1 => first | k_is | rfl | decide +kernel)
      (case zn1 => first | k_is | rfl | decide +kernel)
      (case za1 => first | k_is | rfl | decide +kernel)
      (case zt1 => first | k_is | rfl | decide +kernel)
      (case zl1 => first | k_is | rfl | decide +kernel)
      (case zc1 => first | k_is | rfl | decide +kernel)
      (case zkk1 => first | k_is | rfl | decide +kernel)
      (case zx2 => first | k_is | rfl | decide +kernel)
      (case zr2 => first | k_is | rfl | decide +kernel)
      (case zs2 => first | k_is | rfl | decide +kernel)
      (case zk2 => first | k_is | rfl | decide +kernel)
      (case zn2 => first | k_is | rfl | decide +kernel)
      (case za2 => first | k_is | rfl | decide +kernel)
      (case zt2 => first | k_is | rfl | decide +kernel)
      (case zl2 => first | k_is | rfl | decide +kernel)
      (case zc2 => first | k_is | rfl | decide +kernel)
      (case zkk2 => first | k_is | rfl | decide +kernel)
      (case zx3 => first | k_is | rfl | decide +kernel)
      (case zr3 => first | k_is | rfl | decide +kernel)
      (case zs3 => first | k_is | rfl | decide +kernel)
      (case zk3 => first | k_is | rfl | decide +kernel)
      (case zn3 => first | k_is | rfl | decide +kernel)
      (case za3 => first | k_is | rfl | decide +kernel)
      (case zt3 => first | k_is | rfl | decide +kernel)
      (case zl3 => first | k_is | rfl | decide +kernel)
      (case zc3 => first | k_is | rfl | decide +kernel)
      (case zkk3 => first | k_is | rfl | decide +kernel)
      (case zx4 => first | k_is | rfl | decide +kernel)
      (case zr4 => first | k_is | rfl | decide +kernel)
      (case zs4 => first | k_is | rfl | decide +kernel)
      (case zk4 => first | k_is | rfl | decide +kernel)
      (case zn4 => first | k_is | rfl | decide +kernel)
      (case za4 => first | k_is | rfl | decide +kernel)
      (case zt4 => first | k_is | rfl | decide +kernel)
      (case zl4 => first | k_is | rfl | decide +kernel)
      (case zc4 => first | k_is | rfl | decide +kernel)
      (case zkk4 => first | k_is | rfl | decide +kernel)
      (case zx5 => first | k_is | rfl | decide +kernel)
      (case zr5 => first | k_is | rfl | decide +kernel)
      (case zs5 => first | k_is | rfl | decide +kernel)
      (case zk5 => first | k_is | rfl | decide +kernel)
      (case zn5 => first | k_is | rfl | decide +kernel)
      (case za5 => first | k_is | rfl | decide +kernel)
      (case zt5 => first | k_is | rfl | decide +kernel)
      (case zl5 => first | k_is | rfl | decide +kernel)
      (case zc5 => first | k_is | rfl | decide +kernel)
      (case zkk5 => first | k_is | rfl | decide +kernel)
      (case zx6 => first | k_is | rfl | decide +kernel)
      (case zr6 => first | k_is | rfl | decide +kernel)
      (case zs6 => first | k_is | rfl | decide +kernel)
      (case zk6 => first | k_is | rfl | decide +kernel)
      (case zn6 => first | k_is | rfl | decide +kernel)
      (case za6 => first | k_is | rfl | decide +kernel)
      (case zt6 => first | k_is | rfl | decide +kernel)
      (case zl6 => first | k_is | rfl | decide +kernel)
      (case zc6 => first | k_is | rfl | decide +kernel)
      (case zkk6 => first | k_is | rfl | decide +kernel)
      (case zx7 => first | k_is | rfl | decide +kernel)
      (case zr7 => first | k_is | rfl | decide +kernel)
      (case zs7 => first | k_is | rfl | decide +kernel)
      (case zk7 => first | k_is | rfl | decide +kernel)
      (case zn7 => first | k_is | rfl | decide +kernel)
      (case za7 => first | k_is | rfl | decide +kernel)
      (case zt7 => first | k_is | rfl | decide +kernel)
      (case zl7 => first | k_is | rfl | decide +kernel)
      (case zc7 => first | k_is | rfl | decide +kernel)
      (case zkk7 => first | k_is | rfl | decide +kernel)
      (case zx8 => first | k_is | rfl | decide +kernel)
      (case zr8 => first | k_is | rfl | decide +kernel)
      (case zs8 => first | k_is | rfl | decide +kernel)
      (case zk8 => first | k_is | rfl | decide +kernel)
      (case zn8 => first | k_is | rfl | decide +kernel)
      (case za8 => first | k_is | rfl | decide +kernel)
      (case zt8 => first | k_is | rfl | decide +kernel)
      (case zl8 => first | k_is | rfl | decide +kernel)
      (case zc8 => first | k_is | rfl | decide +kernel)
      (case zkk8 => first | k_is | rfl | decide +kernel)
      (case zx9 => first | k_is | rfl | decide +kernel)
      (case zr9 => first | k_is | rfl | decide +kernel)
      (case zs9 => first | k_is | rfl | decide +kernel)
      (case zk9 => first | k_is | rfl | decide +kernel)
      (case zn9 => first | k_is | rfl | decide +kernel)
      (case za9 => first | k_is | rfl | decide +kernel)
      (case zt9 => first | k_is | rfl | decide +kernel)
      (case zl9 => first | k_is | rfl | decide +kernel)
      (case zc9 => first | k_is | rfl | decide +kernel)
      (case zkk9 => first | k_is | rfl | decide +kernel)
      (case zx10 => first | k_is | rfl | decide +kernel)
      (case zr10 => first | k_is | rfl | decide +kernel)
      (case zs10 => first | k_is | rfl | decide +kernel)
      (case zk10 => first | k_is | rfl | decide +kernel)
      (case zn10 => first | k_is | rfl | decide +kernel)
      (case za10 => first | k_is | rfl | decide +kernel)
      (case zt10 => first | k_is | rfl | decide +kernel)
      (case zl10 => first | k_is | rfl | decide +kernel)
      (case zc10 => first | k_is | rfl | decide +kernel)
      (case zkk10 => first | k_is | rfl | decide +kernel)
      (case zx11 => first | k_is | rfl | decide +kernel)
      (case zr11 => first | k_is | rfl | decide +kernel)
      (case zs11 => first | k_is | rfl | decide +kernel)
      (case zk11 => first | k_is | rfl | decide +kernel)
      (case zn11 => first | k_is | rfl | decide +kernel)
      (case za11 => first | k_is | rfl | decide +kernel)
      (case zt11 => first | k_is | rfl | decide +kernel)
      (case zl11 => first | k_is | rfl | decide +kernel)
      (case zc11 => first | k_is | rfl | decide +kernel)
      (case zkk11 => first | k_is | rfl | decide +kernel)
      (case zx12 => first | k_is | rfl | decide +kernel)
      (case zr12 => first | k_is | rfl | decide +kernel)
      (case zs12 => first | k_is | rfl | decide +kernel)
      (case zk12 => first | k_is | rfl | decide +kernel)
      (case zn12 => first | k_is | rfl | decide +kernel)
      (case za12 => first | k_is | rfl | decide +kernel)
      (case zt12 => first | k_is | rfl | decide +kernel)
      (case zl12 => first | k_is | rfl | decide +kernel)
      (case zc12 => first | k_is | rfl | decide +kernel)
      (case zkk12 => first | k_is | rfl | decide +kernel)
      (case zx13 => first | k_is | rfl | decide +kernel)
      (case zr13 => first | k_is | rfl | decide +kernel)
      (case zs13 => first | k_is | rfl | decide +kernel)
      (case zk13 => first | k_is | rfl | decide +kernel)
      (case zn13 => first | k_is | rfl | decide +kernel)
      (case za13 => first | k_is | rfl | decide +kernel)
      (case zt13 => first | k_is | rfl | decide +kernel)
      (case zl13 => first | k_is | rfl | decide +kernel)
      (case zc13 => first | k_is | rfl | decide +kernel)
      (case zkk13 => first | k_is | rfl | decide +kernel)
      (case zx14 => first | k_is | rfl | decide +kernel)
      (case zr14 => first | k_is | rfl | decide +kernel)
      (case zs14 => first | k_is | rfl | decide +kernel)
      (case zk14 => first | k_is | rfl | decide +kernel)
      (case zn14 => first | k_is | rfl | decide +kernel)
      (case za14 => first | k_is | rfl | decide +kernel)
      (case zt14 => first | k_is | rfl | decide +kernel)
      (case zl14 => first | k_is | rfl | decide +kernel)
      (case zc14 => first | k_is | rfl | decide +kernel)
      (case zkk14 => first | k_is | rfl | decide +kernel)
      (case za15 => first | k_is | rfl | decide +kernel)
      (case zx15 => first | k_is | rfl | decide +kernel)
      (case zr15 => first | k_is | rfl | decide +kernel)
      (case zk15 => first | k_is | rfl | decide +kernel)
      (case zh15 => first | k_is | rfl | decide +kernel)
      (case za16 => first | k_is | rfl | decide +kernel)
      (case zx16 => first | k_is | rfl | decide +kernel)
      (case zr16 => first | k_is | rfl | decide +kernel)
      (case zk16 => first | k_is | rfl | decide +kernel)
      (case zh16 => first | k_is | rfl | decide +kernel)
      (case za17 => first | k_is | rfl | decide +kernel)
      (case zx17 => first | k_is | rfl | decide +kernel)
      (case zr17 => first | k_is | rfl | decide +kernel)
      (case zk17 => first | k_is | rfl | decide +kernel)
      (case zh17 => first | k_is | rfl | decide +kernel)
      (case zx18 => first | k_is | rfl | decide +kernel)
      (case zr18 => first | k_is | rfl | decide +kernel)
      (case zs18 => first | k_is | rfl | decide +kernel)
      (case zk18 => first | k_is | rfl | decide +kernel)
      (case zn18 => first | k_is | rfl | decide +kernel)
      (case za18 => first | k_is | rfl | decide +kernel)
      (case zt18 => first | k_is | rfl | decide +kernel)
      (case zl18 => first | k_is | rfl | decide +kernel)
      (case zc18 => first | k_is | rfl | decide +kernel)
      (case zkk18 => first | k_is | rfl | decide +kernel)
      (case zx19 => first | k_is | rfl | decide +kernel)
      (case zr19 => first | k_is | rfl | decide +kernel)
      (case zs19 => first | k_is | rfl | decide +kernel)
      (case zk19 => first | k_is | rfl | decide +kernel)
      (case zn19 => first | k_is | rfl | decide +kernel)
      (case za19 => first | k_is | rfl | decide +kernel)
      (case zt19 => first | k_is | rfl | decide +kernel)
      (case zl19 => first | k_is | rfl | decide +kernel)
      (case zc19 => first | k_is | rfl | decide +kernel)
      (case zkk19 => first | k_is | rfl | decide +kernel)
      (case zmV => first | k_is | rfl | decide +kernel)
      (case zmL => first | k_is | rfl | decide +kernel)
      (case zmA => first | k_is | rfl | decide +kernel)
      (case zqMOST_CLAIMANTS => first | k_is | rfl | decide +kernel)
      (case zqMOST_SHARERS => first | k_is | rfl | decide +kernel)
      (case zqMOST_HEAD => first | k_is | rfl | decide +kernel)
      (case zqMOST_STATEMENTS => first | k_is | rfl | decide +kernel)
      (case zqMOST_COMPARED => first | k_is | rfl | decide +kernel)
      (case zqMOST_LISTED => first | k_is | rfl | decide +kernel)
      (case gMI => first | exact ⟨_, PySem.W.mg_of KX G (by k_is)⟩ | (obtain ⟨v, e1, e2⟩ := XH.2.val _ (List.mem_singleton.mpr rfl); cases e2; exact ⟨_, e1⟩) | (obtain ⟨v, e1, e2⟩ := XH.val _ (List.mem_singleton.mpr rfl); cases e2; exact ⟨_, e1⟩))
      (case rows => repeat' (first | exact LW.Each.nil | exact LW.RowK.nil | refine LW.Each.cons ?_ ?_ | refine LW.RowK.cons ?_ ?_ | rfl))
      (case each => repeat' (first | exact LW.Each.nil | refine LW.Each.cons ?_ ?_ | refine ⟨⟨?_, ?_, ?_, ?_, ?_, ?_, ?_, ?_⟩, ⟨?_, ?_, ?_, ?_⟩, ?_, ?_, ?_, ?_, ?_, ?_⟩ | rfl | (dsimp only; k_is) | decide +kernel)))
    exact LW.finishL KX G hmg B CR D__law_tank D__law_tap D__law_any D__law_created D__law_instances D__law_bases D__law_right D_law
