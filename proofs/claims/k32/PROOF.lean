import PyProof.Rows.All
import Wide.All
import OpenK.AllK
import Wide.FinOn
import PySem.Challenge.RW_wholeshares_k32_least_possible_by_listin
import HandS.ForMost
import HandS.ForExc
import HandS.Codes
import HandS.Gcd
import HandS.Wide
import HandS.WideBits
import HandS.RaiseMore
import HandS.StrMore
import HandS.FStr
import HandS.IsInst
import HandS.Flow
import HandS.Style
import HandS.SortInts
import PyProof.ReprRoads
import KE.GoesEnum
import KE.GoesMore
import HandS.Iter
import HandS.Star
import HandS.ClsMeth
import KE.KStar
import HandS.Deep
import HandS.TupAny
import HandS.TupMul
import HandS.Conv
import KE.DataMinMax
import HandS.Steps
import PyProof.ReprReads
import KE.GoesEnumKw
import HandS.SortKw
import HandS.Walk
import HandS.Rev
import HandS.Zip
import HandS.ExcInit
import HandS.ExcField
import HandS.ExcIs
import HandS.Lambda
import KE.KExcIs
import KE.GoesZip
import PyProof.MinMaxWalk
import PyProof.WalkInts
import HandS.SetFor
import HandS.Strs
import HandS.OwnEq
import HandS.More
import PyProof.InstEq
import KE.KCallOwn
import PyProof.ZipIter
import PyProof.CallType
import PyProof.TupleOfSeq
import PyProof.RulesTry
import PyProof.ReprLoop
import PyProof.ReprLen
import HandS.TupSets
import HandS.List
import HandS.Exc
import HandS.TryMany
import HandS.EndTab
import HandS.Defaults
set_option Elab.async false
set_option linter.all false
set_option maxRecDepth 100000
set_option maxHeartbeats 4000100
/-! views of the abstract heap, data in them -/
namespace LW
open L2 PySem.Spec PyProof.Rows PySem
/-- H without what stands at the addresses of A -/
def hv (A : List Addr) (H : Hp) : Hp := fun b => if b ∈ A then none else H b
theorem hv_in {A : List Addr} {H : Hp} {b : Addr} (h : b ∈ A) : hv A H b = none := if_pos h
theorem hv_out {A : List Addr} {H : Hp} {b : Addr} (h : b ∉ A) : hv A H b = H b := if_neg h
theorem hv_nil {H : Hp} : hv [] H = H := by
  funext b
  exact hv_out (by simp)
theorem hv_le {A : List Addr} {H : Hp} : Same (hv A H) H := fun b o h => by
  by_cases hb : b ∈ A
  · rw [hv_in hb] at h; cases h
  · rw [hv_out hb] at h; exact h
theorem hv_cons_le {A : List Addr} {a : Addr} {H : Hp} : Same (hv (a :: A) H) (hv A H) := fun b o h => by
  by_cases hb : b ∈ a :: A
  · rw [hv_in hb] at h; cases h
  · rw [hv_out hb] at h
    rw [hv_out fun z => hb (List.mem_cons_of_mem _ z)]
    exact h
/-- every address of A is held -/
def Hd (A : List Addr) (H : Hp) : Prop := ∀ a ∈ A, H a ≠ none
theorem Hd.nil {H : Hp} : Hd [] H := fun _ h => by cases h
theorem Hd.cons {A : List Addr} {H : Hp} {a : Addr} {o : HO} (e : H a = some o) (h : Hd A H) : Hd (a :: A) H := fun b hb => by
  rcases List.mem_cons.mp
        hb with z | z
  · subst z; rw [e]; exact fun z => by cases z
  · exact h b z
theorem Hd.out {A : List Addr} {H : Hp} {p : Addr} (h : Hd A H) (n : H p = none) : p ∉ A := fun z => h p z n
/-- all that stood outside A stands as before, and A is still held -/
structure Go (A : List Addr) (H H' : Hp) : Prop where
  keep : ∀ b o, b ∉ A → H b = some o → H' b = some o
  held : Hd A H → Hd A H'
theorem Go.refl {A : List Addr} {H : Hp} : Go A H H := ⟨fun _ _ _ h => h, fun h => h⟩
theorem Go.trans {A : List Addr} {H H1 H2 : Hp} (a : Go A H H1) (b : Go A H1 H2) : Go A H H2 := ⟨fun c o n h => b.keep c o n (a.keep c o n h), fun h => b.held (a.held h)⟩
theorem Go.of {A : List Addr} {H H' : Hp} (s : Same H H') : Go A H H' := ⟨fun b o _ h => s b o h, fun h a ha z => by
  cases q : H a with
  | none => exact h a ha q
  | some o => rw [s a o q] at z; cases z⟩
theorem Go.same {H H' : Hp} (s : Go [] H H') : Same H H' := fun b o h => s.keep b o (by simp) h
theorem Go.hv {A : List Addr} {H H' : Hp} (s : Go A H H') : Same (LW.hv A H) (LW.hv A H') := fun b o h => by
  by_cases hb : b ∈ A
  · rw [hv_in hb] at h; cases h
  · rw [hv_out hb] at h ⊢; exact s.keep b o hb h
theorem Go.free {A : List Addr} {H H' : Hp} (s : Go A H H') (h : Hd A H) {p : Addr} (n : H' p = none) : H p = none := by
  cases q : H p with
  | none => rfl
  | some o =>
    by_cases hp : p ∈ A
    · exact absurd n (s.held h p hp)
    · rw [s.keep p o hp q] at n; cases n
/-- a new thing -/
theorem same_new {H : Hp} {p : Addr} {o : HO} (n : H p = none) : Same H (upd H p o) := fun b u e => by
  rw [upd_ne (ne_of_none e n)]; exact e
theorem Go.new {A : List Addr} {H : Hp} {p : Addr} {o : HO} (n : H p = none) : Go A H (upd H p o) := .of (same_new n)
/-- a change within A -/
theorem Go.chg {A : List Addr} {H : Hp} {p : Addr} {o : HO} (h : p ∈ A) : Go A H (upd H p o) :=
  ⟨fun b u n e => by rw [upd_ne fun z => n (by rw [z]; exact h)]; exact e, fun hd a ha z => by
    by_cases e : a = p
    · subst e; rw [upd_same] at z; cases z
    · rw [upd_ne e] at z; exact hd a ha z⟩
/-- fewer hidden -/
theorem Go.drop {A : List Addr} {a : Addr} {H H' : Hp} (s : Go (a :: A) H H') (h : Hd (a :: A) H) (n : ∀ o, H a = some o → H' a = some o) : Go A H H' :=
  ⟨fun b o hb e => by
    by_cases z : b = a
    · subst z; exact n o e
    · exact s.keep b o (fun y => (List.mem_cons.mp y).elim z hb) e, fun _ b hb => s.held h b (List.mem_cons_of_mem _ hb)⟩
/-- a local thing at a, new since H, is forgotten -/
theorem Go.local {A : List Addr} {a : Addr} {H H1 H2 : Hp} (n : H a = none) (s1 : Go A H H1) (s : Go (a :: A) H1 H2) (hd : Hd (a :: A) H1) : Go A H H2 :=
  ⟨fun b o hb e => s.keep b o (fun y => by
    rcases List.mem_cons.mp y with y | y
    · subst y; rw [n] at e; cases e
    · exact hb y) (s1.keep b o hb e), fun _ b hb => s.held hd b (List.mem_cons_of_mem _ hb)⟩
section
variable {K : PySem.W.Frag} {H H' : Hp}
theorem seqT_same (e : Same H H') {a : Addr} {xs : List V} (h : SqT K H a xs) : SqT K H' a xs := by
  rcases h with (h | ⟨o,
        h⟩) | h
  · exact .inl (.inl (e _ _ h))
  · exact .inl (.inr ⟨o,
        e _ _ h⟩)
  · exact .inr h
end
/-- v is the data d: None, bools, ints, texts, lists, tuples, and the empty dict -/
inductive D (K : PySem.W.Frag) (H : Hp) : V → PyData → Prop
  | non : D K H .non .none
  | bl (b : Bool) : D K H (.bl b) (.bool b)
  | int (i : Int) : D K H (.int i) (.int i)
  | str (x : Str) : D K H (.str x) (.str x)
  | lst {a : Addr} {xs : List V} {ds : List PyData} (h : SqL K H a xs) (len : xs.length = ds.length) (all : ∀ (i : Nat) (v : V) (d : PyData), xs[i]? = some v → ds[i]? = some d → D K H v d) : D K H (.ref a) (.list ds)
  | tup {a : Addr} {xs : List V} {ds : List PyData} (h : SqT K H a xs) (len : xs.length = ds.length) (all : ∀ (i : Nat) (v : V) (d : PyData), xs[i]? = some v → ds[i]? = some d → D K H v d) : D K H (.ref a) (.tuple ds)
  | dct {a : Addr} (h : H a = some (.dK [])) (ne : a ≠ sysModules) : D K H (.ref a) (.dict [])
/-- .. of each -/
structure DAll (K : PySem.W.Frag) (H : Hp) (xs : List V) (ds : List PyData) : Prop where
  len : xs.length = ds.length
  all : ∀ (i : Nat) (v : V) (d : PyData), xs[i]? = some v → ds[i]? = some d → D K H v d
section
variable {K : PySem.W.Frag} {H H' : Hp}
theorem DAll.nil : DAll K H [] [] := ⟨rfl, fun i v d h => by simp at h⟩
theorem DAll.cons {v : V} {d : PyData} {vs : List V} {ds : List PyData} (h : D K H v d) (r : DAll K H vs ds) : DAll K H (v :: vs) (d :: ds) :=
  ⟨by rw [List.length_cons, List.length_cons, r.len], fun i w e h1 h2 => by
    cases i with
    | zero =>
      have e1 : v = w := Option.some.inj h1
      have e2 : d = e := Option.some.inj h2
      rw [← e1, ← e2]
      exact h
    | succ i => exact r.all i w e h1 h2⟩
theorem D.lst' {a : Addr} {xs : List V} {ds : List PyData} (h : SqL K H a xs) (r : DAll K H xs ds) : D K H (.ref a) (.list ds) := .lst h r.len r.all
theorem D.tup' {a : Addr} {xs : List V} {ds : List PyData} (h : SqT K H a xs) (r : DAll K H xs ds) : D K H (.ref a) (.tuple ds) := .tup h r.len r.all
theorem D.same (e : Same H H') {v : V} {d : PyData} (h : D K H v d) : D K H' v d := by
  induction h with
  | non => exact .non
  | bl b => exact .bl b
  | int i => exact .int i
  | str x => exact .str x
  | lst h len all ih => exact .lst (e.seq h) len ih
  | tup h len all ih => exact .tup (seqT_same e h) len ih
  | dct h ne => exact .dct (e _ _ h) ne
theorem DAll.same (e : Same H H') {vs : List V} {ds : List PyData} (h : DAll K H vs ds) : DAll K H' vs ds := ⟨h.len, fun i v d h1 h2 => D.same e (h.all i v d h1 h2)⟩
theorem hasDict_get {d : PyData} : ∀ {ds : List PyData} {i : Nat}, PyData.hasDictAll ds = false → ds[i]? = some d → d.hasDict = false
  | [], _, _, h => by simp at h
  | c :: ds, 0, q, h => by
    have e : c = d := Option.some.inj h
    subst e
    rw [PyData.hasDictAll, Bool.or_eq_false_iff] at q
    exact q.1
  | c :: ds, i + 1, q, h => by
    rw [PyData.hasDictAll, Bool.or_eq_false_iff] at q
    exact hasDict_get (i := i) q.2 h
theorem dpAll_of : ∀ {xs : List V} {ds : List PyData}, xs.length = ds.length → (∀ (i : Nat) (v : V) (d : PyData), xs[i]? = some v → ds[i]? = some d → Dp K H v d) → DpAll K H xs ds
  | [], [], _, _ => .nil
  | [], d :: ds, h, _ => by simp at h
  | v :: xs, [], h, _ => by simp at h
  | v :: xs, d :: ds, h, q => .cons (q 0 v d rfl rfl) (dpAll_of (by simpa using h) fun i w e h1 h2 => q (i + 1) w e h1 h2)
theorem D.dp {v : V} {d : PyData} (h : D K H v d) : d.hasDict = false → Dp K H v d := by
  induction h with
  | non => exact fun _ => .non
  | bl b => exact fun _ => .bl b
  | int i => exact fun _ => .int i
  | str x => exact fun _ => .str x
  | lst h len all ih => exact fun z => .lst h (dpAll_of len fun i v d h1 h2 => ih i v d h1 h2 (hasDict_get (by simpa [PyData.hasDict] using z) h2))
  | tup h len all ih => exact fun z => .tup h (dpAll_of len fun i v d h1 h2 => ih i v d h1 h2 (hasDict_get (by simpa [PyData.hasDict] using z) h2))
  | dct h ne => exact fun z => by simp [PyData.hasDict] at z
end
section
variable {X : Cx} {pins : List (Addr × Obj)} {σ :
      L2.St} {H : Hp} {s : Shared}
theorem readsAll_of {h : Heap} {P : List Addr → Prop} (p0 : P []) (pa : ∀ a b, P a → P b → P (a ++ b)) : ∀ {us : List Value} {ds : List PyData}, us.length = ds.length → (∀ (i : Nat) (u : Value) (d : PyData), us[i]? = some u → ds[i]? = some d → ∃ as, Reads h u d as ∧ P as) → ∃ as, ReadsAll h us ds as ∧ P as
  | [], [], _, _ => ⟨_, .nil, p0⟩
  | [], d :: ds, h, _ => by simp at h
  | v :: xs, [], h, _ => by simp at h
  | v :: xs, d :: ds, h, q => by
    obtain ⟨as, r1, h1⟩ := q 0 v d rfl rfl
    obtain ⟨bs, r2, h2⟩ := readsAll_of p0 pa (us := xs) (ds := ds) (by simpa using h) fun i w e h1 h2 => q (i + 1) w e h1 h2
    exact ⟨_, .cons r1 r2, pa _ _ h1 h2⟩
theorem vals_get' : ∀ {xs : List V} {us : List Value} {i : Nat} {u : Value}, Vals xs us → us[i]? = some u → ∃ x, xs[i]? = some x ∧ RelV x u
  | _, _, _, _, .nil, e =>
        by simp at e
  | _, _, 0, _, .cons r _, e => by
        simp at e; subst e; exact ⟨_, rfl, r⟩
  | _, _, i + 1, x, .cons
        _ t, e => by
    obtain ⟨u, h1, h2⟩ := vals_get' (i := i) (u := x) t (by simpa using e)
    exact ⟨u, by
          simpa using h1, h2⟩
/-- the model's own reading of data -/
theorem D.reads (I : Inv X pins σ H s) {v : V} {d : PyData} (h : D X.K H v d) : ∀ u, RelV v u → ∃ as, Reads s.heap u d as := by
  induction h with
  | non => intro u r; cases r; exact ⟨_, .none⟩
  | bl b => intro u r; cases r; exact ⟨_, .bool b⟩
  | int i => intro u r; obtain ⟨t, rfl⟩ := r; exact ⟨_, .int i t⟩
  | str x => intro u r; obtain ⟨t, rfl⟩ := r; exact ⟨_, .str x t⟩
  | lst h len all ih =>
    intro u r
    cases r
    obtain ⟨its, rv, ⟨o, n, ho, hc, _, hd⟩, _⟩ := I.list h
    obtain ⟨as, hr, _⟩ := readsAll_of (P := fun _ => True) (h := s.heap) (us := its) trivial (fun _ _ _ _ => trivial) (by rw [← rv.length, len]) fun i u d h1 h2 => by
      obtain ⟨x, e, rx⟩ := vals_get' rv h1
      obtain ⟨as, q⟩ := ih i x d e h2 u rx
      exact ⟨as, q, trivial⟩
    exact ⟨_, .list ho hc hd hr⟩
  | tup h len all ih =>
    intro u r
    cases r
    obtain ⟨its, rv, ⟨o, ho, hc, n, hd⟩, _⟩ := I.tuple h
    obtain ⟨as, hr, _⟩ := readsAll_of (P := fun _ => True) (h := s.heap) (us := its) trivial (fun _ _ _ _ => trivial) (by rw [← rv.length, len]) fun i u d h1 h2 => by
      obtain ⟨x, e, rx⟩ := vals_get' rv h1
      obtain ⟨as, q⟩ := ih i x d e h2 u rx
      exact ⟨as, q, trivial⟩
    exact ⟨_, .tuple ho hc hd hr⟩
  | dct h ne =>
    intro u r
    cases r
    obtain ⟨_, _, vs, kv, o, es, ep, ho, ⟨hc, _, _⟩, hd, _, prs, _⟩ := I.hok _ _ h
    cases kv
    have e0 : es.toList = [] := by
      cases q : es.toList with
      | nil => rfl
      | cons x r => rw [q] at prs; cases prs
    refine ⟨_, Reads.dict ho hc hd (as := []) (bs := []) ?_ ?_⟩
    · rw [e0]; exact .nil
    · rw [e0]; exact .nil
end
/-- v is the data d, seen without A -/
abbrev Is (K : PySem.W.Frag) (A : List Addr) (H : Hp) (v : V) (d : PyData) : Prop := D K (hv A H) v d
abbrev Iss (K : PySem.W.Frag) (A : List Addr) (H : Hp) (vs : List V) (ds : List PyData) : Prop := DAll K (hv A H) vs ds
section
variable {K : PySem.W.Frag} {A : List Addr} {H H' : Hp} {v : V} {vs : List V} {d : PyData} {ds : List PyData} {a p : Addr}
theorem Is.mono (s : Go A H H') (h : Is K A H v d) : Is K A H' v d := D.same s.hv h
theorem Iss.mono (s : Go A H H') (h : Iss K A H vs ds) : Iss K A H' vs ds := DAll.same s.hv h
theorem Is.full (h : Is K A H v d) : D K H v d := D.same hv_le h
theorem Iss.full (h : Iss K A H vs ds) : DAll K H vs ds := DAll.same hv_le h
theorem Is.more (n : H a = none) (h : Is K A H v d) : Is K (a :: A) H v d := by
  refine D.same (fun b o e => ?_) h
  by_cases hb : b ∈ A
  · rw [hv_in hb] at e; cases e
  · rw [hv_out hb] at e
    rw [hv_out fun z => by
      rcases List.mem_cons.mp
            z with z | z
      · subst z; rw [n] at e; cases e
      · exact hb z]
    exact e
theorem Is.less (h : Is K (a :: A) H v d) : Is K A H v d := D.same hv_cons_le h
theorem Iss.less (h : Iss K (a :: A) H vs ds) : Iss K A H vs ds := DAll.same hv_cons_le h
theorem is_int {i : Int} (h : Is K A H v (.int i)) : v = .int i := by cases h; rfl
theorem is_tup (h : Is K A H v (.tuple ds)) : ∃ a vs, v = .ref a ∧ SqT K (hv A H) a vs ∧ Iss K A H vs ds := by
  cases h with
  | tup h l a => exact ⟨_, _, rfl, h, l, a⟩
theorem is_lst (h : Is K A H v (.list ds)) : ∃ a vs, v = .ref a ∧ SqL K (hv A H) a vs ∧ Iss K A H vs ds := by
  cases h with
  | lst h l a => exact ⟨_, _, rfl, h, l, a⟩
theorem iss_nil (h : Iss K A H vs []) : vs = [] := List.length_eq_zero_iff.mp h.len
theorem iss_cons (h : Iss K A H vs (d :: ds)) : ∃ v ws, vs = v :: ws ∧ Is K A H v d ∧ Iss K A H ws ds := by
  obtain ⟨l, q⟩ := h
  cases vs with
  | nil => simp at l
  | cons v ws => exact ⟨v, ws, rfl, q 0 v d rfl rfl, by simpa using l, fun i w e h1 h2 => q (i + 1) w e h1 h2⟩
theorem iss_len (h : Iss K A H vs ds) : vs.length = ds.length := by
  induction ds generalizing vs with
  | nil => rw [iss_nil h]; rfl
  | cons d ds ih =>
    obtain ⟨v, ws, rfl, _, r⟩ := iss_cons h
    rw [List.length_cons, List.length_cons, ih r]
theorem iss_get (h : Iss K A H vs ds) {i : Nat} (e : ds[i]? = some d) : ∃ v, vs[i]? = some v ∧ Is K A H v d := by
  induction ds generalizing vs i with
  | nil => simp at e
  | cons c ds ih =>
    obtain ⟨v, ws, rfl, q, r⟩ := iss_cons h
    cases i with
    | zero =>
      have e' : c = d := Option.some.inj e
      subst e'
      exact ⟨v, rfl, q⟩
    | succ i => exact ih r e
theorem iss_get' (h : Iss K A H vs ds) {i : Nat} (e : vs[i]? = some v) : ∃ d, ds[i]? = some d ∧ Is K A H v d := by
  have hi : i < vs.length := (List.getElem?_eq_some_iff.mp e).1
  rw [iss_len h] at hi
  obtain ⟨w, e2, q⟩ := iss_get h (List.getElem?_eq_getElem hi)
  rw [e] at e2
  cases e2
  exact ⟨_, List.getElem?_eq_getElem hi, q⟩
theorem iss_app {ws : List V} {es : List PyData} (h : Iss K A H vs ds) (r : Iss K A H ws es) : Iss K A H (vs ++ ws) (ds ++ es) := by
  induction ds generalizing vs with
  | nil => rw [iss_nil h]; exact r
  | cons c ds ih =>
    obtain ⟨v, vs', rfl, q, r'⟩ := iss_cons h
    exact DAll.cons q (ih r')
theorem iss_ints : ∀ ns : List Int, Iss K A H (ns.map V.int) (ns.map PyData.int)
  | [] => DAll.nil
  | n :: ns => DAll.cons (.int n) (iss_ints ns)
theorem sqT_full (h : SqT K (hv A H) a vs) : SqT K H a vs := seqT_same hv_le h
theorem sqL_full (h : SqL K (hv A H) a vs) : SqL K H a vs := Same.seq hv_le h
theorem is_new_tup (hd : Hd A H) (n : H p = none) (h : Iss K A H vs ds) : Is K A (upd H p (.tup vs)) (.ref p) (.tuple ds) :=
  .tup' (.inl (.inl (by rw [hv_out (hd.out n)]; exact upd_same))) (Iss.mono (.new n) h)
theorem is_new_lst (hd : Hd A H) (n : H p = none) (h : Iss K A H vs ds) : Is K A (upd H p (.lst vs)) (.ref p) (.list ds) :=
  .lst' (.inl (.inl (by rw [hv_out (hd.out n)]; exact upd_same))) (Iss.mono (.new n) h)
/-- a list of the def's own at l, let go -/
theorem is_own_lst {l : Addr} (e : H l = some (.lst vs)) (hl : l ∉ A) (h : Iss K (l :: A) H vs ds) : Is K A H (.ref l) (.list ds) :=
  .lst' (.inl (.inl (by rw [hv_out hl]; exact e))) (Iss.less h)
theorem hd_new (hd : Hd A H) (n : H p = none) {o : HO} : Hd A (upd H p o) := (Go.new n).held hd
end
end LW
set_option Elab.async false
set_option linter.all false
set_option maxRecDepth 100000
set_option maxHeartbeats 4000100
/-! defs that run where nothing is being shown (no repr is under way) -/
namespace LW
open L2 PySem.Spec PyProof.Rows PySem
/-- a def's promise, where no repr is under way -/
structure FnG (P : Program) (w : World) (K : PySem.W.Frag) (mg : Str → Option Value) (base : Heap) (CX : CXT) (k : Nat) (f : Addr) (fd : FuncData) (ps : List Str) (sp : Sp) : Prop where
  args : ∀ vs H Q E, sp vs H Q E → vs.length = ps.length
  runs : ∀ (A : Around) (outer : List Env) (s : Shared) (H : Hp) (given : Args) (us : List Value) (vs : List V) (Q : VK) (E : XK), Room k A → A.guards = some [] →
    Env0 P w K mg base A outer s H → BindsTo s fd given (ps.zip us) → Vals vs us → sp vs H Q E →
    codeAny (model P w) A (.call (.ref f) given) (CR CX outer P w H s Q E) s
theorem FnG.of {P : Program} {w : World} {K : PySem.W.Frag} {mg : Str → Option Value} {base : Heap} {CX : CXT} {k : Nat} {f : Addr} {fd : FuncData} {ps : List Str} {sp : Sp}
    (F : FnOk P w K mg base CX k f fd ps sp) : FnG P w K mg base CX k f fd ps sp :=
  ⟨F.len, fun A outer s H given us vs Q E hr _ e0 hb hv hs => F.run A outer s H given us vs Q E hr e0 hb hv hs⟩
section
variable {P : Program} {w : World} {K : PySem.W.Frag} {mg : Str
      → Option Value} {base : Heap}
/-- from the body -/
theorem fnG_of {CX : CXT} {k : Nat} {f : Addr} {name qual : Str} {params : Arguments} {body : List Stmt} {scope : Scope} {dV kV doc pm cdv ct oc : Value} {an od : Option Addr}
    {osl : Array (Option Value)} {N ps :
          List Str} {sp : Sp}
    (lk : K.lookup f = some ⟨oc, od, .func (PySem.W.fnOf name qual params body scope dV kV doc pm an cdv ct), osl⟩)
    (hcode : PySem.W.codeIn K cdv qual = true) (S : FnScope N ps scope)
    (lens : ∀ vs H Q E, sp vs H Q E → vs.length = ps.length)
    (inner : ∀ (A : Around) (outer : List Env) (s : Shared) (H : Hp) (vs : List V) (Q : VK) (E : XK), Room k (A.deeper (envOfC qual scope s.heap.objs.size f cdv)) → A.guards = some [] → sp vs H Q E →
      ∃ t, PSs (cxOf CX P w K mg base N qual scope f cdv A outer s H E) body t ∧
        t { nx := fun _ H' => Q .non H', rt := Q } (start N vs) H) :
    FnG P w K mg base CX (k + 1) f (PySem.W.fnOf name qual params body scope dV kV doc pm an cdv ct) ps sp := by
  refine ⟨lens, ?_⟩
  intro A outer s H given us vs Q E room quiet e0 hbind rel want
  have same_len := lens _ _ _ _ want
  have KS : K.In s.heap := e0.mod.kin.keeps (fun b o e => (e0.bs b o e).1)
  have NL : s.heap.NoLimit := e0.mod.nolimit.keeps (fun b o e => (e0.bs b o e).1)
  have kinds : ∀ y ∈ ps.zip us, scope.names.lookup y.1 = some .local ∨
      (scope.names.lookup y.1 = some .cell ∧ ((cellsFrom (s.heap.objs.size + 1) scope.names []).lookup y.1).isSome = true) := by
    rintro ⟨n, v⟩ hy
    cases S.par n (List.of_mem_zip hy).1 with
    | inl q => exact Or.inl q
    | inr q => exact Or.inr ⟨q, PySem.W.cellsFrom_some _ _ _ (Or.inl q)⟩
  refine codeAny_call_function room.depth (KS _ _ lk) rfl S.co S.gen rfl (PySem.W.codeRec_of KS hcode) (hbind _ _ _ _ ?_)
  refine wpAny_newFunctionEnv_cells S.kind kinds ?_
  intro env hE s1 inn
  subst hE
  refine ⟨NL.keeps inn.toInCall.keep, ?_⟩
  refine codeAny_func ?_
  obtain ⟨t, der, rd⟩ := inner A outer s H vs Q E (room.deeper _) quiet want
  have I0 : Inv (cxOf CX P w K mg base N qual scope f cdv A outer s H E) [] (start N vs) H s1 := inv_start S room.hd e0 same_len rel inn
  refine wpAny_mono (der.run [] s1 (start N vs) H _ I0 rd) ?_ (fun e s' hs => hs)
  intro fl s' hs
  have out : ∀ {σ' : L2.St} {H' : Hp} {v : V} {u : Value}, Inv (cxOf CX P w K mg base N qual scope f cdv A outer s H E) [] σ' H' s' → RelV v u → Q v H' → CE outer P w H s Q u s' := by
    intro σ' H' v u J rv q
    exact ⟨v, H', J.os, J.bare, J.base, J.hok, rv, q⟩
  match fl, hs with
  | .ret u, ⟨v, σ', H', J, rv, q⟩ => exact out J rv q
  | .next, ⟨σ', H', J, q⟩ => exact out (v := V.non) (u := Value.none) J rfl q
  | .brk, ⟨_, _, _, q⟩ => exact q.elim
  | .cont, ⟨_, _, _, q⟩ => exact q.elim
theorem Fun_okG {x qual : Str} {st : Stmt} {f : Addr} {fd : FuncData} {N ps : List Str} {k : Nat} {sp : Sp} (F : Fun K x qual st f fd) (S : FnScope N ps (defScope st)) (lens : ∀ vs H Q E, sp vs H Q E → vs.length = ps.length)
    (inner : ∀ (cdv : Value) (A : Around) (outer : List Env) (s : Shared) (H : Hp) (vs : List V) (Q : VK) (E : XK), Room k (A.deeper (envOfC qual (defScope st) s.heap.objs.size f cdv)) → A.guards = some [] → sp vs H Q E →
      ∃ t, PSs (cxOf CX0 P w K mg base N qual (defScope st) f cdv A outer s H E).nox (defBody st) t ∧ t { nx := fun _ H' => Q .non H', rt := Q } (start N vs) H) : FnG P w K mg base CX0 (k + 1) f fd ps sp := by
  obtain ⟨oc, od, kV, doc, pm, an, cdv, ct, osl, rfl, lk, hcode⟩ := F.ex
  refine fnG_of lk hcode S lens ?_
  intro A outer s H vs Q E room quiet want
  obtain ⟨t, der, rd⟩ := inner cdv A outer s H vs Q E room quiet want
  exact ⟨t, der.nox, rd⟩
end
section
variable {X : Cx} {CX : CXT} {k : Nat} {f : Addr} {fd : FuncData} {ps : List Str} {sp : Sp} {dvs : List V} {ds : List Value} {E : XK} {x : Str} {p pos : Pos} {e : Expr} {es : List Expr} {t : TA}
/-- f(e, ..) of such a def -/
theorem pe_callG (quiet : X.A.guards = some []) (F : FnG X.prog X.w X.K X.mg X.base CX k f fd ps sp) (hr : Room k X.A) (hg : Gl X x) (hm : X.mg x = some (.ref f)) (hk : PySem.W.keepIn X.K (.ref f) = true) (hb : Binds X.K fd ps ds) (hd : Vals dvs ds) (hx : Passes CX X E)
    (ha : PA X (e :: es) t) (hdb : (x == ("__debug__" : Str)) = false := by decide) (he : starEach (e :: es) X.env = (false, eval e X.env) :: starEach es X.env := by rfl)
    (hpl : (backTo pos (starEach es X.env)).any (·.1) = false := by rfl) :
    PE X (.Call (.Name x p) (e :: es) [] pos)
          (tCall sp dvs E t) := by
  constructor
  intro pins s σ H Q I h
  refine wpAny_Call_Name_kw (ld_glob
        I hg hm ?_ hdb)
  refine PySem.W.callWith_K (h₀ := X.base) I.ok.mod.kin hk (thn (ha.run pos pins s σ H _ I h) ?_) he hpl
  rintro us s1 ⟨vs, H1, I1, r, q⟩
  refine ⟨I1.kIn, ?_⟩
  have rel : Vals (vs ++ dvs) (us ++ ds) := r.append hd
  have ln : (us ++ ds).length = ps.length := rel.length ▸ F.args _ _ _ _ q
  refine wpAny_call (codeAny_mono (F.runs X.A X.stack s1 H1 ⟨us, []⟩ (us ++ ds) (vs ++ dvs) Q E hr quiet I1.env0 (hb s1 us I1.kIn ln) rel q) ?_)
  intro res s' fin
  match res, fin with
  | .error er, fin => exact hx pins σ H1 s1 er s' I1 fin
  | .ok (.ret u), fin => exact I1.after fin
  | .ok .next, fin => exact fin.elim
  | .ok .brk, fin => exact fin.elim
  | .ok .cont, fin => exact fin.elim
end
/-! ### repr of data -/
end LW
namespace LW
open L2 PySem.Spec PyProof.Rows PySem
/-! ### the law's own call -/
theorem law_start {P : Program} {w : World} {K : PySem.W.Frag} {mg mb : Str → Option Value} {k : Nat} {fa a : Addr} {fd : FuncData} {x : Str} {sp : Sp} {s₁ : Shared} {vs : List Value} {ns : List Int}
    (KX : K.In s₁.heap) (gl : s₁.heap.Ns mainGlobals mg) (bl : s₁.heap.Ns builtinsNs mb) (bb : ∀ x : Str, x ≠ "__name__" → mb x = bootBuiltins x) (lim : s₁.heap.NoLimit) (gn : s₁.gens = #[])
    (sa : s₁.heap.get? a = some { cls := .type "list", data := .seq vs.toArray }) (si : IntsAre vs ns) (sl : ns.length ≤ sizeLine) (room : Room k callerA)
    (F : ∀ base : Heap, K.In base → base.Ns mainGlobals mg → FnG P w K mg base CX0 k fa fd [x] sp) (bind : ∀ (s : Shared) (u : Value), BindsTo s fd ⟨[u], []⟩ [(x, u)])
    (want : ∀ H : Hp, SqL K H a (ns.map V.int) → sp [.ref a] H (fun v _ => v = .bl true) fun _ _ _ => False) :
    codeAny (model P w) callerA (.call (.ref fa) ⟨[.ref a], []⟩) (fun r s' => r = .ok (.ret (.bool true)) ∧ OldK
          s₁.heap s'.heap ∧ s'.os = s₁.os ∧ AllBare s'.gens) s₁ := by
  have rels := vals_ints si
  have many := si.length
  let ob : Obj := { cls := .type "list", data := .seq vs.toArray }
  -- the heap that is tracked: the script alone, or nothing
  have main : ∀ H : Hp, (∀ b, H b = none ∨ (b = a ∧ K.lookup a = none ∧ H b = some (.frz ob (.lst (ns.map V.int))))) → SqL K H a (ns.map V.int) →
      codeAny (model P w) callerA (.call (.ref fa) ⟨[.ref a], []⟩) (fun r s' => r = .ok (.ret (.bool true)) ∧ OldK
            s₁.heap s'.heap ∧ s'.os = s₁.os ∧ AllBare s'.gens) s₁ := by
    intro H onlyA sq
    have ok : HOk P w H s₁.heap := by
      intro b u hb
      rcases onlyA b with z | ⟨rfl, _, z⟩
      · rw [z] at hb; cases hb
      · rw [z] at hb
        cases hb
        exact ⟨sa, by rw [List.length_map]; exact sl, vs, _, rels, sa⟩
    have untracked : ∀ {b : Addr} {o : Obj}, s₁.heap.get? b = some o → (∀ its n, o.data ≠ .seq its n) → H b = none := by
      intro b o e nd
      rcases onlyA b with z | ⟨rfl, _, _⟩
      · exact z
      · rw [sa] at e
        cases e
        exact (nd _ _ rfl).elim
    have lift : ∀ {b : Addr} {m : Str → Option Value}, s₁.heap.Ns b m → (hidT s₁.heap H).Ns b m := by
      rintro b m ⟨o, es, ep, e, d, r⟩
      exact ⟨o, es, ep, hidT_get e (untracked e fun its n z => by rw [d] at z; cases z), d, r⟩
    have KB : K.In (hidT s₁.heap H) := by
      intro b o e
      refine hidT_get (KX b o e) ?_
      rcases onlyA b with z | ⟨rfl, z, _⟩
      · exact z
      · rw [z] at e; cases e
    have env0 : Env0 P w K mg (hidT s₁.heap H) callerA [] s₁ H := by
      refine ⟨rfl, ⟨KB, lift gl, ⟨mb, lift bl, bb⟩, ?_⟩, fun b o e => of_hidT e, Nat.le_of_eq (hidT_size _ _), trivial, ?_, ok, .of_eq gn⟩
      · obtain ⟨mc, l1, l2⟩ := lim
        exact ⟨mc, lift l1, l2⟩
      · intro b hb
        simp [frs] at hb
    refine codeAny_mono ((F _ KB (lift gl)).runs callerA [] s₁ H ⟨[.ref a], []⟩ [.ref a] [.ref a] _ _ room rfl env0 (bind s₁ (.ref a)) (.cons rfl .nil) (want H sq)) ?_
    intro r s' fin
    match r, fin with
    | .error er, fin => exact fin.elim
    | .ok .next, fin => exact fin.elim
    | .ok .brk, fin => exact fin.elim
    | .ok .cont, fin => exact fin.elim
    | .ok (.ret u), ⟨v, H', os, bare, un, ok', rv, q⟩ =>
      have q' : v = .bl true := q
      subst q'
      have ru : u = Value.bool true := rv
      subst ru
      refine ⟨rfl, OldK.of_keep ?_, os, bare⟩
      intro b o e
      rcases onlyA b with z | ⟨rfl, _, z⟩
      · exact un.keep b o e z (by simp [frs]) (by simp)
      · obtain ⟨e2, _⟩ := ok' b _ (un.frzs b ob _ z)
        rw [sa] at e
        cases e
        exact e2
  by_cases own : K.lookup a = none
  · refine main (fun b => if b = a then some (.frz ob (.lst (ns.map V.int))) else none) (fun b => ?_) (.inl (.inr ⟨ob, if_pos rfl⟩))
    by_cases z : b = a
    · exact .inr ⟨z, own, if_pos z⟩
    · exact .inl (if_neg z)
  · cases q : K.lookup a with
    | none => exact (own q).elim
    | some o =>
      have e := KX a o q
      rw [sa] at e
      cases e
      exact main (fun _ => none) (fun _ => .inl rfl) (.inr ⟨_, vs.toArray, _, q, rfl, rfl, rfl, by rw [List.size_toArray, many]; exact sl, by simpa using rels⟩)
theorem law_walk {l : PySem.W.OpenLaw} {n k : Nat} {q : Program} {loose : List Str} {XP : (Str → Option Value) → Heap → Prop} {YP : World → Heap → Prop} {d : DefRec} {K : Params → PySem.W.Frag} {sp : PySem.W.Frag → Sp} {x : Str}
    (most : l.most = some n) (short : n ≤ sizeLine) (noDefaults : d.params.defaults = []) (room : Room k callerA)
    (written : ∀ (w : World) (h : Heap), YP w h → (K w.params).In h)
    (F : ∀ (w : World) (mg : Str → Option Value) (fa : Addr) (h : Heap), (K w.params).In h → h.Ns mainGlobals mg → XP mg h → mg d.name = some (.ref fa) →
      ∃ fd : FuncData, (∀ (s : Shared) (u : Value), BindsTo
            s fd ⟨[u], []⟩ [(x, u)]) ∧
        ∀ base : Heap, (K w.params).In base → base.Ns mainGlobals mg → FnG l.prog w (K w.params) mg base CX0 k fa fd [x] (sp (K w.params)))
    (want : ∀ (K : PySem.W.Frag) (H : Hp) (a : Addr) (ns : List Int), ns.length ≤ n → SqL K H a (ns.map V.int) → sp K [.ref a] H (fun v _ => v = .bl true) fun _ _ _ => False) :
    PySem.W.WalkO q loose XP YP l.row.toRowW d [] (fun f vs
          => PySem.call f vs) := by
  refine Att.attach_call most noDefaults ?_
  intro w s₀ s₁ mg mb fa o pm cd doc a vs ns G Y ho hd hcd hmg hobj hints hlen hg
  have KX := written w _ Y
  obtain ⟨fd, hb, hF⟩ := F w mg fa _ KX G.T.g G.X hmg
  exact law_start KX G.T.g G.T.b G.T.builtins G.T.nolimit hg hobj hints (Nat.le_trans hlen short) room hF hb (fun H hS => want (K w.params) H a ns hlen hS)
end LW
set_option Elab.async false
set_option linter.all false
set_option maxRecDepth 100000
set_option maxHeartbeats 4000100
/-! what the readings of common parts ask, from facts of data; the built-in names -/
namespace LW
open L2 PySem.Spec PyProof.Rows PySem
/-- the built-in names are still that -/
structure Bl (mg : Str → Option Value) : Prop where
  len : mg "len" = none
  abs : mg "abs" = none
  divmod : mg "divmod" = none
  sorted : mg "sorted" = none
  all : mg "all" = none
  any : mg "any" = none
  sum : mg "sum" = none
  max : mg "max" = none
  min : mg "min" = none
  repr : mg "repr" = none
  isinstance : mg "isinstance" = none
  int : mg "int" = none
  str : mg "str" = none
  bool : mg "bool" = none
  tuple : mg "tuple" = none
  list : mg "list" = none
  set : mg "set" = none
  dict : mg "dict" = none
  range : mg "range" = none
  enumerate : mg "enumerate" = none
  reversed : mg "reversed" = none
  zip : mg "zip" = none
/-- a def of the text, by its name -/
structure OwnDef (K : PySem.W.Frag) (mg : Str → Option Value) (x : Str) (st : Stmt) : Prop where
  ex : ∃ (f : Addr) (fd : FuncData), Fun K x x st f fd ∧ mg x = some (.ref f)
/-- a def that may be called by its name -/
structure Cal (P : Program) (w : World) (K : PySem.W.Frag) (mg : Str → Option Value) (base : Heap) (k :
      Nat) (x : Str) (sp : Sp) (dvs : List V) : Prop where
  ex : ∃ (f : Addr) (fd : FuncData) (ps : List Str) (ds : List Value), FnOk P w K mg base CX0 k f fd ps sp ∧ mg x = some (.ref f) ∧
    PySem.W.keepIn K (.ref f) = true ∧ Binds K fd ps ds ∧ Vals dvs ds
/-- .. where nothing is being shown -/
structure CalG (P : Program) (w : World) (K : PySem.W.Frag) (mg : Str → Option Value) (base : Heap) (k : Nat) (x : Str) (sp : Sp) (dvs : List V) : Prop where
  ex : ∃ (f : Addr) (fd : FuncData) (ps : List Str) (ds : List Value), FnG P w K mg base CX0 k f fd ps sp ∧ mg x = some (.ref f) ∧
    PySem.W.keepIn K (.ref f) = true ∧ Binds K fd ps ds ∧ Vals dvs ds
section
variable {X : Cx} {k j : Nat} {x : Str} {sp : Sp} {dvs : List V} {p pos : Pos} {e : Expr} {es : List Expr} {t : TA}
theorem pe_c (cl : Cal X.prog X.w X.K X.mg X.base k x sp dvs) (hr : Room j X.A) (hk : k ≤ j) (hg : Gl X x) (ha : PA X (e :: es) t)
    (hdb : (x == ("__debug__" : Str)) = false := by
          decide) (he : starEach (e :: es) X.env = (false, eval e X.env) :: starEach es X.env := by rfl)
    (hpl : (backTo pos (starEach es X.env)).any (·.1) = false := by rfl) :
    PE X (.Call (.Name x p) (e :: es) [] pos)
          (tCall sp dvs E0 t) := by
  obtain ⟨f, fd, ps, ds, F, m, kp, b, d⟩ := cl.ex
  exact pe_call F (hr.mono hk) hg m kp b d pass0 ha hdb he hpl
theorem pe_cG (quiet : X.A.guards = some []) (cl : CalG X.prog X.w X.K X.mg X.base k x sp dvs) (hr : Room j X.A) (hk : k ≤ j) (hg : Gl X x) (ha : PA X (e :: es) t)
    (hdb : (x == ("__debug__" : Str)) = false := by
          decide) (he : starEach (e :: es) X.env = (false, eval e X.env) :: starEach es X.env := by rfl)
    (hpl : (backTo pos (starEach es X.env)).any (·.1) = false := by rfl) :
    PE X (.Call (.Name x p) (e :: es) [] pos)
          (tCall sp dvs E0 t) := by
  obtain ⟨f, fd, ps, ds, F, m, kp, b, d⟩ := cl.ex
  exact pe_callG quiet F (hr.mono hk) hg m kp b d pass0 ha hdb he hpl
end
section
variable {K : PySem.W.Frag} {A : List Addr} {H : Hp} {v w : V} {vs : List V} {d : PyData} {ds : List PyData} {Q : VK}
theorem atI_of {xs : List V} {i : Int} {w : V} (h0 : 0 ≤ i) (e : xs[i.toNat]? = some w) : atI xs i = some w := by
  have z : i = (i.toNat : Int) := (Int.toNat_of_nonneg h0).symm
  rw [z]
  exact atI_nat e
theorem rd_tup {i : Int} (h : Is K A H v (.tuple ds)) (h0 : 0 ≤ i) (e : ds[i.toNat]? = some d) (k : ∀ w, Is K A H w d → Q w H) : rIx K v (.int i) H Q := by
  obtain ⟨a, ws, rfl, sq, all⟩ := is_tup h
  obtain ⟨w, ew, hw⟩ := iss_get all e
  exact .inr (.inl ⟨a, ws, i, w, rfl, rfl, sqT_full sq, atI_of h0 ew, k w hw⟩)
theorem rd_lst {i : Int} (h : Is K A H v (.list ds)) (h0 : 0 ≤ i) (e : ds[i.toNat]? = some d) (k : ∀ w, Is K A H w d → Q w H) : rIx K v (.int i) H Q := by
  obtain ⟨a, ws, rfl, sq, all⟩ := is_lst h
  obtain ⟨w, ew, hw⟩ := iss_get all e
  exact .inl ⟨a, ws, i, w, rfl, rfl, sqL_full sq, atI_of h0 ew, k w hw⟩
theorem rd_raw {a : Addr} {xs : List V} {i : Int} (h : SqL K H a xs) (h0 : 0 ≤ i) (e : xs[i.toNat]? = some w) (k : Q w H) : rIx K (.ref a) (.int i) H Q :=
  .inl ⟨a, xs, i, w, rfl, rfl, h, atI_of h0 e, k⟩
/-- an int of a tuple -/
theorem rd_int {i j : Int} (h : Is K A H v (.tuple ds)) (h0 : 0 ≤ i) (e : ds[i.toNat]? = some (.int j)) (k : Q (.int j) H) : rIx K v (.int i) H Q :=
  rd_tup h h0 e fun w hw => by rw [is_int hw]; exact k
end
/-! ### kinds of data -/
def tyN : PyData → String
  | .none => "NoneType"
  | .bool _ => "bool"
  | .int _ => "int"
  | .str _ => "str"
  | .list _ => "list"
  | .tuple _ => "tuple"
  | .dict _ => "dict"
section
variable {K : PySem.W.Frag} {A : List Addr} {H : Hp} {v w : V} {vs : List V} {d : PyData} {ds : List PyData} {Q : VK}
theorem D.ty (h : D K H v d) : TyX K H v (.type (tyN d)) := by
  cases h with
  | non => exact .base .non
  | bl b => exact .base (.bl b)
  | int i => exact .base (.int i)
  | str x => exact .base (.str x)
  | lst h len all =>
    rcases h with (h | ⟨o, h⟩) | ⟨o, its, n, h, hc, _⟩
    · exact .base (.lst h)
    · exact .base (.frz h)
    · exact .kList h hc
  | tup h len all =>
    rcases h with (h | ⟨o, h⟩) | ⟨o, its, n, h, hc, _⟩
    · exact .base (.tup h)
    · exact .fTuple h
    · exact .kTuple h hc
  | dct h => exact .base (.dK h)
def isIntD : PyData → Bool
  | .int _ => true
  | _ => false
def isTupD : PyData → Bool
  | .tuple _ => true
  | _ => false
def isStrD : PyData → Bool
  | .str _ => true
  | _ => false
def isBoolD : PyData → Bool
  | .bool _ => true
  | _ => false
theorem kit_int : ∀ d : PyData, kitB (tyN d) "int" = some (isIntD d || isBoolD d)
  | .none => (by decide +kernel : kitB "NoneType" "int" = some false)
  | .bool _ => (by decide +kernel : kitB "bool" "int" = some true)
  | .int _ => (by decide +kernel : kitB "int" "int" = some true)
  | .str _ => (by decide +kernel : kitB "str" "int" = some false)
  | .list _ => (by decide +kernel : kitB "list" "int" = some false)
  | .tuple _ => (by decide +kernel : kitB "tuple" "int" = some false)
  | .dict _ => (by decide +kernel : kitB "dict" "int" = some false)
theorem kit_bool : ∀ d : PyData, kitB (tyN d) "bool" = some (isBoolD d)
  | .none => (by decide +kernel : kitB "NoneType" "bool" = some false)
  | .bool _ => (by decide +kernel : kitB "bool" "bool" = some true)
  | .int _ => (by decide +kernel : kitB "int" "bool" = some false)
  | .str _ => (by decide +kernel : kitB "str" "bool" = some false)
  | .list _ => (by decide +kernel : kitB "list" "bool" = some false)
  | .tuple _ => (by decide +kernel : kitB "tuple" "bool" = some false)
  | .dict _ => (by decide +kernel : kitB "dict" "bool" = some false)
theorem kit_tup : ∀ d : PyData, kitB (tyN d) "tuple" = some (isTupD d)
  | .none => (by decide +kernel : kitB "NoneType" "tuple" = some false)
  | .bool _ => (by decide +kernel : kitB "bool" "tuple" = some false)
  | .int _ => (by decide +kernel : kitB "int" "tuple" = some false)
  | .str _ => (by decide +kernel : kitB "str" "tuple" = some false)
  | .list _ => (by decide +kernel : kitB "list" "tuple" = some false)
  | .tuple _ => (by decide +kernel : kitB "tuple" "tuple" = some true)
  | .dict _ => (by decide +kernel : kitB "dict" "tuple" = some false)
theorem kit_str : ∀ d : PyData, kitB (tyN d) "str" = some (isStrD d)
  | .none => (by decide +kernel : kitB "NoneType" "str" = some false)
  | .bool _ => (by decide +kernel : kitB "bool" "str" = some false)
  | .int _ => (by decide +kernel : kitB "int" "str" = some false)
  | .str _ => (by decide +kernel : kitB "str" "str" = some true)
  | .list _ => (by decide +kernel : kitB "list" "str" = some false)
  | .tuple _ => (by decide +kernel : kitB "tuple" "str" = some false)
  | .dict _ => (by decide +kernel : kitB "dict" "str" = some false)
end
/-! ### the tank: a list of three ints at a, changed by each draw -/
structure TankAt (H : Hp) (a : Addr) : Prop where
  ex : ∃ x y z : Int, H a = some (.lst [.int x, .int y, .int z]) ∧ 0 ≤ x ∧ 0 ≤ y ∧ y < 1610612741 ∧ 0 ≤ z
theorem TankAt.ne {H : Hp} {a : Addr} (t : TankAt H a) : H a ≠ none := by
  obtain ⟨x, y, z, e, _⟩ := t.ex
  rw [e]; exact fun z => by cases z
theorem TankAt.keep {H H' : Hp} {a : Addr} (t : TankAt H a) (s : Same H H') : TankAt H' a := by
  obtain ⟨x, y, z, e, r⟩ := t.ex
  exact ⟨x, y, z, s _ _ e, r⟩
end LW
namespace LW
open L2 PySem.Spec PyProof.Rows PySem
/-- what an expression gives, told once for all that may follow -/
theorem via {σ : L2.St} {H : Hp} {t : TE} {Q : VK} (P : V → Hp → Prop) (h : ∀ Q' : VK, (∀ v H', P v H' → Q' v H') → t σ H Q') (k : ∀ v H', P v H' → Q v H') : t σ H Q := h Q k
theorem some_map {α β : Type} {f : α → β} {l : List α} {i : Nat} {y : β} (h : (l.map f)[i]? = some y) : ∃ x, l[i]? = some x ∧ y = f x := by
  rw [List.getElem?_map] at h
  cases e : l[i]? with
  | none => rw [e]
        at h; cases h
  | some z => rw [e] at h; exact ⟨z, rfl, (Option.some.inj h).symm⟩
theorem map_some {α β : Type} {f : α → β} {l : List α} {i : Nat} {x : α} (h : l[i]? = some x) : (l.map f)[i]? = some (f x) := by
  rw [List.getElem?_map, h]; rfl
end LW
namespace LW
open L2 PySem.Spec PyProof.Rows PySem
theorem own_mk {K : PySem.W.Frag} {h : Heap} {mg : Str → Option Value} {x : Str} {st : Stmt} {f : Addr} {oc kV dc pm cd ct : Value} {od an : Option Addr} {sl : Array (Option Value)} (X : K.In h) (G : h.Ns mainGlobals mg)
    (a : PySem.W.nsIn K mainGlobals x = some (some (.ref f)))
    (l : K.lookup f = some ⟨oc, od, .func (PySem.W.fnOf x x (defArgs st) (defBody st) (defScope st) .none kV dc pm an cd ct), sl⟩)
    (co : PySem.W.codeIn K cd x = true) (k : PySem.W.keepIn K (.ref f) = true) : OwnDef K mg x st :=
  ⟨f, _, fun_mk (st := st) l co k, PySem.W.mg_of X G a⟩
end LW
namespace LW
open L2 PySem.Spec PyProof.Rows PySem
section
variable {X : Cx} {x : Str} {pos : Pos} {i : Int}
/-- a module's whole number, by its name -/
theorem pe_gint (hg : Gl X x) (hm : ∃ t, X.mg x = some (.int i t)) (hd : (x == ("__debug__" : Str)) = false := by decide) : PE X (.Name x pos) (tC (.int i)) := by
  obtain ⟨t, m⟩ := hm
  exact pe_glob hg m ⟨t, rfl⟩ hd
end
end LW
namespace LW
open L2 PySem.Spec PyProof.Rows PySem
section
variable {K : PySem.W.Frag} {H : Hp} {v w : V} {vs : List V} {d : PyData} {ds : List PyData} {Q : VK}
theorem D.is (h : D K H v d) : Is K [] H v d := by
  show D K (hv [] H) v d
  rw [hv_nil]; exact h
theorem DAll.is (h : DAll K H vs ds) : Iss K [] H vs ds := by
  show DAll K (hv [] H) vs ds
  rw [hv_nil]; exact h
theorem D.tuple (h : D K H v (.tuple ds)) : ∃ a vs, v = .ref a ∧ SqT K H a vs ∧ DAll K H vs ds := by
  cases h with
  | tup h l a => exact ⟨_, _, rfl, h, l, a⟩
theorem D.list (h : D K H v (.list ds)) : ∃ a vs, v = .ref a ∧ SqL K H a vs ∧ DAll K H vs ds := by
  cases h with
  | lst h l a => exact ⟨_, _, rfl, h, l, a⟩
theorem DAll.get (h : DAll K H vs ds) {i : Nat} (e : ds[i]? = some d) : ∃ v, vs[i]? = some v ∧ D K H v d := by
  have hi : i < ds.length := (List.getElem?_eq_some_iff.mp e).1
  rw [← h.len] at hi
  exact ⟨_, List.getElem?_eq_getElem hi, h.all i _ _ (List.getElem?_eq_getElem hi) e⟩
theorem DAll.get' (h : DAll K H vs ds) {i : Nat} (e : vs[i]? = some v) : ∃ d, ds[i]? = some d ∧ D K H v d := by
  have hi : i < vs.length := (List.getElem?_eq_some_iff.mp e).1
  rw [h.len] at hi
  exact ⟨_, List.getElem?_eq_getElem hi, h.all i _ _ e (List.getElem?_eq_getElem hi)⟩
theorem D.int_eq {i : Int} (h : D K H v (.int i)) : v = .int i := by cases h; rfl
theorem D.str_eq {i : Str} (h : D K H v (.str i)) : v = .str i := by cases h; rfl
/-- t[i], l[i] at i not below 0 -/
theorem ix_dt {i : Int} (h : D K H v (.tuple ds)) (h0 : 0 ≤ i) (e : ds[i.toNat]? = some d) (k : ∀ w, D K H w d → Q w H) : rIx K v (.int i) H Q := by
  obtain ⟨a, ws, rfl, sq, all⟩ := h.tuple
  obtain ⟨w, ew, hw⟩ := all.get e
  exact .inr (.inl ⟨a, ws, i, w, rfl, rfl, sq, atI_of h0 ew, k w hw⟩)
theorem ix_di {i j : Int} (h : D K H v (.tuple ds)) (h0 : 0 ≤ i) (e : ds[i.toNat]? = some (.int j)) (k : Q (.int j) H) : rIx K v (.int i) H Q :=
  ix_dt h h0 e fun w hw => by rw [hw.int_eq]; exact k
end
end LW
namespace LW
open L2 PySem.Spec PyProof.Rows PySem
/-- an if whose ways meet again -/
theorem viaIf {c : TT} {t u : TS} {D : Ends} {σ : L2.St} {H : Hp} (P : L2.St → Hp → Prop) (h : ∀ D' : Ends, (∀ σ' H', P σ' H' → D'.nx σ' H') → tIfS c t u D' σ H) (k : ∀ σ' H', P σ' H' → D.nx σ' H') : tIfS c t u D σ H := h D k
end LW
namespace LW
open L2 PySem.Spec PyProof.Rows PySem
/-- a method that may be called -/
structure Met (P : Program) (w : World) (K : PySem.W.Frag) (mg : Str → Option Value) (base : Heap) (k : Nat) (C : Addr) (m : Str) (sp : Sp) : Prop where
  ex : ∃ (f : Addr) (fd : FuncData) (ps : List Str), Cls K C ∧ Meth K C m f ∧ FnOk P w K mg base CX0 k f fd ps sp ∧ Binds K fd ps []
section
variable {X : Cx} {k j : Nat} {C : Addr} {m : Str} {sp : Sp} {pos apos : Pos} {e o : Expr} {es : List Expr} {ta : TE} {t : TA}
theorem pe_mt {pl : Sem Bool} (cl : Met X.prog X.w X.K X.mg X.base k C m sp) (hr : Room j X.A) (hk : k ≤ j) (he : PE X o ta) (ha : PA X (e :: es) t)
    (hst : starEach (e :: es) X.env = (false, eval e X.env) :: starEach es X.env := by rfl)
    (hpl : (backTo pos (starEach es X.env)).any (·.1) = false := by rfl)
    (ht : eval (.Call (.Attribute o m apos) (e ::
          es) [] pos) X.env = (do
        let v ← eval o X.env
        standAt apos.atName
        let (g, fst) ← holding [v] (getMethod v m pl)
        callWith pos g fst (backTo pos (starEach (e :: es) X.env)) (backToKw pos (keywordEach [] X.env))) := by rfl) :
    PE X (.Call (.Attribute o m apos) (e :: es) [] pos) (tMeth C m sp [] E0 ta t) := by
  obtain ⟨f, fd, ps, c, me, F, b⟩ := cl.ex
  exact pe_meth (pl := pl) he c me F (hr.mono hk) b .nil pass0 ha hst hpl ht
end
end LW
set_option Elab.async false
set_option linter.all false
set_option maxRecDepth 100000
set_option maxHeartbeats 4000100
/-! enumerate over a tuple -/
namespace LW
open L2 PySem.Spec PyProof.Rows PySem
theorem meets_enum_new1 {v : Value} {o : Obj} {G : Heap → Prop} (B : Begins v o G) :
    Meets (Builtin.«enumerate.__new__» ⟨[.type "enumerate", v], []⟩) (fun _ R s => G s.heap ∧
      R (.ok (.ret (.ref (s.heap.push o).objs.size)))
        { s with heap := (s.heap.push o).push { cls := .type "enumerate", data := .fields #[.none, .bool false, .ref s.heap.objs.size, rawInt 0, .none, .none] } }) :=
  .of_wp fun prog w A R s given => by
    obtain ⟨hp, g, d, tk,
          os⟩ := s
    obtain ⟨g1, r1⟩ := given
    have subs := sub_enumerate
    have begin1 : ∀ {A' : Around} {E : Value → Shared → Prop} {Q : Value → Shared → Prop}, Q (.ref hp.objs.size) ⟨hp.push o, g, d, tk, os⟩ →
        wpAny (model prog w) A' (pyIter v) Q E ⟨hp, g, d, tk, os⟩ := fun q => B.iter prog w _ _ ⟨hp, g, d, tk, os⟩ _ g1 q
    wp_walk using begin1
    refine wpAny_stack_any fun st
          => wpAny_pure ?_
    split
    · rename_i c _ _ _ _ _
      cases (c == Value.type "enumerate") <;>
      · wp_walk using begin1
        exact ⟨_, rfl, r1⟩
    · wp_walk using begin1
      exact ⟨_, rfl, r1⟩
section
variable {prog : Program} {w : World} {A : Around} {E : Value
      → Shared → Prop} {s : Shared}
theorem call_enumerate_tuple {t : Addr} {items : Array Value} {Q : Value → Shared → Prop} (tp : s.heap.IsTuple t items)
    (h : ∀ h', IsEnum h' (s.heap.objs.size + 1) s.heap.objs.size 0 .none → h'.IsTupleIter s.heap.objs.size t 0 →
      (∀ b o, s.heap.get? b = some o → h'.get? b = some o) → Q (.ref (s.heap.objs.size
            + 1)) { s with heap := h' }) :
    wpAny (model prog w) A (call (.type "enumerate") [.ref t]) Q E s := by
  let ob : Obj := { cls := .type "tuple_iterator", data := .fields #[.ref t, .int 0 0] }
  let en : Obj := { cls := .type "enumerate", data := .fields #[.none, .bool false, .ref s.heap.objs.size, rawInt 0, .none, .none] }
  refine callType_new F.called_enumerate (by decide) (F.typeCall_enumerate_1 _) (F.newCall_enumerate_1 _)
    (fun obj => F.args_object_init_2 obj _) F.entry_enumerate_new (meets_enum_new1 (begins_tuple t items)) ⟨tp, ?_⟩
  have size1 : (s.heap.push ob).objs.size = s.heap.objs.size + 1 := Heap.size_push ..
  show _ ∧ _
  have enum1 : IsEnum ((s.heap.push ob).push en) (s.heap.objs.size + 1) s.heap.objs.size 0 .none := by
    have z := Heap.get?_push_size (s.heap.push ob) (o := en) rfl
    rw [size1] at z
    exact z
  have fin := h _ enum1 ⟨ob, Heap.get?_push_of_some _ (Heap.get?_push_size _ rfl), rfl, rfl⟩ (fun b o x => Heap.get?_push_of_some _ (Heap.get?_push_of_some _ x))
  rw [show (s.heap.push { cls := .type "tuple_iterator", data := .fields #[.ref t, .int 0 0] }).objs.size = s.heap.objs.size + 1 from size1]
  exact ⟨⟨_, enum1, rfl⟩, fin⟩
end
/-- the tuple at a at each turn, each item in a new pair -/
def Itet (K : PySem.W.Frag) (a : Addr) : It :=
  ⟨fun i H => ∃ (xs : List V) (x : V), SqT K H a xs ∧ xs[i]? = some x,
   fun i H v H' => ∃ T x, v = .ref T ∧ H T = none ∧ H' = upd H T (.tup [.int (i : Nat), x]) ∧ ∀ xs, SqT K H a xs → xs[i]? = some x,
   fun i H => ∃ xs : List V, SqT K H a xs ∧ xs.length ≤ i⟩
theorem turn_enumT {P : Program} {w : World} {K : PySem.W.Frag} {elts : List Expr} {kk : Nat} {tpos : Pos} (a e it : Addr) :
    Turn P w K (.Tuple elts kk tpos) (Itet K a) [e, it] e (fun i h => (∃ old, IsEnum h e it ((i : Nat) : Int) old) ∧ h.IsTupleIter it a i ∧ e ≠ it) where
  mem := by simp
  obj := by
    rintro i h ⟨⟨old, he⟩, ⟨o, ho, hc, hd⟩, _⟩ b hb
    rcases List.mem_cons.mp
          hb with z | z
    · subst z; exact ⟨_, he, fun v q => nomatch q⟩
    · rw [List.mem_singleton] at z
      subst z
      exact ⟨o, ho, fun v q => by rw [hd] at q; cases q⟩
  keep := by
    rintro i h h' ⟨⟨old, he⟩, hi, hne⟩ k
    exact ⟨⟨old, k e (by simp) _ he⟩, hi.at fun o q => k it (by simp) o q, hne⟩
  item := by
    intro X hP hw hK hc i pins s σ
          H E I hf st hg
    subst hP hw hK
    obtain ⟨⟨old, he⟩, hit,
          hne⟩ := st
    obtain ⟨xs, x, hq, hx⟩ := hg
    obtain ⟨its, rv, p, hz⟩
          := I.tuple hq
    have tp : s.heap.IsTuple a its.toArray := p
    obtain ⟨u, hu, ru⟩ :=
          rv.get hx
    have elt : e < s.heap.objs.size := Heap.lt_size he
    have ilt : it < s.heap.objs.size := by obtain ⟨_, q, _⟩ := hit; exact Heap.lt_size q
    have nai : a ≠ it := by
      intro z
      subst z
      obtain ⟨o1, g1, c1, _⟩ := hit
      obtain ⟨o2, g2, c2, _⟩ := tp
      rw [g1] at g2
      cases g2
      rw [c1] at c2
      exact absurd (Value.type.inj c2) (by decide)
    have nae : e ≠ a := by
      intro z
      subst z
      obtain ⟨o2, g2, c2, _⟩ := tp
      have g1 := he
      unfold IsEnum at g1
      rw [g1] at g2
      cases g2
      exact absurd (Value.type.inj c2) (by decide)
    have ilen : i < its.toArray.size := by
      have := (List.getElem?_eq_some_iff.mp hu).1
      simpa using this
    have dr := Draws.tuple (prog := X.prog) (w := X.w) (A := X.A.in1) (I.ok.hd hc) it a nai its.toArray
    refine wpAny_pyNext_enum_itemD dr he ⟨hit, tp⟩ ilen hne (by simp [hne, nae]) ?_
    intro y h' tk hy out st' newT size' kept
    have ey : y = u := by
      have : its.toArray[i]? = some u := by simpa using hu
      exact Option.some.inj (hy.symm.trans this)
    subst ey
    refine ⟨_, rfl, wpAny_letOwnedTupleGo_enum (s := { s with heap := h', toks := tk + 1 }) out ?_⟩
    intro h2 he2 sb
    have nT : h2.get? s.heap.objs.size = some { cls := .type "tuple", data := .seq #[.int i tk, y] } := (sb.2 _ (Nat.ne_of_gt elt)).trans newT
    have ob : ObjOk X.prog X.w (upd H s.heap.objs.size (.tup [.int (i : Nat), x])) h2 s.heap.objs.size (.tup [.int (i : Nat), x]) := by
      refine ⟨by show 2 ≤ sizeLine; decide, [.int i tk, y], .cons ⟨_, rfl⟩ (.cons ru .nil), ⟨_, nT, rfl, _, rfl⟩⟩
    have I1 : Inv X pins σ (upd H s.heap.objs.size (.tup [.int (i : Nat), x])) { s with heap := h2, toks := tk + 1 } := by
      refine I.turnedNew (ch := [e, it]) ?_ hf (Nat.le_refl _) ob
      intro b o hb q
      have b1 : b ≠ e := fun z => hb (by simp [z])
      have b2 : b ≠ it := fun z => hb (by simp [z])
      exact (sb.2 b b1).trans (kept b o b1 b2 q)
    refine ⟨.ref s.heap.objs.size, _, I1, rfl, ⟨_, x, rfl, I.hok.fresh (Nat.le_refl _), rfl, ?_⟩, ⟨⟨y, ?_⟩, st'.1.at fun o q => (sb.2 it (Ne.symm hne)).trans q, hne⟩, ?_⟩
    · intro ys hys
      rw [I.tuple_inj hys hq]
      exact hx
    · rw [show ((i + 1 : Nat) : Int) = (i : Int) + 1 by omega]
      exact he2
    · intro b hb
      have lt : b < s.heap.objs.size := by
        rcases List.mem_cons.mp
              hb with z | z
        · rw [z]; exact elt
        · rw [List.mem_singleton.mp z]; exact ilt
      rw [upd_ne (Nat.ne_of_lt lt)]
      exact (hf b hb).1
  done := by
    intro X hP hw hK hc i pins s σ
          H E I hf st hg
    subst hP hw hK
    obtain ⟨⟨old, he⟩, hit,
          hne⟩ := st
    obtain ⟨xs, hq, hx⟩ := hg
    obtain ⟨its, rv, p, hz⟩
          := I.tuple hq
    have tp : s.heap.IsTuple a its.toArray := p
    have nai : a ≠ it := by
      intro z
      subst z
      obtain ⟨o1, g1, c1, _⟩ := hit
      obtain ⟨o2, g2, c2, _⟩ := tp
      rw [g1] at g2
      cases g2
      rw [c1] at c2
      exact absurd (Value.type.inj c2) (by decide)
    obtain ⟨f0, f1, f2, f3, f4, f5⟩ :=
          hf it (by simp)
    have ln := rv.length
    have none1 : its.toArray[i]? = none := by simp; omega
    have ty : s.TypeIs (.ref e) "enumerate" := ⟨_, he, rfl⟩
    unfold pyNext
    refine wpAny_bind
          (wpAny_attempt ?_)
    refine wpAny_callSpecial?_slot (name := Str.ofString "__next__") ty F.slot_enumerate_next ?_
    refine wpAny_call_entry F.slot_enumerate_next ty F.entry_enumerate_next ?_ (F.args_enumerate_next_1 _)
    show wpAny _ _ (field (.ref e)
          2 >>= _) _ _ _
    refine wpAny_bind ?_
    refine wpAny_field he rfl (x := .ref it) rfl ?_
    refine wpAny_bind ?_
    refine wpAny_nextOf_tuple_end (I.ok.hd hc) hit tp none1 ?_
    rintro h' x eb ⟨o, ho, hcl⟩
    refine wpAny_bind (wpAny_isInstance (T := "StopIteration") (b := true) ⟨o, ho, hcl⟩ isSubtype_stop ?_)
    refine wpAny_pure ⟨rfl, ?_⟩
    exact I.turned (t' := s.toks) (fun b o hb q => eb b o hb q) f0 f1 f3 f4 f5
  self := by
    rintro A i s Q E ⟨⟨_, he⟩, _⟩ h
    exact wpAny_pyIter_enum he h
def iEnumT (K : PySem.W.Frag) (ta : TA) : TI := fun σ H R => ta σ H fun vs H1 => ∃ a xs, vs = [.ref a] ∧ SqT K H1 a xs ∧ R (Itet K a) H1
theorem pi_enumT {X : Cx} {e : Expr} {ta : TA} {p pos tpos : Pos} {elts : List Expr} {kk : Nat} (hg : Gl X "enumerate") (hm : X.mg "enumerate" = none) (ha : PA X [e] ta)
    (hs : starEach [e] X.env = [(false, eval e X.env)] := by rfl) : PI X (.Tuple elts kk tpos) (.Call (.Name "enumerate" p) [e] [] pos) (iEnumT X.K ta) := by
  constructor
  intro pins s σ H R I h
  refine Call_ (ld_blt I hg hm boot_enumerate (PyProof.Rows.callWith_type1 (thn (ha.run pos pins s σ H _ I h) ?_) hs rfl))
  rintro us s1 ⟨vs, H1, I1, r1, a, xs, ex, hq, q⟩
  subst ex
  obtain ⟨u, rfl, ru⟩
        := vals1 r1
  obtain rfl : u = Value.ref
        a := ru
  obtain ⟨its, rv, tp, hz⟩ := I1.tuple hq
  refine call_enumerate_tuple (items := its.toArray) tp ?_
  intro h' he hit hk
  refine wpAny_pyIter_enum
        he ?_
  refine ⟨s1.heap.objs.size + 1, [s1.heap.objs.size + 1, s1.heap.objs.size], _, _, H1, rfl, I1.kept (t' := s1.toks) hk, turn_enumT a (s1.heap.objs.size + 1) s1.heap.objs.size, ⟨⟨.none, he⟩, hit, Nat.succ_ne_self _⟩, ?_, q⟩
  intro b hb
  have le : s1.heap.objs.size ≤ b := by
    rcases List.mem_cons.mp
          hb with z | z
    · rw [z]; exact Nat.le_succ _
    · rw [List.mem_singleton.mp z]; exact Nat.le_refl _
  exact I1.fpOk le (I1.hok.fresh le)
/-- for i, x in enumerate(t) -/
theorem for_enumT {K : PySem.W.Frag} {a : Addr} {xs : List V} {g : TG} {tb : TS} {D : Ends} {σ : L2.St} {H : Hp} (Pv : Nat → L2.St → Hp → Prop) (h0 : Pv 0 σ H) (hl : ∀ i σ H, i ≤ xs.length → Pv i σ H → SqT K H a xs)
    (hs : ∀ i x σ H T, xs[i]? = some x → Pv i σ H → H T = none → g (.ref T) σ (upd H T (.tup [.int (i : Nat), x])) fun σ2 H2 => tb { D with nx := Pv (i + 1), ct := Pv (i + 1), bk := D.nx } σ2 H2) (hd : ∀ σ H, Pv xs.length σ H → D.nx σ H) :
    ∃ W : Nat → Nat → L2.St → Hp → Prop, (∃ m, W 0 m σ H)
          ∧ ∀ i m σ H, W i m σ H →
      ((Itet K a).stop i H ∧ D.nx σ H) ∨ ((Itet K a).go i H ∧ ∃ N : L2.St → Hp → Prop, (∀ σ' H', N σ' H' → ∃ m', m' < m ∧ W (i + 1) m' σ' H') ∧
        ∀ x H', (Itet K a).yld i H x H' → g x σ H' fun σ2 H2 => tb { D with nx := N, ct := N, bk := D.nx } σ2 H2) := by
  refine ⟨fun i m σ H => m = xs.length - i ∧ i ≤ xs.length ∧ Pv i σ H,
        ⟨xs.length, rfl, Nat.zero_le _, h0⟩, ?_⟩
  rintro i m σ H ⟨rfl, hi, p⟩
  have sq := hl i σ H hi p
  by_cases lt : i < xs.length
  · refine .inr ⟨⟨xs, xs[i], sq, List.getElem?_eq_getElem lt⟩, Pv (i + 1), fun σ' H' p' => ⟨xs.length - (i + 1), by omega, rfl, lt, p'⟩, ?_⟩
    rintro y H' ⟨T, x, rfl, nT, rfl, look⟩
    exact hs i x σ H T (look _ sq) p nT
  · have e : i = xs.length
        := by omega
    subst e
    exact .inl ⟨⟨xs, sq, Nat.le_refl _⟩, hd σ H p⟩
end LW
set_option Elab.async false
set_option linter.all false
set_option maxRecDepth 100000
set_option maxHeartbeats 4000100
/-! C(e, *xs) of an own class; C.m(e), m a staticmethod; o.m(k = e) -/
namespace LW
open PySem PySem.Spec PyProof.Rows L2 StX
section
variable {X : Cx} {CX : CXT} {k j : Nat} {f C : Addr} {sp : Sp} {E : XK} {x : Str} {e1 e2 : Expr} {t1 t2 : TE} {p p2 pos : Pos}
theorem pe_makeS (M : Mk X.K C f) (F : FnR X.prog X.w X.K X.mg X.base CX k f sp) (hr : Room (k + 1) X.A) (hg : Gl X x) (hm : X.mg x = some (.ref C)) (hx : Passes CX X E)
    (h1 : PE X e1 t1) (h2 : PE X e2 t2) (hdb : (x == ("__debug__" : Str)) = false := by decide)
    (hst : starEach [e1, .Starred e2 p2] X.env = [(false, eval e1 X.env), (true, eval e2 X.env)] := by rfl) :
    PE X (.Call (.Name x p) [e1, .Starred e2 p2] [] pos) (tMakeR C sp E (tCons t1 (tStar X.K t2 tNil))) := by
  constructor
  intro pins s σ H Q I h
  refine wpAny_Call_Name_kw (ld_glob
        I hg hm ?_ hdb)
  rw [hst]
  refine PySem.W.ks_call (P := X.K.In) rfl (PySem.W.keeps_K M.kp) (Calls.evalArgs_plain (Calls.spliced_cons (thn (h1.run pins s σ H _ I h) ?_)))
  rintro v1 s1 ⟨y1, H1, I1, r1, q1⟩
  refine PySem.W.ks_spliced (thn (h2.run pins s1 σ H1 _ I1 q1) ?_)
  rintro v2 s2 ⟨y2, H2, I2, r2, t, xs, e, ht, q2⟩
  subst e
  obtain rfl : v2 = Value.ref t := r2
  refine star_any I2 ht ?_
  intro us s3 I3 rv
  refine Calls.spliced_nil ?_
  show X.K.In s3.heap ∧ wpAny (model X.prog X.w) X.A (call (.ref C) (v1 :: (us ++ [])) []) (EP X pins σ Q) X.xe s3
  rw [List.append_nil]
  have q3 : (fun (vs : List V) (H1 : Hp) => ∀ (x dx : Addr), H1 x = Option.none → H1 dx = Option.none → dx ≠ x → sp (V.ref x :: vs) (upd (upd H1 dx (HO.own x)) x (HO.ins C dx [])) (fun v H2 => v = V.non ∧ Q (V.ref x) H2) E) (y1 :: (xs ++ [])) H2 := q2
  rw [List.append_nil] at q3
  exact ⟨I3.kIn, run_makeR M F hr hx I3 (.cons r1 rv) q3⟩
end
/-- a class that may be made, by a positional promise of its __init__ -/
structure MakR (P : Program) (w : World) (K : PySem.W.Frag) (mg : Str → Option Value) (base : Heap) (k : Nat) (x : Str) (C : Addr) (sp : Sp) : Prop where
  ex : ∃ f : Addr, Mk K C f ∧ FnR P w K mg base CX0 k f sp ∧ mg x = some (.ref C)
section
variable {X : Cx} {k j : Nat} {C : Addr} {sp : Sp} {x : Str} {e e1 e2 : Expr} {es : List Expr} {t1 t2 : TE} {t : TA} {p p2 pos : Pos}
theorem pe_mkS (c : MakR X.prog X.w X.K X.mg X.base k x C sp) (hr : Room j X.A) (hk : k + 1 ≤ j) (hg : Gl X x)
    (h1 : PE X e1 t1) (h2 : PE X e2 t2) (hdb : (x == ("__debug__" : Str)) = false := by decide)
    (hst : starEach [e1, .Starred e2 p2] X.env = [(false, eval e1 X.env), (true, eval e2 X.env)] := by rfl) :
    PE X (.Call (.Name x p) [e1, .Starred e2 p2] [] pos) (tMakeR C sp E0 (tCons t1 (tStar X.K t2 tNil))) := by
  obtain ⟨f, M, F, m⟩ := c.ex
  exact pe_makeS M F (hr.mono hk) hg m pass0 h1 h2 hdb hst
theorem pe_mkP (c : MakR X.prog X.w X.K X.mg X.base k x C sp) (hr : Room j X.A) (hk : k + 1 ≤ j) (hg : Gl X x) (ha : PA X (e :: es) t) (hdb : (x == ("__debug__" : Str)) = false := by decide)
    (he : starEach (e :: es) X.env = (false, eval e X.env) :: starEach es X.env := by
          rfl) (hpl : (backTo pos (starEach es X.env)).any (·.1) = false := by rfl) :
    PE X (.Call (.Name x p) (e :: es) [] pos) (tMakeR C sp E0 t) := by
  obtain ⟨f, M, F, m⟩ := c.ex
  exact pe_makeR M F (hr.mono hk) hg m pass0 ha hdb he hpl
end
end LW
/-! ### a staticmethod of a class, called by the class -/
namespace LW
open PySem PySem.Spec PyProof.Rows L2 StX ClX
structure SMet (K : PySem.W.Frag) (C : Addr) (mc : Value) (m : Str) (p g : Addr) : Prop where
  rd : CRead K C mc
  at_ : PySem.W.findCls K (.ref C) mc m = some (.get (.builtin "staticmethod.__get__") (.ref p) .none (.ref C))
  rc : ∃ rest, PySem.W.recIn K p "staticmethod" = some (.ref g :: rest)
  kp : PySem.W.keepIn K (.ref g) = true
section
variable {X : Cx} {pins : List (Addr × Obj)} {σ : L2.St} {H : Hp} {s : Shared} {C p g : Addr} {mc : Value} {m : Str} {A : Around} {E : Value → Shared → Prop}
theorem getsm_ok {pl : Sem Bool} {Q : Value × List Value → Shared → Prop} (I : Inv X pins σ H s) (k : SMet X.K C mc m p g) (h : ∀ s', Inv X pins σ H s' → Q (.ref g, []) s') :
    wpAny (model X.prog X.w) A (getMethod (.ref C) m pl) Q E s := by
  refine PySem.W.method_cls I.kIn k.rd.ga ?_
  obtain ⟨rest, hp⟩ := k.rc
  refine PySem.W.cls_bind I.kIn k.rd.rd k.at_ ?_
  refine wpAny_call (PySem.W.sm_get (s := { s with toks := s.toks + 1 }) I.kIn hp (PySem.W.handed_on rfl ?_))
  exact h _ (I.tok _)
end
/-- .. that may be called so -/
structure Sta (P : Program) (w : World) (K : PySem.W.Frag) (mg : Str → Option Value) (base : Heap) (k : Nat) (x : Str) (m : Str) (sp : Sp) : Prop where
  ex : ∃ (C : Addr) (mc : Value) (p g : Addr) (fd : FuncData) (ps : List Str), mg x = some (.ref C) ∧ SMet K C mc m p g ∧ FnOk P w K mg base CX0 k g fd ps sp ∧ Binds K fd ps []
section
variable {X : Cx} {k j : Nat} {x m : Str} {sp : Sp} {e : Expr} {es : List Expr} {t : TA} {np apos pos : Pos}
theorem pe_sta {pl : Sem Bool} (c : Sta X.prog X.w X.K X.mg X.base k x m sp) (hr : Room j X.A) (hk : k ≤ j) (hg : Gl X x) (ha : PA X (e :: es) t) (hdb : (x == ("__debug__" : Str)) = false := by decide)
    (hst : starEach (e :: es) X.env = (false, eval e X.env) :: starEach es X.env := by rfl)
    (hpl : (backTo pos (starEach es X.env)).any (·.1) = false := by rfl)
    (ht : eval (.Call (.Attribute (.Name x np) m apos) (e
          :: es) [] pos) X.env = (do
        let v ← eval (.Name x np) X.env
        standAt apos.atName
        let (g, fst) ← holding [v] (getMethod v m pl)
        callWith pos g fst (backTo pos (starEach (e :: es) X.env)) (backToKw pos (keywordEach [] X.env))) := by rfl) :
    PE X (.Call (.Attribute (.Name x np) m apos) (e :: es) [] pos) (tCall sp [] E0 t) := by
  obtain ⟨C, mc, p, g, fd, ps, gx, sm, F, b⟩ := c.ex
  constructor
  intro pins s σ H Q I h
  refine PySem.W.methodCall_KW (pl := pl) (ld_glob I hg gx ?_ hdb) ht
  refine getsm_ok I sm ?_
  intro s1 I1
  refine PySem.W.callWith_K (h₀ := X.base) I.ok.mod.kin sm.kp (thn (ha.run pos pins s1 σ H _ I1 h) ?_) hst hpl
  rintro us s2 ⟨vs, H2, I2, rv, q⟩
  exact ⟨I2.kIn, run_fn F (hr.mono hk) b .nil pass0 I2 rv q⟩
end
/-! ### o.m(k = e) -/
end LW
set_option Elab.async false
set_option linter.all false
set_option maxRecDepth 100000
set_option exponentiation.threshold 17000
/-! math.lcm of two ints of less than 8000 bits. -/
namespace LW
open L2 PySem.Spec PyProof.Rows PySem
theorem lcm_le (m n : Nat) : m.lcm n ≤ m * n := by
  unfold Nat.lcm
  exact Nat.div_le_self _ _
def rLcm : List V → Hp → VK → Prop := fun vs H Q => ∃ a b : Int, vs = [.int a, .int b] ∧ a.natAbs < 2 ^ 8000 ∧ b.natAbs < 2 ^ 8000 ∧ Q (.int ((Nat.lcm a.natAbs b.natAbs : Nat) : Int)) H
theorem cr_lcm {X : Cx} : CallR X (.builtin "math.lcm") rLcm := by
  intro pins s σ H vs
        us Q I r h
  obtain ⟨a, b, rfl, ha, hb, q⟩ := h
  obtain ⟨t, u, rfl⟩ :=
        Vals.int2 r
  have e1 : Nat.lcm 1 a.natAbs = a.natAbs := by simp [Nat.lcm]
  have l1 : (max 1 a.natAbs).log2 ≤ 7999 := PySem.W.mg_log (by
    have : 1 < 2 ^ (7999 + 1) := Nat.one_lt_two_pow (by decide)
    have e : 7999 + 1 = 8000 := rfl
    rw [e] at this ⊢
    exact Nat.max_lt.mpr ⟨this, ha⟩)
  have l2 : (max a.natAbs b.natAbs).log2 ≤ 7999 := PySem.W.mg_log (by
    have e : 7999 + 1 = 8000 := rfl
    rw [e]
    exact Nat.max_lt.mpr ⟨ha, hb⟩)
  have sz : ((((Nat.lcm 1 a.natAbs).lcm b.natAbs : Nat) : Int)).natAbs.log2 < bitsLine := by
    rw [e1, Int.natAbs_natCast]
    have z : a.natAbs.lcm b.natAbs < 2 ^ (15999 + 1) := by
      have z1 := Nat.mul_lt_mul'' ha hb
      rw [← Nat.pow_add] at z1
      exact Nat.lt_of_le_of_lt (lcm_le _ _) z1
    have := PySem.W.mg_log z
    have e : bitsLine = 134217728
          := by decide
    rw [e]
    omega
  refine PySem.call_function_meets PySem.W.MGF.kind_lcm PySem.W.MGF.plain_lcm PySem.W.MGF.entry_lcm (PySem.W.MGF.args_lcm _ _) (PySem.W.mg_run_lcm a t b u (by omega) (by omega) sz).meets ?_
  rw [e1]
  exact ⟨.int _, H, I.tok _, ⟨_, rfl⟩, q⟩
end LW
set_option Elab.async false
set_option linter.all false
set_option maxRecDepth 100000
set_option maxHeartbeats 4000100
set_option Elab.async false
set_option linter.all false
set_option maxRecDepth 100000
set_option maxHeartbeats 4000100
/-! repr of a list [text, data, bool], the data an empty dict or without dicts -/
set_option Elab.async false
set_option linter.all false
set_option maxRecDepth 100000
set_option maxHeartbeats 4000100
/-! plain data: what a text of plain values computes, told without the heap; the states that hold such values -/
namespace LW
open L2 PySem.Spec PyProof.Rows PySem
/-- plain values; tnk: a thing that changes, of a kind; obj: a thing of one's own that stays as it is, of a kind; fn: what stands under a name -/
inductive Dt where
  | non | bl (b : Bool) | int (i : Int) | str (x : Str) | lst (l : List Dt) | tup (l : List Dt) | dct
  | ty (n : String) | tnk (k : Nat) | obj (k : Nat) (d : Dt) | fn (x : Str)
/-- what is fixed: the written part, the names, what things of one's own are, what changing things look like -/
structure Su where
  K : PySem.W.Frag
  mg : Str → Option Value
  ob : Nat → Dt → Hp → V → Prop
  obm : ∀ {k : Nat} {d : Dt} {H H' : Hp} {v : V}, Same H H' → ob k d H v → ob k d H' v
  obr : ∀ {k : Nat} {d : Dt} {H : Hp} {v : V}, ob k d H v → ∃ a, v = .ref a
  md : Nat → Addr → Hp → HO → Prop
  mdm : ∀ {k : Nat} {a : Addr} {H H' : Hp} {o : HO}, (∀ b u, H b = some u → (∀ l, u ≠ .lst l) → (∀ l, u ≠ .tbl l) → (∀ C dx fs, u ≠ .ins C dx fs) → H' b = some u) → md k a H o → md k a H' o
  must : List (Addr × Nat)
/-- the changing things: where, of which kind -/
abbrev Mu := List (Addr × Nat)
structure MOk (S : Su) (M : Mu) (H : Hp) : Prop where
  ok : ∀ e ∈ M, ∃ o, H e.1 = some o ∧ S.md e.2 e.1 H o
  must : ∀ e ∈ S.must, e ∈ M
/-- v is the value d -/
inductive Da (S : Su) (M : Mu) (H : Hp) : V → Dt → Prop
  | non : Da S M H .non .non
  | bl (b : Bool) : Da S M H (.bl b) (.bl b)
  | int (i : Int) : Da S M H (.int i) (.int i)
  | str (x : Str) : Da S M H (.str x) (.str x)
  | lst {a : Addr} {xs : List V} {ds : List Dt} (h : H a = some (.lst xs)) (len : xs.length = ds.length) (all : ∀ (i : Nat) (v : V) (d : Dt), xs[i]? = some v → ds[i]? = some d → Da S M H v d) : Da S M H (.ref a) (.lst ds)
  | tup {a : Addr} {xs : List V} {ds : List Dt} (h : SqT S.K H a xs) (len : xs.length = ds.length) (all : ∀ (i : Nat) (v : V) (d : Dt), xs[i]? = some v → ds[i]? = some d → Da S M H v d) : Da S M H (.ref a) (.tup ds)
  | dct {a : Addr} (h : H a = some (.dK [])) (ne : a ≠ sysModules) : Da S M H (.ref a) .dct
  | ty (n : String) : Da S M H (.ty n) (.ty n)
  | tnk {a : Addr} {k : Nat} (h : (a, k) ∈ M) : Da S M H (.ref a) (.tnk k)
  | obj {v : V} {k : Nat} {d : Dt} (h : S.ob k d H v) : Da S M H v (.obj k d)
  | fn {v : V} {x : Str} {u : Value} (h : S.mg x = some u) (r : RelV v u) : Da S M H v (.fn x)
structure Das (S : Su) (M : Mu) (H : Hp) (xs : List V) (ds : List Dt) : Prop where
  len : xs.length = ds.length
  all : ∀ (i : Nat) (v : V) (d : Dt), xs[i]? = some v → ds[i]? = some d → Da S M H v d
section
variable {S : Su} {M : Mu} {H H' : Hp} {v w : V} {d e : Dt} {vs ws : List V} {ds es : List Dt} {a : Addr}
theorem Das.nil : Das S M H [] [] := ⟨rfl, fun i v d h => by simp at h⟩
theorem Das.cons (h : Da S M H v d) (r : Das S M H vs ds) : Das S M H (v :: vs) (d :: ds) :=
  ⟨by rw [List.length_cons, List.length_cons, r.len], fun i w e h1 h2 => by
    cases i with
    | zero => cases h1; cases h2; exact h
    | succ i => exact r.all i w e h1 h2⟩
theorem Das.of_cons (h : Das S M H vs (d :: ds)) : ∃ v ws, vs = v :: ws ∧ Da S M H v d ∧ Das S M H ws ds := by
  obtain ⟨l, q⟩ := h
  cases vs with
  | nil => simp at l
  | cons v ws => exact ⟨v, ws, rfl, q 0 v d rfl rfl, by simpa using l, fun i w e h1 h2 => q (i + 1) w e h1 h2⟩
theorem Das.of_nil (h : Das S M H vs []) : vs = [] := List.length_eq_zero_iff.mp h.len
theorem Das.app (h : Das S M H vs ds) (r : Das S M H ws es) : Das S M H (vs ++ ws) (ds ++ es) := by
  induction ds generalizing vs with
  | nil => rw [h.of_nil]; exact r
  | cons c ds ih =>
    obtain ⟨v, vs', rfl, q, r'⟩ := h.of_cons
    exact .cons q (ih r')
theorem Das.get (h : Das S M H vs ds) {i : Nat} (e : ds[i]? = some d) : ∃ v, vs[i]? = some v ∧ Da S M H v d := by
  have hi : i < ds.length := (List.getElem?_eq_some_iff.mp e).1
  rw [← h.len] at hi
  exact ⟨_, List.getElem?_eq_getElem hi, h.all i _ _ (List.getElem?_eq_getElem hi) e⟩
theorem Das.get' (h : Das S M H vs ds) {i : Nat} (e : vs[i]? = some v) : ∃ d, ds[i]? = some d ∧ Da S M H v d := by
  have hi : i < vs.length := (List.getElem?_eq_some_iff.mp e).1
  rw [h.len] at hi
  exact ⟨_, List.getElem?_eq_getElem hi, h.all i _ _ e (List.getElem?_eq_getElem hi)⟩
theorem Das.take (n : Nat) (h : Das S M H vs ds) : Das S M H (vs.take n) (ds.take n) :=
  ⟨by rw [List.length_take, List.length_take, h.len], fun i v d h1 h2 => by
    have i1 : i < n := by
      have := (List.getElem?_eq_some_iff.mp h1).1
      rw [List.length_take] at this
      omega
    rw [List.getElem?_take_of_lt i1] at h1 h2
    exact h.all i v d h1 h2⟩
theorem Das.drop (n : Nat) (h : Das S M H vs ds) : Das S M H (vs.drop n) (ds.drop n) :=
  ⟨by rw [List.length_drop, List.length_drop, h.len], fun i v d h1 h2 => by
    rw [List.getElem?_drop] at h1 h2
    exact h.all _ v d h1 h2⟩
theorem Da.lst' (h : H a = some (.lst vs)) (r : Das S M H vs ds) : Da S M H (.ref a) (.lst ds) := .lst h r.len r.all
theorem Da.tup' (h : SqT S.K H a vs) (r : Das S M H vs ds) : Da S M H (.ref a) (.tup ds) := .tup h r.len r.all
theorem Da.list (h : Da S M H v (.lst ds)) : ∃ a vs, v = .ref a ∧ H a = some (.lst vs) ∧ Das S M H vs ds := by
  cases h with
  | lst h l a => exact ⟨_, _, rfl, h, l, a⟩
theorem Da.tuple (h : Da S M H v (.tup ds)) : ∃ a vs, v = .ref a ∧ SqT S.K H a vs ∧ Das S M H vs ds := by
  cases h with
  | tup h l a => exact ⟨_, _, rfl, h, l, a⟩
theorem Da.int_eq {i : Int} (h : Da S M H v (.int i)) : v = .int i := by cases h; rfl
theorem Da.str_eq {i : Str} (h : Da S M H v (.str i)) : v = .str i := by cases h; rfl
theorem Da.bl_eq {i : Bool} (h : Da S M H v (.bl i)) : v = .bl i := by cases h; rfl
theorem Da.non_eq (h : Da S M H v .non) : v = .non := by cases h; rfl
theorem Da.ty_eq {n : String} (h : Da S M H v (.ty n)) : v = .ty n := by cases h; rfl
theorem Da.same (s : Same H H') (h : Da S M H v d) : Da S M H' v d := by
  induction h with
  | non => exact .non
  | bl b => exact .bl b
  | int i => exact .int i
  | str x => exact .str x
  | lst h len all ih => exact .lst (s _ _ h) len ih
  | tup h len all ih => exact .tup (seqT_same s h) len ih
  | dct h ne => exact .dct (s _ _ h) ne
  | ty n => exact .ty n
  | tnk h => exact .tnk h
  | obj h => exact .obj (S.obm s h)
  | fn h r => exact .fn h r
theorem Das.same (s : Same H H') (h : Das S M H vs ds) : Das S M H' vs ds := ⟨h.len, fun i v d h1 h2 => (h.all i v d h1 h2).same s⟩
theorem Das.ints (ns : List Int) : Das S M H (ns.map V.int) (ns.map Dt.int) :=
  ⟨by simp, fun i v d h1 h2 => by
    obtain ⟨n, e1, rfl⟩ := some_map h1
    obtain ⟨m, e2, rfl⟩ := some_map h2
    rw [e1] at e2
    cases e2
    exact .int _⟩
theorem Das.of_ints {ns : List Int} (h : Das S M H vs (ns.map Dt.int)) : vs = ns.map V.int := by
  induction ns generalizing vs with
  | nil => rw [h.of_nil]; rfl
  | cons n ns ih =>
    obtain ⟨v, ws, rfl, q, r⟩ := h.of_cons
    rw [q.int_eq, ih r]
    rfl
end
/-! ### steps -/
/-- all that is neither a changing thing nor a list of the frame's own stands as before; lists of its own come new -/
structure Stp (M : Mu) (L : List Addr) (H : Hp) (L' : List Addr) (H' : Hp) : Prop where
  keep : ∀ b o, b ∉ M.map Prod.fst → b ∉ L → H b = some o → H' b = some o
  new : ∀ p ∈ L', p ∈ L ∨ H p = none
section
variable {S : Su} {M : Mu} {L L1 L2 A B : List Addr} {H H1 H2 : Hp} {p : Addr} {v : V} {d : Dt} {vs : List V} {ds : List Dt}
theorem Stp.refl : Stp M L H L H := ⟨fun _ _ _ _ h => h, fun _ h => .inl h⟩
theorem MOk.held (m : MOk S M H) {b : Addr} (h : b ∈ M.map Prod.fst) : H b ≠ none := by
  obtain ⟨e, he, rfl⟩ := List.mem_map.mp h
  obtain ⟨o, q, _⟩ := m.ok e he
  rw [q]
  exact fun z => by cases z
theorem Stp.trans (a : Stp M L H L1 H1) (m : MOk S M H1) (b : Stp M L1 H1 L2 H2) : Stp M L H L2 H2 :=
  ⟨fun c o n n2 h => b.keep c o n (fun z => (a.new c z).elim n2 fun w => by rw [w] at h; cases h) (a.keep c o n n2 h), fun p hp => by
    rcases b.new p hp with z | z
    · exact a.new p z
    · by_cases h : p ∈ L
      · exact .inl h
      · refine .inr ?_
        cases q : H p with
        | none => rfl
        | some o =>
          by_cases t : p ∈ M.map Prod.fst
          · exact absurd z (m.held t)
          · rw [a.keep p o t h q] at z; cases z⟩
theorem Stp.of (s : Same H H1) : Stp M L H L H1 := ⟨fun b o _ _ h => s b o h, fun _ h => .inl h⟩
theorem MOk.same (s : Same H H1) (m : MOk S M H) : MOk S M H1 := ⟨fun e he => by
  obtain ⟨o, q, r⟩ := m.ok e he
  exact ⟨o, s _ _ q, S.mdm (fun b u e _ _ _ => s b u e) r⟩, m.must⟩
theorem Stp.wide (s : Stp M [] H [] H1) : Stp M L H L H1 := ⟨fun b o n _ h => s.keep b o n (by simp) h, fun _ h => .inl h⟩
theorem Stp.hv (s : Stp M L H L1 H1) (mA : ∀ e ∈ M, e.1 ∈ A) : Same (hv (L ++ A) H) (hv (L1 ++ A) H1) := fun b o h => by
  have hb : b ∉ L ++ A := fun z => by rw [hv_in z] at h; cases h
  rw [hv_out hb] at h
  have h1 : b ∉ L := fun z => hb (List.mem_append_left _ z)
  have h2 : b ∉ A := fun z => hb (List.mem_append_right _ z)
  have h3 : b ∉ M.map Prod.fst := fun z => by
    obtain ⟨e, he, rfl⟩ := List.mem_map.mp z
    exact h2 (mA e he)
  have h4 : b ∉ L1 ++ A := fun z => by
    rcases List.mem_append.mp z with z | z
    · rcases s.new b z with w | w
      · exact h1 w
      · rw [w] at h; cases h
    · exact h2 z
  rw [hv_out h4]
  exact s.keep b o h3 h1 h
theorem hv_sub {A B : List Addr} (h : ∀ x ∈ A, x ∈ B) : Same (hv B H) (hv A H) := fun b o q => by
  have hb : b ∉ B := fun z => by rw [hv_in z] at q; cases q
  rw [hv_out hb] at q
  rw [hv_out fun z => hb (h b z)]
  exact q
/-- one more address hidden, at which nothing stood -/
theorem hv_more {A : List Addr} (n : H p = none) : Same (hv A H) (hv (p :: A) H) := fun b o q => by
  have hb : b ∉ A := fun z => by rw [hv_in z] at q; cases q
  rw [hv_out hb] at q
  rw [hv_out fun z => by
    rcases List.mem_cons.mp z with w | w
    · rw [w, n] at q; cases q
    · exact hb w]
  exact q
end
/-! ### a frame's slots -/
/-- what is known of a slot: a value, or a list of the frame's own that it may change -/
inductive Sl where
  | val (d : Dt)
  | own (l : List Dt)
abbrev De := List (Option Sl)
structure Fr (S : Su) (M : Mu) (A L : List Addr) (σ : L2.St) (δ : De) (H : Hp) : Prop where
  len : σ.length = δ.length
  hd : Hd (L ++ A) H
  dis : ∀ p ∈ L, p ∉ A
  mA : ∀ e ∈ M, e.1 ∈ A
  mu : MOk S M H
  val : ∀ (i : Nat) (d : Dt), δ[i]? = some (some (.val d)) → ∃ v, σ[i]? = some (some v) ∧ Da S M (hv (L ++ A) H) v d
  own : ∀ (i : Nat) (ds : List Dt), δ[i]? = some (some (.own ds)) → ∃ (p : Addr) (vs : List V), σ[i]? = some (some (.ref p)) ∧ p ∈ L ∧ H p = some (.lst vs) ∧ Das S M (hv (L ++ A) H) vs ds
  uni : ∀ (i j : Nat) (ds es : List Dt) (p : Addr), δ[i]? = some (some (.own ds)) → δ[j]? = some (some (.own es)) → σ[i]? = some (some (.ref p)) → σ[j]? = some (some (.ref p)) → i = j
section
variable {S : Su} {M : Mu} {L L' A : List Addr} {σ : L2.St} {δ : De} {H H' : Hp} {p : Addr} {v : V} {d : Dt} {vs : List V} {ds : List Dt}
theorem Fr.notM (f : Fr S M A L σ δ H) (h : p ∈ L) : p ∉ M.map Prod.fst := fun z => by
  obtain ⟨e, he, rfl⟩ := List.mem_map.mp z
  exact f.dis _ h (f.mA e he)
theorem held_stp {B : List Addr} (s : Stp M [] H [] H') (m : MOk S M H') (h : Hd B H) : Hd B H' := fun a ha z => by
  cases q : H a with
  | none => exact h a ha q
  | some o =>
    by_cases t : a ∈ M.map Prod.fst
    · exact m.held t z
    · rw [s.keep a o t (by simp) q] at z; cases z
theorem Fr.step (f : Fr S M A L σ δ H) (s : Stp M [] H [] H') (m : MOk S M H') : Fr S M A L σ δ H' where
  len := f.len
  hd := held_stp s m f.hd
  dis := f.dis
  mA := f.mA
  mu := m
  val := fun i d e => by
    obtain ⟨v, e1, h⟩ := f.val i d e
    exact ⟨v, e1, h.same ((Stp.wide s).hv f.mA)⟩
  own := fun i ds e => by
    obtain ⟨p, vs, e1, hp, e2, h⟩ := f.own i ds e
    exact ⟨p, vs, e1, hp, s.keep p _ (f.notM hp) (by simp) e2, h.same ((Stp.wide s).hv f.mA)⟩
  uni := f.uni
/-- a value is put into a slot -/
theorem Fr.set (f : Fr S M A L σ δ H) (i : Nat) (h : Da S M (hv (L ++ A) H) v d) : Fr S M A L (σ.set i (some v)) (δ.set i (some (.val d))) H where
  len := by rw [List.length_set, List.length_set, f.len]
  hd := f.hd
  dis := f.dis
  mA := f.mA
  mu := f.mu
  val := fun j e hj => by
    by_cases z : i = j
    · subst z
      have l : i < δ.length := by
        have := (List.getElem?_eq_some_iff.mp hj).1
        rwa [List.length_set] at this
      rw [List.getElem?_set_self l] at hj
      cases hj
      exact ⟨v, List.getElem?_set_self (by rw [f.len]; exact l), h⟩
    · rw [List.getElem?_set_ne z] at hj
      obtain ⟨u, e1, q⟩ := f.val j e hj
      exact ⟨u, by rw [List.getElem?_set_ne z]; exact e1, q⟩
  own := fun j ds hj => by
    by_cases z : i = j
    · subst z
      have l : i < δ.length := by
        have := (List.getElem?_eq_some_iff.mp hj).1
        rwa [List.length_set] at this
      rw [List.getElem?_set_self l] at hj
      cases hj
    · rw [List.getElem?_set_ne z] at hj
      obtain ⟨p, vs, e1, q⟩ := f.own j ds hj
      exact ⟨p, vs, by rw [List.getElem?_set_ne z]; exact e1, q⟩
  uni := fun j k ds es p h1 h2 h3 h4 => by
    have nj : i ≠ j := fun z => by
      subst z
      have l := (List.getElem?_eq_some_iff.mp h1).1
      rw [List.length_set] at l
      rw [List.getElem?_set_self l] at h1
      cases h1
    have nk : i ≠ k := fun z => by
      subst z
      have l := (List.getElem?_eq_some_iff.mp h2).1
      rw [List.length_set] at l
      rw [List.getElem?_set_self l] at h2
      cases h2
    rw [List.getElem?_set_ne nj] at h1 h3
    rw [List.getElem?_set_ne nk] at h2 h4
    exact f.uni j k ds es p h1 h2 h3 h4
theorem stp_hv {B : List Addr} (s : Stp M [] H [] H') (mB : ∀ e ∈ M, e.1 ∈ B) : Same (hv B H) (hv B H') := fun b o h => by
  have hb : b ∉ B := fun z => by rw [hv_in z] at h; cases h
  rw [hv_out hb] at h ⊢
  exact s.keep b o (fun z => by
    obtain ⟨e, he, rfl⟩ := List.mem_map.mp z
    exact hb (mB e he)) (by simp) h
/-- one more address hidden, at which nothing stood -/
theorem hide_stp {B : List Addr} (n : H p = none) (s : Stp M [] H [] H') (mB : ∀ e ∈ M, e.1 ∈ B) : Same (hv B H) (hv (p :: B) H') :=
  (hv_more n).trans (stp_hv s fun e he => List.mem_cons_of_mem _ (mB e he))
/-- a new list is put into a slot, as the frame's own -/
theorem Fr.setOwn (f : Fr S M A L σ δ H) (i : Nat) (n : H p = none) (s : Stp M [] H [] H') (m : MOk S M H') (e : H' p = some (.lst vs))
    (h : Das S M (hv (p :: (L ++ A)) H') vs ds) : Fr S M A (p :: L) (σ.set i (some (.ref p))) (δ.set i (some (Sl.own ds))) H' := by
  have mB : ∀ e ∈ M, e.1 ∈ L ++ A := fun e he => List.mem_append_right _ (f.mA e he)
  have hs : Same (hv (L ++ A) H) (hv (p :: (L ++ A)) H') := hide_stp n s mB
  have pB : p ∉ L ++ A := fun z => f.hd p z n
  exact {
    len := by rw [List.length_set, List.length_set, f.len]
    hd := fun a ha => by
      rcases List.mem_cons.mp ha with z | z
      · rw [z, e]; exact fun w => by cases w
      · exact held_stp s m f.hd a z
    dis := fun q hq => by
      rcases List.mem_cons.mp hq with z | z
      · rw [z]; exact fun w => pB (List.mem_append_right _ w)
      · exact f.dis q z
    mA := f.mA
    mu := m
    val := fun j d hj => by
      have z : i ≠ j := fun z => by
        subst z
        have l := (List.getElem?_eq_some_iff.mp hj).1
        rw [List.length_set] at l
        rw [List.getElem?_set_self l] at hj
        cases hj
      rw [List.getElem?_set_ne z] at hj
      obtain ⟨u, e1, q⟩ := f.val j d hj
      exact ⟨u, by rw [List.getElem?_set_ne z]; exact e1, q.same hs⟩
    own := fun j es hj => by
      by_cases z : i = j
      · subst z
        have l : i < δ.length := by
          have := (List.getElem?_eq_some_iff.mp hj).1
          rwa [List.length_set] at this
        rw [List.getElem?_set_self l] at hj
        cases hj
        exact ⟨p, vs, List.getElem?_set_self (by rw [f.len]; exact l), List.mem_cons_self, e, h⟩
      · rw [List.getElem?_set_ne z] at hj
        obtain ⟨q, ws, e1, hq, e2, h2⟩ := f.own j es hj
        exact ⟨q, ws, by rw [List.getElem?_set_ne z]; exact e1, List.mem_cons_of_mem _ hq, s.keep q _ (f.notM hq) (by simp) e2, h2.same hs⟩
    uni := fun j k ds' es q h1 h2 h3 h4 => by
      by_cases zj : i = j
      · by_cases zk : i = k
        · rw [← zj, ← zk]
        · exfalso
          subst zj
          rw [List.getElem?_set_ne zk] at h2 h4
          have l : i < σ.length := by
            have := (List.getElem?_eq_some_iff.mp h3).1
            rwa [List.length_set] at this
          rw [List.getElem?_set_self l] at h3
          cases h3
          obtain ⟨q', ws, e1, hq, _⟩ := f.own k es h2
          rw [h4] at e1
          cases e1
          exact pB (List.mem_append_left _ hq)
      · by_cases zk : i = k
        · exfalso
          subst zk
          rw [List.getElem?_set_ne zj] at h1 h3
          have l : i < σ.length := by
            have := (List.getElem?_eq_some_iff.mp h4).1
            rwa [List.length_set] at this
          rw [List.getElem?_set_self l] at h4
          cases h4
          obtain ⟨q', ws, e1, hq, _⟩ := f.own j ds' h1
          rw [h3] at e1
          cases e1
          exact pB (List.mem_append_left _ hq)
        · rw [List.getElem?_set_ne zj] at h1 h3
          rw [List.getElem?_set_ne zk] at h2 h4
          exact f.uni j k ds' es q h1 h2 h3 h4 }
/-- a list of the frame's own, changed -/
theorem Fr.chg (f : Fr S M A L σ δ H) (i : Nat) {ws : List V} {es : List Dt} (e : δ[i]? = some (some (Sl.own ds))) (ep : σ[i]? = some (some (.ref p))) (h : Das S M (hv (L ++ A) H) ws es) :
    Fr S M A L σ (δ.set i (some (Sl.own es))) (upd H p (.lst ws)) ∧ Stp M L H L (upd H p (.lst ws)) := by
  obtain ⟨p', vs, e1, pL, e2, h2⟩ := f.own i ds e
  rw [ep] at e1
  cases e1
  have il : i < δ.length := (List.getElem?_eq_some_iff.mp e).1
  have pB : p ∈ L ++ A := List.mem_append_left _ pL
  have hs : Same (hv (L ++ A) H) (hv (L ++ A) (upd H p (.lst ws))) := fun b o q => by
    have hb : b ∉ L ++ A := fun z => by rw [hv_in z] at q; cases q
    rw [hv_out hb] at q ⊢
    rw [upd_ne fun z => hb (by rw [z]; exact pB)]
    exact q
  refine ⟨?_, ⟨fun b o _ n q => by rw [upd_ne fun z => n (by rw [z]; exact pL)]; exact q, fun _ z => .inl z⟩⟩
  exact {
    len := by rw [List.length_set, f.len]
    hd := fun a ha z => by
      by_cases w : a = p
      · rw [w, upd_same] at z; cases z
      · rw [upd_ne w] at z; exact f.hd a ha z
    dis := f.dis
    mA := f.mA
    mu := ⟨fun x hx => by
      obtain ⟨o, q, r⟩ := f.mu.ok x hx
      refine ⟨o, ?_, S.mdm (fun b u e n _ _ => ?_) r⟩
      · rw [upd_ne fun z => f.dis p pL (by rw [← z]; exact f.mA x hx)]
        exact q
      · rw [upd_ne fun z => n vs (by rw [z, e2] at e; cases e; rfl)]
        exact e, f.mu.must⟩
    val := fun j d hj => by
      have z : i ≠ j := fun z => by
        subst z
        rw [List.getElem?_set_self il] at hj
        cases hj
      rw [List.getElem?_set_ne z] at hj
      obtain ⟨u, e1, q⟩ := f.val j d hj
      exact ⟨u, e1, q.same hs⟩
    own := fun j es' hj => by
      by_cases z : i = j
      · subst z
        rw [List.getElem?_set_self il] at hj
        cases hj
        exact ⟨p, ws, ep, pL, upd_same, h.same hs⟩
      · rw [List.getElem?_set_ne z] at hj
        obtain ⟨q, us, e1, hq, e3, h3⟩ := f.own j es' hj
        refine ⟨q, us, e1, hq, ?_, h3.same hs⟩
        rw [upd_ne fun w => z (f.uni i j ds es' p e hj ep (by rw [← w]; exact e1))]
        exact e3
    uni := fun j k ds' es' q h1 h2 h3 h4 => by
      have key : ∀ (j : Nat) (xs : List Dt), (δ.set i (some (Sl.own es)))[j]? = some (some (Sl.own xs)) → ∃ ys, δ[j]? = some (some (Sl.own ys)) := fun j xs hj => by
        by_cases z : i = j
        · exact ⟨ds, by rw [← z]; exact e⟩
        · rw [List.getElem?_set_ne z] at hj
          exact ⟨xs, hj⟩
      obtain ⟨x1, y1⟩ := key j ds' h1
      obtain ⟨x2, y2⟩ := key k es' h2
      exact f.uni j k x1 x2 q y1 y2 h3 h4 }
/-- a list of the frame's own is changed no more -/
theorem Fr.freeze (f : Fr S M A L σ δ H) (i : Nat) (e : δ[i]? = some (some (Sl.own ds))) : ∃ L', Fr S M A L' σ (δ.set i (some (.val (.lst ds)))) H ∧ Stp M L H L' H ∧ (∀ p ∈ L', p ∈ L) := by
  obtain ⟨p, vs, ep, pL, e2, h2⟩ := f.own i ds e
  have il : i < δ.length := (List.getElem?_eq_some_iff.mp e).1
  have sub : ∀ q ∈ L.filter (fun x => decide (x ≠ p)), q ∈ L := fun q hq => (List.mem_filter.mp hq).1
  have subB : ∀ q ∈ L.filter (fun x => decide (x ≠ p)) ++ A, q ∈ L ++ A := fun q hq => by
    rcases List.mem_append.mp hq with z | z
    · exact List.mem_append_left _ (sub q z)
    · exact List.mem_append_right _ z
  have hs : Same (hv (L ++ A) H) (hv (L.filter (fun x => decide (x ≠ p)) ++ A) H) := hv_sub subB
  have pB : p ∉ L.filter (fun x => decide (x ≠ p)) ++ A := fun z => by
    rcases List.mem_append.mp z with z | z
    · have := (List.mem_filter.mp z).2
      simp at this
    · exact f.dis p pL z
  refine ⟨L.filter (fun x => decide (x ≠ p)), ?_, ⟨fun b o _ _ q => q, fun q hq => .inl (sub q hq)⟩, sub⟩
  exact {
    len := by rw [List.length_set, f.len]
    hd := fun a ha => f.hd a (subB a ha)
    dis := fun q hq => f.dis q (sub q hq)
    mA := f.mA
    mu := f.mu
    val := fun j d hj => by
      by_cases z : i = j
      · subst z
        rw [List.getElem?_set_self il] at hj
        cases hj
        exact ⟨_, ep, .lst' (by rw [hv_out pB]; exact e2) (h2.same hs)⟩
      · rw [List.getElem?_set_ne z] at hj
        obtain ⟨u, e1, q⟩ := f.val j d hj
        exact ⟨u, e1, q.same hs⟩
    own := fun j es' hj => by
      have z : i ≠ j := fun z => by
        subst z
        rw [List.getElem?_set_self il] at hj
        cases hj
      rw [List.getElem?_set_ne z] at hj
      obtain ⟨q, us, e1, hq, e3, h3⟩ := f.own j es' hj
      refine ⟨q, us, e1, List.mem_filter.mpr ⟨hq, ?_⟩, e3, h3.same hs⟩
      refine decide_eq_true fun w => z ?_
      exact f.uni i j ds es' p e hj ep (by rw [← w]; exact e1)
    uni := fun j k ds' es' q h1 h2 h3 h4 => by
      have key : ∀ (j : Nat) (xs : List Dt), (δ.set i (some (.val (.lst ds))))[j]? = some (some (Sl.own xs)) → δ[j]? = some (some (Sl.own xs)) := fun j xs hj => by
        by_cases z : i = j
        · subst z
          rw [List.getElem?_set_self il] at hj
          cases hj
        · rwa [List.getElem?_set_ne z] at hj
      exact f.uni j k ds' es' q (key j ds' h1) (key k es' h2) h3 h4 }
end
end LW
set_option Elab.async false
set_option linter.all false
set_option maxRecDepth 100000
set_option maxHeartbeats 4000100
/-! what an expression computes, told of plain data -/
namespace LW
open L2 PySem.Spec PyProof.Rows PySem
theorem peTo {X : Cx} {e : Expr} {t t' : TE} (h : PE X e t) (m : ∀ σ H Q, t' σ H Q → t σ H Q) : PE X e t' := ⟨fun pins s σ H Q I q => h.run pins s σ H Q I (m σ H Q q)⟩
theorem ptTo {X : Cx} {e : Expr} {t t' : TT} (h : PT X e t) (m : ∀ σ H Q, t' σ H Q → t σ H Q) : PT X e t' := ⟨fun pins s σ H Q I q => h.run pins s σ H Q I (m σ H Q q)⟩
theorem pwTo {X : Cx} {e : Expr} {t t' : TT} (h : PW X e t) (m : ∀ σ H Q, t' σ H Q → t σ H Q) : PW X e t' := ⟨fun wh pins s σ H Q I q => h.run wh pins s σ H Q I (m σ H Q q)⟩
theorem paTo {X : Cx} {e : List Expr} {t t' : TA} (h : PA X e t) (m : ∀ σ H Q, t' σ H Q → t σ H Q) : PA X e t' := ⟨fun pos pins s σ H Q I q => h.run pos pins s σ H Q I (m σ H Q q)⟩
theorem psTo {X : Cx} {e : Stmt} {t t' : TS} (h : PS X e t) (m : ∀ D σ H, t' D σ H → t D σ H) : PS X e t' := ⟨fun pins s σ H D I q => h.run pins s σ H D I (m D σ H q)⟩
theorem pssTo {X : Cx} {e : List Stmt} {t t' : TS} (h : PSs X e t) (m : ∀ D σ H, t' D σ H → t D σ H) : PSs X e t' := ⟨fun pins s σ H D I q => h.run pins s σ H D I (m D σ H q)⟩
theorem pgTo {X : Cx} {e : Expr} {t t' : TG} (h : PG X e t) (m : ∀ v σ H Q, t' v σ H Q → t v σ H Q) : PG X e t' := ⟨fun pins s σ H v u Q I r q => h.run pins s σ H v u Q I r (m v σ H Q q)⟩
/-- an error: its class's name, its one field -/
structure Er where
  cls : Str
  fld : Option (Str × Dt)
def XOk (S : Su) (M : Mu) (A : List Addr) (x : Er) (cls : Value) (dd : Option Addr) (H : Hp) : Prop :=
  S.mg x.cls = some cls ∧ match x.fld with
    | none => True
    | some (n, d) => ∃ a v, dd = some a ∧ H a = some (.xd [(n, v)]) ∧ Da S M (hv A H) v d
abbrev WE := De → (Dt → Prop) → (Er → Prop) → Prop
abbrev WT := De → (Bool → Prop) → (Er → Prop) → Prop
abbrev WA := De → (List Dt → Prop) → (Er → Prop) → Prop
/-- a value that may be a list of the frame's own -/
def Dw (S : Su) (M : Mu) (L A : List Addr) (H : Hp) (v : V) (d : Dt) : Prop := Da S M (hv (L ++ A) H) v d ∨
  ∃ (p : Addr) (vs : List V) (ds : List Dt), v = .ref p ∧ d = .lst ds ∧ p ∈ L ∧ H p = some (.lst vs) ∧ Das S M (hv (L ++ A) H) vs ds
structure Dws (S : Su) (M : Mu) (L A : List Addr) (H : Hp) (xs : List V) (ds : List Dt) : Prop where
  len : xs.length = ds.length
  all : ∀ (i : Nat) (v : V) (d : Dt), xs[i]? = some v → ds[i]? = some d → Dw S M L A H v d
section
variable {S : Su} {M : Mu} {L A : List Addr} {σ : L2.St} {δ : De} {H H' : Hp} {v : V} {d : Dt} {vs : List V} {ds : List Dt}
theorem Dw.step (s : Stp M [] H [] H') (mA : ∀ e ∈ M, e.1 ∈ A) (dis : ∀ p ∈ L, p ∉ A) (h : Dw S M L A H v d) : Dw S M L A H' v d := by
  rcases h with h | ⟨p, vs, ds, rfl, rfl, pL, e, h⟩
  · exact .inl (h.same ((Stp.wide s).hv mA))
  · refine .inr ⟨p, vs, ds, rfl, rfl, pL, s.keep p _ (fun z => ?_) (by simp) e, h.same ((Stp.wide s).hv mA)⟩
    obtain ⟨x, hx, rfl⟩ := List.mem_map.mp z
    exact dis _ pL (mA x hx)
theorem Dws.nil : Dws S M L A H [] [] := ⟨rfl, fun i v d h => by simp at h⟩
theorem Dws.cons (h : Dw S M L A H v d) (r : Dws S M L A H vs ds) : Dws S M L A H (v :: vs) (d :: ds) :=
  ⟨by rw [List.length_cons, List.length_cons, r.len], fun i w e h1 h2 => by
    cases i with
    | zero => cases h1; cases h2; exact h
    | succ i => exact r.all i w e h1 h2⟩
theorem Dws.of_cons (h : Dws S M L A H vs (d :: ds)) : ∃ v ws, vs = v :: ws ∧ Dw S M L A H v d ∧ Dws S M L A H ws ds := by
  obtain ⟨l, q⟩ := h
  cases vs with
  | nil => simp at l
  | cons v ws => exact ⟨v, ws, rfl, q 0 v d rfl rfl, by simpa using l, fun i w e h1 h2 => q (i + 1) w e h1 h2⟩
theorem Dws.of_nil (h : Dws S M L A H vs []) : vs = [] := List.length_eq_zero_iff.mp h.len
theorem Dws.one (h : Dws S M L A H vs [d]) : ∃ v, vs = [v] ∧ Dw S M L A H v d := by
  obtain ⟨v, ws, rfl, q, r⟩ := h.of_cons
  exact ⟨v, by rw [r.of_nil], q⟩
theorem Dws.two {e : Dt} (h : Dws S M L A H vs [d, e]) : ∃ v w, vs = [v, w] ∧ Dw S M L A H v d ∧ Dw S M L A H w e := by
  obtain ⟨v, ws, rfl, q, r⟩ := h.of_cons
  obtain ⟨w, rfl, q2⟩ := r.one
  exact ⟨v, w, rfl, q, q2⟩
theorem Dw.int_eq {i : Int} (h : Dw S M L A H v (.int i)) : v = .int i := by
  rcases h with h | ⟨p, vs, ds, _, z, _⟩
  · exact h.int_eq
  · cases z
theorem Dw.str_eq {i : Str} (h : Dw S M L A H v (.str i)) : v = .str i := by
  rcases h with h | ⟨p, vs, ds, _, z, _⟩
  · exact h.str_eq
  · cases z
theorem Dw.bl_eq {i : Bool} (h : Dw S M L A H v (.bl i)) : v = .bl i := by
  rcases h with h | ⟨p, vs, ds, _, z, _⟩
  · exact h.bl_eq
  · cases z
theorem Dw.non_eq (h : Dw S M L A H v .non) : v = .non := by
  rcases h with h | ⟨p, vs, ds, _, z, _⟩
  · exact h.non_eq
  · cases z
theorem Dw.ty_eq {n : String} (h : Dw S M L A H v (.ty n)) : v = .ty n := by
  rcases h with h | ⟨p, vs, ds, _, z, _⟩
  · exact h.ty_eq
  · cases z
theorem Dw.strong (h : Dw S M L A H v d) (n : ∀ l, d ≠ .lst l) : Da S M (hv (L ++ A) H) v d := by
  rcases h with h | ⟨p, vs, ds, _, z, _⟩
  · exact h
  · exact absurd z (n ds)
theorem Dw.list (h : Dw S M L A H v (.lst ds)) : ∃ a vs, v = .ref a ∧ H a = some (.lst vs) ∧ Das S M (hv (L ++ A) H) vs ds := by
  rcases h with h | ⟨p, vs, es, rfl, z, _, e, q⟩
  · obtain ⟨a, vs, rfl, sq, all⟩ := h.list
    exact ⟨a, vs, rfl, hv_le _ _ sq, all⟩
  · cases z
    exact ⟨p, vs, rfl, e, q⟩
theorem Dw.tuple (h : Dw S M L A H v (.tup ds)) : ∃ a vs, v = .ref a ∧ SqT S.K H a vs ∧ Das S M (hv (L ++ A) H) vs ds := by
  obtain ⟨a, vs, rfl, sq, all⟩ := (h.strong (fun l z => by cases z)).tuple
  exact ⟨a, vs, rfl, sqT_full sq, all⟩
/-- seen from outside the frame -/
theorem Dw.out (dis : ∀ p ∈ L, p ∉ A) (h : Dw S M L A H v d) : Da S M (hv A H) v d := by
  have sub : Same (hv (L ++ A) H) (hv A H) := hv_sub fun x hx => List.mem_append_right _ hx
  rcases h with h | ⟨p, vs, es, rfl, rfl, pL, e, q⟩
  · exact h.same sub
  · exact .lst' (by rw [hv_out (dis p pL)]; exact e) (q.same sub)
end
/-- what is told behind an expression -/
def Aft (S : Su) (M : Mu) (L A : List Addr) (H : Hp) (k : Dt → Prop) (Q : VK) : Prop := ∀ v d H', Stp M [] H [] H' → MOk S M H' → Da S M (hv (L ++ A) H') v d → k d → Q v H'
def AftW (S : Su) (M : Mu) (L A : List Addr) (H : Hp) (k : Dt → Prop) (Q : VK) : Prop := ∀ v d H', Stp M [] H [] H' → MOk S M H' → Dw S M L A H' v d → k d → Q v H'
def AftF (S : Su) (M : Mu) (L A : List Addr) (H : Hp) (k : Dt → Prop) (Q : VK) : Prop := ∀ (p : Addr) (vs : List V) (ds : List Dt) (H' : Hp), H p = none → Stp M [] H [] H' → MOk S M H' → H' p = some (.lst vs) → Das S M (hv (p :: (L ++ A)) H') vs ds → k (.lst ds) → Q (.ref p) H'
def AftT (S : Su) (M : Mu) (H : Hp) (k : Bool → Prop) (Q : Bool → Hp → Prop) : Prop := ∀ b H', Stp M [] H [] H' → MOk S M H' → k b → Q b H'
def AftA (S : Su) (M : Mu) (L A : List Addr) (H : Hp) (k : List Dt → Prop) (Q : List V → Hp → Prop) : Prop := ∀ v d H', Stp M [] H [] H' → MOk S M H' → Das S M (hv (L ++ A) H') v d → k d → Q v H'
def AftAW (S : Su) (M : Mu) (L A : List Addr) (H : Hp) (k : List Dt → Prop) (Q : List V → Hp → Prop) : Prop := ∀ v d H', Stp M [] H [] H' → MOk S M H' → Dws S M L A H' v d → k d → Q v H'
def AftX (S : Su) (M : Mu) (A : List Addr) (H : Hp) (e : Er → Prop) (E : XK) : Prop := ∀ x cls dd H', Stp M [] H [] H' → MOk S M H' → XOk S M A x cls dd H' → e x → E cls dd H'
def tP (S : Su) (E : XK) (w : WE) : TE := fun σ H Q => ∃ M A L δ k e, Fr S M A L σ δ H ∧ w δ k e ∧ Aft S M L A H k Q ∧ AftX S M (L ++ A) H e E
def tPW (S : Su) (E : XK) (w : WE) : TE := fun σ H Q => ∃ M A L δ k e, Fr S M A L σ δ H ∧ w δ k e ∧ AftW S M L A H k Q ∧ AftX S M (L ++ A) H e E
def tPF (S : Su) (E : XK) (w : WE) : TE := fun σ H Q => ∃ M A L δ k e, Fr S M A L σ δ H ∧ w δ k e ∧ AftF S M L A H k Q ∧ AftX S M (L ++ A) H e E
def tPT (S : Su) (E : XK) (w : WT) : TT := fun σ H Q => ∃ M A L δ k e, Fr S M A L σ δ H ∧ w δ k e ∧ AftT S M H k Q ∧ AftX S M (L ++ A) H e E
def tPA (S : Su) (E : XK) (w : WA) : TA := fun σ H Q => ∃ M A L δ k e, Fr S M A L σ δ H ∧ w δ k e ∧ AftA S M L A H k Q ∧ AftX S M (L ++ A) H e E
def tPAW (S : Su) (E : XK) (w : WA) : TA := fun σ H Q => ∃ M A L δ k e, Fr S M A L σ δ H ∧ w δ k e ∧ AftAW S M L A H k Q ∧ AftX S M (L ++ A) H e E
section
variable {S : Su} {M : Mu} {L A : List Addr} {H H' : Hp} {k : Dt → Prop} {kl : List Dt → Prop} {kb : Bool → Prop} {e : Er → Prop} {Q : VK} {Ql : List V → Hp → Prop} {Qb : Bool → Hp → Prop} {E : XK}
theorem Aft.step (s : Stp M [] H [] H') (m : MOk S M H') (h : Aft S M L A H k Q) : Aft S M L A H' k Q := fun v d H2 s2 m2 hv hk => h v d H2 (s.trans m s2) m2 hv hk
theorem AftW.step (s : Stp M [] H [] H') (m : MOk S M H') (h : AftW S M L A H k Q) : AftW S M L A H' k Q := fun v d H2 s2 m2 hv hk => h v d H2 (s.trans m s2) m2 hv hk
theorem AftT.step (s : Stp M [] H [] H') (m : MOk S M H') (h : AftT S M H kb Qb) : AftT S M H' kb Qb := fun v H2 s2 m2 hk => h v H2 (s.trans m s2) m2 hk
theorem AftA.step (s : Stp M [] H [] H') (m : MOk S M H') (h : AftA S M L A H kl Ql) : AftA S M L A H' kl Ql := fun v d H2 s2 m2 hv hk => h v d H2 (s.trans m s2) m2 hv hk
theorem AftAW.step (s : Stp M [] H [] H') (m : MOk S M H') (h : AftAW S M L A H kl Ql) : AftAW S M L A H' kl Ql := fun v d H2 s2 m2 hv hk => h v d H2 (s.trans m s2) m2 hv hk
theorem AftX.step (s : Stp M [] H [] H') (m : MOk S M H') (h : AftX S M A H e E) : AftX S M A H' e E := fun x c dd H2 s2 m2 hx he => h x c dd H2 (s.trans m s2) m2 hx he
theorem stp_free (s : Stp M [] H [] H') (m : MOk S M H') {p : Addr} (n : H' p = none) : H p = none := by
  cases q : H p with
  | none => rfl
  | some o =>
    by_cases t : p ∈ M.map Prod.fst
    · exact absurd n (m.held t)
    · rw [s.keep p o t (by simp) q] at n; cases n
theorem AftF.step (s : Stp M [] H [] H') (m : MOk S M H') (h : AftF S M L A H k Q) : AftF S M L A H' k Q := fun p vs ds H2 n s2 m2 e hv hk => h p vs ds H2 (stp_free s m n) (s.trans m s2) m2 e hv hk
theorem AftW.aft (h : AftW S M L A H k Q) : Aft S M L A H k Q := fun v d H' s m hv hk => h v d H' s m (.inl hv) hk
theorem Aft.fresh (hd : Hd (L ++ A) H) (h : Aft S M L A H k Q) : AftF S M L A H k Q := fun p vs ds H' n s m e hv hk => by
  have pB : p ∉ L ++ A := fun z => hd p z n
  exact h _ _ _ s m (.lst' (by rw [hv_out pB]; exact e) (hv.same (hv_sub fun x hx => List.mem_cons_of_mem _ hx))) hk
end
section
variable {X : Cx} {S : Su} {E : XK} {x : Expr} {w : WE}
theorem xw (h : PE X x (tP S E w)) : PE X x (tPW S E w) := peTo h fun σ H Q ⟨M, A, L, δ, k, e, f, hw, a, ax⟩ => ⟨M, A, L, δ, k, e, f, hw, a.aft, ax⟩
theorem xf (h : PE X x (tPF S E w)) : PE X x (tP S E w) := peTo h fun σ H Q ⟨M, A, L, δ, k, e, f, hw, a, ax⟩ => ⟨M, A, L, δ, k, e, f, hw, a.fresh f.hd, ax⟩
end
/-! ### names and
      constants -/
/-- a slot's value -/
def look : De → Nat → (Dt → Prop) → Prop
  | [], _, _ => False
  | some (.val d) :: _, 0, k => k d
  | some (.own _) :: _, 0, _ => False
  | none :: _, 0, _ => False
  | _ :: r, n + 1, k => look r n k
/-- .. also a list of the frame's own -/
def lookO : De → Nat → (Dt → Prop) → Prop
  | [], _, _ => False
  | some (.val d) :: _, 0, k => k d
  | some (.own l) :: _, 0, k => k (.lst l)
  | none :: _, 0, _ => False
  | _ :: r, n + 1, k => lookO r n k
theorem look_of : ∀ {δ : De} {i : Nat} {k : Dt → Prop}, look δ i k → ∃ d, δ[i]? = some (some (.val d)) ∧ k d
  | [], _, _, h => h.elim
  | some (.val d) :: _, 0, _, h => ⟨d, rfl, h⟩
  | some (.own _) :: _, 0, _, h => h.elim
  | none :: _, 0, _, h => h.elim
  | some (.val d) :: r, n + 1, k, h => by
    obtain ⟨e, h1, h2⟩ := look_of (δ := r) (i := n) (k := k) h
    exact ⟨e, by simpa using h1, h2⟩
  | some (.own d) :: r, n + 1, k, h => by
    obtain ⟨e, h1, h2⟩ := look_of (δ := r) (i := n) (k := k) h
    exact ⟨e, by simpa using h1, h2⟩
  | none :: r, n + 1, k, h => by
    obtain ⟨e, h1, h2⟩ := look_of (δ := r) (i := n) (k := k) h
    exact ⟨e, by simpa using h1, h2⟩
theorem lookO_of : ∀ {δ : De} {i : Nat} {k : Dt → Prop}, lookO δ i k → ∃ d, k d ∧ (δ[i]? = some (some (.val d)) ∨ ∃ l, d = .lst l ∧ δ[i]? = some (some (.own l)))
  | [], _, _, h => h.elim
  | some (.val d) :: _, 0, _, h => ⟨d, h, .inl rfl⟩
  | some (.own l) :: _, 0, _, h => ⟨.lst l, h, .inr ⟨l, rfl, rfl⟩⟩
  | none :: _, 0, _, h => h.elim
  | some (.val d) :: r, n + 1, k, h => by
    obtain ⟨e, h1, h2⟩ := lookO_of (δ := r) (i := n) (k := k) h
    exact ⟨e, h1, by simpa using h2⟩
  | some (.own d) :: r, n + 1, k, h => by
    obtain ⟨e, h1, h2⟩ := lookO_of (δ := r) (i := n) (k := k) h
    exact ⟨e, h1, by simpa using h2⟩
  | none :: r, n + 1, k, h => by
    obtain ⟨e, h1, h2⟩ := lookO_of (δ := r) (i := n) (k := k) h
    exact ⟨e, h1, by simpa using h2⟩
def wV (i : Nat) : WE := fun δ k _ => look δ i k
def wO (i : Nat) : WE := fun δ k _ => lookO δ i k
def wC (d : Dt) : WE := fun _ k _ => k d
section
variable {X : Cx} {S : Su} {E : XK} {x : Expr} {i : Nat}
theorem xV (h : PE X x (tVar i)) : PE X x (tP S E (wV i)) := peTo h fun σ H Q ⟨M, A, L, δ, k, e, f, hw, a, _⟩ => by
  obtain ⟨d, e1, hk⟩ := look_of hw
  obtain ⟨v, e2, q⟩ := f.val i d e1
  exact ⟨v, e2, a v d H .refl f.mu q hk⟩
theorem xO (h : PE X x (tVar i)) : PE X x (tPW S E (wO i)) := peTo h fun σ H Q ⟨M, A, L, δ, k, e, f, hw, a, _⟩ => by
  obtain ⟨d, hk, z⟩ := lookO_of hw
  rcases z with e1 | ⟨l, rfl, e1⟩
  · obtain ⟨v, e2, q⟩ := f.val i d e1
    exact ⟨v, e2, a v d H .refl f.mu (.inl q) hk⟩
  · obtain ⟨p, vs, e2, pL, e3, q⟩ := f.own i l e1
    exact ⟨.ref p, e2, a _ _ H .refl f.mu (.inr ⟨p, vs, l, rfl, rfl, pL, e3, q⟩) hk⟩
theorem xC {v : V} {d : Dt} (h : PE X x (tC v)) (r : ∀ M H, Da S M H v d) : PE X x (tP S E (wC d)) := peTo h fun σ H Q ⟨M, A, L, δ, k, e, f, hw, a, _⟩ => a v d H .refl f.mu (r _ _) hw
theorem xInt {i : Int} (h : PE X x (tC (.int i))) : PE X x (tP S E (wC (.int i))) := xC h fun _ _ => .int _
theorem xBl {i : Bool} (h : PE X x (tC (.bl i))) : PE X x (tP S E (wC (.bl i))) := xC h fun _ _ => .bl _
theorem xNon (h : PE X x (tC .non)) : PE X x (tP S E (wC .non)) := xC h fun _ _ => .non
theorem xTy {n : String} (h : PE X x (tC (.ty n))) : PE X x (tP S E (wC (.ty n))) := xC h fun _ _ => .ty _
theorem xFn {n : Str} {v : V} {u : Value} (h : PE X x (tC v)) (hm : S.mg n = some u) (r : RelV v u) : PE X x (tP S E (wC (.fn n))) := xC h fun _ _ => .fn hm r
end
/-! ### operations -/
def OpP (S : Su) (r : R2) (g : Dt → Dt → (Dt → Prop) → Prop) : Prop := ∀ (M : Mu) (L A : List Addr) (H : Hp) (x y : V) (dx dy : Dt) (k : Dt → Prop) (Q : VK), Hd (L ++ A) H → MOk S M H → (∀ p ∈ L, p ∉ A) →
  Dw S M L A H x dx → Dw S M L A H y dy → g dx dy k → Aft S M L A H k Q → r x y H Q
def OpF (S : Su) (r : R2) (g : Dt → Dt → (Dt → Prop) → Prop) : Prop := ∀ (M : Mu) (L A : List Addr) (H : Hp) (x y : V) (dx dy : Dt) (k : Dt → Prop) (Q : VK), Hd (L ++ A) H → MOk S M H → (∀ p ∈ L, p ∉ A) →
  Dw S M L A H x dx → Dw S M L A H y dy → g dx dy k → AftF S M L A H k Q → r x y H Q
def CallP (S : Su) (r : List V → Hp → VK → Prop) (g : List Dt → (Dt → Prop) → Prop) : Prop := ∀ (M : Mu) (L A : List Addr) (H : Hp) (xs : List V) (ds : List Dt) (k : Dt → Prop) (Q : VK), Hd (L ++ A) H → MOk S M H → (∀ p ∈ L, p ∉ A) →
  Dws S M L A H xs ds → g ds k → Aft S M L A H k Q → r xs H Q
def wBin (g : Dt → Dt → (Dt → Prop) → Prop) (wa wb : WE) : WE := fun δ k e => wa δ (fun x => wb δ (fun y => g x y k) e) e
def wUn (g : Dt → (Dt → Prop) → Prop) (wa : WE) : WE := fun δ k e => wa δ (fun x => g x k) e
def wCal (g : List Dt → (Dt → Prop) → Prop) (wa : WA) : WE := fun δ k e => wa δ (fun x => g x k) e
section
variable {X : Cx} {S : Su} {E : XK} {wa wb : WE} {g : Dt → Dt → (Dt → Prop) → Prop} {r : R2}
theorem binT (ho : OpP S r g) {ta tb : TE} (ha : ∀ σ H Q, tPW S E wa σ H Q → ta σ H Q) (hb : ∀ σ H Q, tPW S E wb σ H Q → tb σ H Q) : ∀ σ H Q, tP S E (wBin g wa wb) σ H Q → tOp r ta tb σ H Q := fun σ H Q ⟨M, A, L, δ, k, e, f, hw, a, ax⟩ =>
  ha _ _ _ ⟨M, A, L, δ, _, e, f, hw, fun x dx H1 s1 m1 hx hk => hb _ _ _ ⟨M, A, L, δ, _, e, f.step s1 m1, hk, fun y dy H2 s2 m2 hy hk2 =>
    ho M L A H2 x y dx dy k Q (held_stp s2 m2 (held_stp s1 m1 f.hd)) m2 f.dis (hx.step s2 f.mA f.dis) hy hk2 (a.step (s1.trans m1 s2) m2), ax.step s1 m1⟩, ax⟩
theorem binF (ho : OpF S r g) {ta tb : TE} (ha : ∀ σ H Q, tPW S E wa σ H Q → ta σ H Q) (hb : ∀ σ H Q, tPW S E wb σ H Q → tb σ H Q) : ∀ σ H Q, tPF S E (wBin g wa wb) σ H Q → tOp r ta tb σ H Q := fun σ H Q ⟨M, A, L, δ, k, e, f, hw, a, ax⟩ =>
  ha _ _ _ ⟨M, A, L, δ, _, e, f, hw, fun x dx H1 s1 m1 hx hk => hb _ _ _ ⟨M, A, L, δ, _, e, f.step s1 m1, hk, fun y dy H2 s2 m2 hy hk2 =>
    ho M L A H2 x y dx dy k Q (held_stp s2 m2 (held_stp s1 m1 f.hd)) m2 f.dis (hx.step s2 f.mA f.dis) hy hk2 (a.step (s1.trans m1 s2) m2), ax.step s1 m1⟩, ax⟩
variable {x y z : Expr} {pos : Pos}
theorem xBin {op : Operator} (ho : OpR X (binaryOp op) r) (hp : OpP S r g) (ha : PE X x (tPW S E wa)) (hb : PE X y (tPW S E wb)) : PE X (.BinOp x op y pos) (tP S E (wBin g wa wb)) :=
  peTo (pe_op ho ha hb) (binT hp (fun _ _ _ q => q) (fun _ _ _ q => q))
theorem xBinF {op : Operator} (ho : OpR X (binaryOp op) r) (hp : OpF S r g) (ha : PE X x (tPW S E wa)) (hb : PE X y (tPW S E wb)) : PE X (.BinOp x op y pos) (tPF S E (wBin g wa wb)) :=
  peTo (pe_op ho ha hb) (binF hp (fun _ _ _ q => q) (fun _ _ _ q => q))
theorem xCmp {op : CmpOp} (ho : OpR X (compareOp op) r) (hp : OpP S r g) (ha : PE X x (tPW S E wa)) (hb : PE X y (tPW S E wb)) (hm : behindInMarks op y = false) : PE X (.Compare x [op] [y] pos) (tP S E (wBin g wa wb)) :=
  peTo (pe_cmpR ho ha hb hm) (binT hp (fun _ _ _ q => q) (fun _ _ _ q => q))
theorem xIx (ho : IxR X r) (hp : OpP S r g) (ha : PE X x (tPW S E wa)) (hb : PE X y (tPW S E wb)) (hs : PlainIx y) : PE X (.Subscript x y pos) (tP S E (wBin g wa wb)) :=
  peTo (pe_ix ho ha hb hs) (binT hp (fun _ _ _ q => q) (fun _ _ _ q => q))
end
/-! ### tests -/
/-- the truth of a bool -/
def wTst (w : WE) : WT := fun δ k e => w δ (fun d => match d with | .bl b => k b | _ => False) e
/-- the truth of any value -/
def truD (d : Dt) (k : Bool → Prop) : Prop := match d with
  | .non => k false
  | .bl b => k b
  | .int i => k (i != 0)
  | .str x => x.length ≤ sizeLine ∧ k ((x.length : Int) != 0)
  | .lst l => k (!l.isEmpty)
  | .tup l => k (!l.isEmpty)
  | .dct => k false
  | _ => False
def wTru (w : WE) : WT := fun δ k e => w δ (fun d => truD d k) e
def wAnd (wa wb : WT) : WT := fun δ k e => wa δ (fun b => match b with | true => wb δ k e | false => k false) e
def wOr (wa wb : WT) : WT := fun δ k e => wa δ (fun b => match b with | true => k true | false => wb δ k e) e
def wNot (wa : WT) : WT := fun δ k e => wa δ (fun b => k (!b)) e
/-- and, or, not as values: all bools -/
def wAndV (wa wb : WE) : WE := fun δ k e => wa δ (fun d => match d with | .bl true => wb δ k e | .bl false => k (.bl false) | _ => False) e
def wOrV (wa wb : WE) : WE := fun δ k e => wa δ (fun d => match d with | .bl true => k (.bl true) | .bl false => wb δ k e | _ => False) e
def wNotV (wa : WE) : WE := fun δ k e => wa δ (fun d => match d with | .bl b => k (.bl (!b)) | _ => False) e
def wIf (wt : WT) (wa wb : WE) : WE := fun δ k e => wt δ (fun b => match b with | true => wa δ k e | false => wb δ k e) e
/-- a op b op' c -/
def wCh (g g' : Dt → Dt → (Dt → Prop) → Prop) (wa wb wc : WE) : WE := fun δ k e => wa δ (fun x => wb δ (fun y => g x y fun z => match z with | .bl true => wc δ (fun u => g' y u k) e | .bl false => k (.bl false) | _ => False) e) e
section
variable {X : Cx} {S : Su} {E : XK} {w wa wb wc : WE} {wt wu : WT} {x y z : Expr} {pos : Pos} {rest : List Expr}
theorem xTst {t : TE} (hp : PT X x (tTest t)) (h : ∀ σ H Q, tP S E w σ H Q → t σ H Q) : PT X x (tPT S E (wTst w)) := ptTo hp fun σ H Q ⟨M, A, L, δ, k, e, f, hw, a, ax⟩ =>
  h _ _ _ ⟨M, A, L, δ, _, e, f, hw, fun v d H1 s1 m1 hv hk => by
    cases d with
    | bl b => exact ⟨b, hv.bl_eq, a _ _ s1 m1 hk⟩
    | _ => exact hk.elim, ax⟩
theorem xTV (h : PE X x (tP S E w)) (he : ∀ whole, isTrue x X.env whole = (do let v ← whole; standAt x.pos; holding [v] (truthy v)) := by intro _; rfl) : PT X x (tPT S E (wTst w)) :=
  xTst (t := tP S E w) (pt_val h he) fun _ _ _ q => q
theorem xTCmp {op : CmpOp} {r : R2} {g : Dt → Dt → (Dt → Prop) → Prop} (ho : OpR X (compareOp op) r) (hp : OpP S r g) (ha : PE X x (tPW S E wa)) (hb : PE X y (tPW S E wb)) (hm : behindInMarks op y = false) : PT X (.Compare x [op] [y] pos) (tPT S E (wTst (wBin g wa wb))) :=
  xTst (pt_cmpR ho ha hb hm) (binT hp (fun _ _ _ q => q) (fun _ _ _ q => q))
theorem xWOr1 (h : PT X x (tPT S E wt)) : PW X (.BoolOp .Or [x] pos) (tPT S E wt) := pw_or1 h
theorem xWOr (ha : PT X x (tPT S E wt)) (hb : PW X (.BoolOp .Or (y :: rest) pos) (tPT S E wu)) : PW X (.BoolOp .Or (x :: y :: rest) pos) (tPT S E (wOr wt wu)) := pwTo (pw_or ha hb) fun σ H Q ⟨M, A, L, δ, k, e, f, hw, a, ax⟩ =>
  ⟨M, A, L, δ, _, e, f, hw, fun b H1 s1 m1 hk => by
    cases b with
    | false => exact ⟨M, A, L, δ, k, e, f.step s1 m1, hk, a.step s1 m1, ax.step s1 m1⟩
    | true => exact a _ _ s1 m1 hk, ax⟩
theorem xTNot (ha : PT X x (tPT S E wt)) : PT X (.UnaryOp .Not x pos) (tPT S E (wNot wt)) := ptTo (pt_not ha) fun σ H Q ⟨M, A, L, δ, k, e, f, hw, a, ax⟩ =>
  ⟨M, A, L, δ, _, e, f, hw, fun b H1 s1 m1 hk => a _ _ s1 m1 hk, ax⟩
theorem xAnd (ha : PE X x (tP S E wa)) (hb : PE X (.BoolOp .And (y :: rest) pos) (tP S E wb)) : PE X (.BoolOp .And (x :: y :: rest) pos) (tP S E (wAndV wa wb)) := peTo (pe_and ha hb) fun σ H Q ⟨M, A, L, δ, k, e, f, hw, a, ax⟩ =>
  ⟨M, A, L, δ, _, e, f, hw, fun v d H1 s1 m1 hv hk => by
    cases d with
    | bl b =>
      cases b with
      | true => exact ⟨true, hv.bl_eq, (if_pos rfl).mpr ⟨M, A, L, δ, k, e, f.step s1 m1, hk, a.step s1 m1, ax.step s1 m1⟩⟩
      | false => exact ⟨false, hv.bl_eq, (if_neg Bool.false_ne_true).mpr (a _ _ _ s1 m1 (.bl _) hk)⟩
    | _ => exact hk.elim, ax⟩
theorem xOr (ha : PE X x (tP S E wa)) (hb : PE X (.BoolOp .Or (y :: rest) pos) (tP S E wb)) : PE X (.BoolOp .Or (x :: y :: rest) pos) (tP S E (wOrV wa wb)) := peTo (pe_or ha hb) fun σ H Q ⟨M, A, L, δ, k, e, f, hw, a, ax⟩ =>
  ⟨M, A, L, δ, _, e, f, hw, fun v d H1 s1 m1 hv hk => by
    cases d with
    | bl b =>
      cases b with
      | false => exact ⟨false, hv.bl_eq, (if_neg Bool.false_ne_true).mpr ⟨M, A, L, δ, k, e, f.step s1 m1, hk, a.step s1 m1, ax.step s1 m1⟩⟩
      | true => exact ⟨true, hv.bl_eq, (if_pos rfl).mpr (a _ _ _ s1 m1 (.bl _) hk)⟩
    | _ => exact hk.elim, ax⟩
theorem xOne {op : BoolOp} (ha : PE X x (tP S E wa)) : PE X (.BoolOp op [x] pos) (tP S E wa) := pe_one ha
theorem xNot (ha : PE X x (tP S E wa)) : PE X (.UnaryOp .Not x pos) (tP S E (wNotV wa)) := peTo (pe_not ha) fun σ H Q ⟨M, A, L, δ, k, e, f, hw, a, ax⟩ =>
  ⟨M, A, L, δ, _, e, f, hw, fun v d H1 s1 m1 hv hk => by
    cases d with
    | bl b => exact ⟨b, hv.bl_eq, a _ _ _ s1 m1 (.bl _) hk⟩
    | _ => exact hk.elim, ax⟩
theorem xIf (hc : PT X z (tPT S E wt)) (ha : PE X x (tP S E wa)) (hb : PE X y (tP S E wb)) : PE X (.IfExp z x y pos) (tP S E (wIf wt wa wb)) := peTo (pe_ifExp hc ha hb) fun σ H Q ⟨M, A, L, δ, k, e, f, hw, a, ax⟩ =>
  ⟨M, A, L, δ, _, e, f, hw, fun b H1 s1 m1 hk => by
    cases b with
    | true => exact ⟨M, A, L, δ, k, e, f.step s1 m1, hk, a.step s1 m1, ax.step s1 m1⟩
    | false => exact ⟨M, A, L, δ, k, e, f.step s1 m1, hk, a.step s1 m1, ax.step s1 m1⟩, ax⟩
theorem chT {r r' : R2} {g g' : Dt → Dt → (Dt → Prop) → Prop} (hp : OpP S r g) (hp' : OpP S r' g') : ∀ σ H Q, tP S E (wCh g g' wa wb wc) σ H Q → tChain r r' (tPW S E wa) (tPW S E wb) (tPW S E wc) σ H Q := fun σ H Q ⟨M, A, L, δ, k, e, f, hw, a, ax⟩ =>
  ⟨M, A, L, δ, _, e, f, hw, fun x dx H1 s1 m1 hx hk => ⟨M, A, L, δ, _, e, f.step s1 m1, hk, fun y dy H2 s2 m2 hy hk2 =>
    hp M L A H2 x y dx dy _ _ (held_stp s2 m2 (held_stp s1 m1 f.hd)) m2 f.dis (hx.step s2 f.mA f.dis) hy hk2 fun z dz H3 s3 m3 hz hk3 => by
      have s13 := (s1.trans m1 s2).trans m2 s3
      cases dz with
      | bl b =>
        cases b with
        | true => exact ⟨true, hz.bl_eq, (if_pos rfl).mpr ⟨M, A, L, δ, _, e, f.step s13 m3, hk3, fun u du H4 s4 m4 hu hk4 =>
            hp' M L A H4 y u dy du k Q (held_stp (s13.trans m3 s4) m4 f.hd) m4 f.dis ((hy.step s3 f.mA f.dis).step s4 f.mA f.dis) hu hk4 (a.step (s13.trans m3 s4) m4), ax.step s13 m3⟩⟩
        | false => exact ⟨false, hz.bl_eq, (if_neg Bool.false_ne_true).mpr (a _ _ _ s13 m3 (.bl _) hk3)⟩
      | _ => exact hk3.elim, ax.step s1 m1⟩, ax⟩
theorem xCh {op op' : CmpOp} {r r' : R2} {g g' : Dt → Dt → (Dt → Prop) → Prop} (ho : OpR X (compareOp op) r) (ho' : OpR X (compareOp op') r') (hp : OpP S r g) (hp' : OpP S r' g') (ha : PE X x (tPW S E wa)) (hb : PE X y (tPW S E wb)) (hc : PE X z (tPW S E wc))
    (hm : lastMarks [op, op'] [y, z] = false := by with_unfolding_all rfl) : PE X (.Compare x [op, op'] [y, z] pos) (tP S E (wCh g g' wa wb wc)) := peTo (pe_chain ho ho' ha hb hc hm) (chT hp hp')
end
/-! ### arguments, tuples, lists, calls -/
def wNil : WA := fun _ k _ => k []
def wCons (wa : WE) (wr : WA) : WA := fun δ k e => wa δ (fun x => wr δ (fun xs => k (x :: xs)) e) e
def wStar (wa : WE) (wr : WA) : WA := fun δ k e => wa δ (fun x => match x with | .tup l => wr δ (fun xs => k (l ++ xs)) e | .lst l => wr δ (fun xs => k (l ++ xs)) e | _ => False) e
/-- a tuple, a list of these -/
def wTup (wa : WA) : WE := fun δ k e => wa δ (fun xs => xs.length ≤ sizeLine ∧ k (.tup xs)) e
def wLst (wa : WA) : WE := fun δ k e => wa δ (fun xs => xs.length ≤ sizeLine ∧ k (.lst xs)) e
/-- what a def's promise says in plain values -/
abbrev SpF := List Dt → (Dt → Prop) → (Er → Prop) → Prop
def spW (S : Su) (n : Nat) (w : SpF) : Sp := fun vs H Q E => ∃ (M : Mu) (A : List Addr) (ds : List Dt) (k : Dt → Prop) (e : Er → Prop), vs.length = n ∧ Hd A H ∧ (∀ x ∈ M, x.1 ∈ A) ∧ MOk S M H ∧ Das S M (hv A H) vs ds ∧ w ds k e ∧
  (∀ v d H', Stp M [] H [] H' → MOk S M H' → Da S M (hv A H') v d → k d → Q v H') ∧ AftX S M A H e E
def wCall (n : Nat) (f : SpF) (wa : WA) : WE := fun δ k e => wa δ (fun xs => xs.length = n ∧ f xs k e) e
section
variable {X : Cx} {S : Su} {E : XK} {wa wb : WE} {ws : WA} {x y : Expr} {xs : List Expr} {pos : Pos}
theorem xANil : PA X [] (tPA S E wNil) := paTo pa_nil fun σ H Q ⟨M, A, L, δ, k, e, f, hw, a, ax⟩ => a _ _ _ .refl f.mu .nil hw
theorem xACons (ha : PE X x (tP S E wa)) (hr : PA X xs (tPA S E ws)) (hs : starEach (x :: xs) X.env = (false, eval x X.env) :: starEach xs X.env := by rfl) : PA X (x :: xs) (tPA S E (wCons wa ws)) := paTo (pa_cons ha hr hs) fun σ H Q ⟨M, A, L, δ, k, e, f, hw, a, ax⟩ =>
  ⟨M, A, L, δ, _, e, f, hw, fun v d H1 s1 m1 hv hk => ⟨M, A, L, δ, _, e, f.step s1 m1, hk, fun vs ds H2 s2 m2 hvs hk2 =>
    a _ _ _ (s1.trans m1 s2) m2 (.cons (hv.same ((Stp.wide s2).hv f.mA)) hvs) hk2, ax.step s1 m1⟩, ax⟩
theorem xAStar {p : Pos} (ha : PE X x (tPW S E wa)) (hr : PA X xs (tPA S E ws)) (hs : starEach (.Starred x p :: xs) X.env = (true, eval x X.env) :: starEach xs X.env := by rfl) (hK : X.K = S.K := by rfl) : PA X (.Starred x p :: xs) (tPA S E (wStar wa ws)) := paTo (StX.pa_star ha hr hs) fun σ H Q ⟨M, A, L, δ, k, e, f, hw, a, ax⟩ =>
  ⟨M, A, L, δ, _, e, f, hw, fun v d H1 s1 m1 hv hk => by
    rw [hK]
    cases d with
    | tup l =>
      obtain ⟨q, vs, rfl, sq, all⟩ := hv.tuple
      exact ⟨q, vs, rfl, .inl sq, M, A, L, δ, _, e, f.step s1 m1, hk, fun us ds H2 s2 m2 hvs hk2 => a _ _ _ (s1.trans m1 s2) m2 ((all.same ((Stp.wide s2).hv f.mA)).app hvs) hk2, ax.step s1 m1⟩
    | lst l =>
      obtain ⟨q, vs, rfl, sq, all⟩ := hv.list
      exact ⟨q, vs, rfl, .inr (.inl (.inl sq)), M, A, L, δ, _, e, f.step s1 m1, hk, fun us ds H2 s2 m2 hvs hk2 => a _ _ _ (s1.trans m1 s2) m2 ((all.same ((Stp.wide s2).hv f.mA)).app hvs) hk2, ax.step s1 m1⟩
    | _ => exact hk.elim, ax⟩
theorem xWNil : PA X [] (tPAW S E wNil) := paTo pa_nil fun σ H Q ⟨M, A, L, δ, k, e, f, hw, a, ax⟩ => a _ _ _ .refl f.mu .nil hw
theorem xWCons (ha : PE X x (tPW S E wa)) (hr : PA X xs (tPAW S E ws)) (hs : starEach (x :: xs) X.env = (false, eval x X.env) :: starEach xs X.env := by rfl) : PA X (x :: xs) (tPAW S E (wCons wa ws)) := paTo (pa_cons ha hr hs) fun σ H Q ⟨M, A, L, δ, k, e, f, hw, a, ax⟩ =>
  ⟨M, A, L, δ, _, e, f, hw, fun v d H1 s1 m1 hv hk => ⟨M, A, L, δ, _, e, f.step s1 m1, hk, fun vs ds H2 s2 m2 hvs hk2 =>
    a _ _ _ (s1.trans m1 s2) m2 (.cons (hv.step s2 f.mA f.dis) hvs) hk2, ax.step s1 m1⟩, ax⟩
theorem das_new {M : Mu} {B : List Addr} {H : Hp} {vs : List V} {ds : List Dt} {p : Addr} {o : HO} (n : H p = none) (h : Das S M (hv B H) vs ds) : Das S M (hv B (upd H p o)) vs ds := h.same (Go.hv (Go.of (same_new n)))
theorem xTup {x1} (h : PA X xs (tPA S E ws)) : PE X (.Tuple xs x1 pos) (tP S E (wTup ws)) := peTo (pe_tup h) fun σ H Q ⟨M, A, L, δ, k, e, f, hw, a, ax⟩ =>
  ⟨M, A, L, δ, _, e, f, hw, fun vs ds H1 s1 m1 hv hk => ⟨by rw [hv.len]; exact hk.1, fun p np => a _ _ _ (s1.trans m1 (.of (same_new np))) (m1.same (same_new np))
    (.tup' (.inl (.inl (by rw [hv_out fun z => held_stp s1 m1 f.hd p z np]; exact upd_same))) (das_new np hv)) hk.2⟩, ax⟩
theorem xLst (h : PA X xs (tPA S E ws)) : PE X (.List xs pos) (tPF S E (wLst ws)) := peTo (pe_lst h) fun σ H Q ⟨M, A, L, δ, k, e, f, hw, a, ax⟩ =>
  ⟨M, A, L, δ, _, e, f, hw, fun vs ds H1 s1 m1 hv hk => ⟨by rw [hv.len]; exact hk.1, fun p np => a p vs ds _ (stp_free s1 m1 np) (s1.trans m1 (.of (same_new np))) (m1.same (same_new np)) upd_same
    ((hv.same (hv_more np)).same (Go.hv (Go.of (same_new np)))) hk.2⟩, ax⟩
theorem calBT {r : List V → Hp → VK → Prop} {g : List Dt → (Dt → Prop) → Prop} (hp : CallP S r g) : ∀ σ H Q, tP S E (wCal g ws) σ H Q → tCB r (tPAW S E ws) σ H Q := fun σ H Q ⟨M, A, L, δ, k, e, f, hw, a, ax⟩ =>
  ⟨M, A, L, δ, _, e, f, hw, fun vs ds H1 s1 m1 hv hk => hp M L A H1 vs ds k Q (held_stp s1 m1 f.hd) m1 f.dis hv hk (a.step s1 m1), ax⟩
end
end LW
set_option Elab.async false
set_option linter.all false
set_option maxRecDepth 100000
set_option maxHeartbeats 4000100
/-! sum(t) and min(t) of a tuple of ints -/
set_option Elab.async false
set_option linter.all false
set_option maxRecDepth 100000
set_option maxHeartbeats 4000100
/-! repr of data in which empty dicts may stand at any place -/
namespace LW
open L2 PySem.Spec PyProof.Rows PySem
/-- v is the data d, and nothing of it stands where sys.modules does -/
inductive DO (K : PySem.W.Frag) (H : Hp) : V → PyData → Prop
  | non : DO K H .non .none
  | bl (b : Bool) : DO K H (.bl b) (.bool b)
  | int (i : Int) : DO K H (.int i) (.int i)
  | str (x : Str) : DO K H (.str x) (.str x)
  | lst {a : Addr} {xs : List V} {ds : List PyData} (h : SqL K H a xs) (ne : a ≠ sysModules) (len : xs.length = ds.length) (all : ∀ (i : Nat) (v : V) (d : PyData), xs[i]? = some v → ds[i]? = some d → DO K H v d) : DO K H (.ref a) (.list ds)
  | tup {a : Addr} {xs : List V} {ds : List PyData} (h : SqT K H a xs) (ne : a ≠ sysModules) (len : xs.length = ds.length) (all : ∀ (i : Nat) (v : V) (d : PyData), xs[i]? = some v → ds[i]? = some d → DO K H v d) : DO K H (.ref a) (.tuple ds)
  | dct {a : Addr} (h : H a = some (.dK [])) (ne : a ≠ sysModules) : DO K H (.ref a) (.dict [])
section
variable {K : PySem.W.Frag} {H H' : Hp} {v : V} {d : PyData}
theorem DO.same (s : Same H H') (h : DO K H v d) : DO K H' v d := by
  induction h with
  | non => exact .non
  | bl b => exact .bl b
  | int i => exact .int i
  | str x => exact .str x
  | lst h ne len _ ih => exact .lst (s.seq h) ne len ih
  | tup h ne len _ ih => exact .tup (seqT_same s h) ne len ih
  | dct h ne => exact .dct (s _ _ h) ne
structure DOs (K : PySem.W.Frag) (H : Hp) (xs : List V) (ds : List PyData) : Prop where
  len : xs.length = ds.length
  all : ∀ (i : Nat) (v : V) (d : PyData), xs[i]? = some v → ds[i]? = some d → DO K H v d
theorem DOs.nil : DOs K H [] [] := ⟨rfl, fun i v d h => by simp at h⟩
theorem DOs.cons {xs : List V} {ds : List PyData} (h : DO K H v d) (t : DOs K H xs ds) : DOs K H (v :: xs) (d :: ds) := by
  refine ⟨by simp [t.len], fun i u e h1 h2 => ?_⟩
  cases i with
  | zero => cases h1; cases h2; exact h
  | succ i => exact t.all i u e h1 h2
theorem DOs.same {xs : List V} {ds : List PyData} (s : Same H H') (t : DOs K H xs ds) : DOs K H' xs ds := ⟨t.len, fun i v d h1 h2 => (t.all i v d h1 h2).same s⟩
theorem DO.list {a : Addr} {xs : List V} {ds : List PyData} (h : SqL K H a xs) (ne : a ≠ sysModules) (t : DOs K H xs ds) : DO K H (.ref a) (.list ds) := .lst h ne t.len t.all
end
section
variable {X : Cx} {pins : List (Addr × Obj)} {σ :
      L2.St} {H : Hp} {s : Shared}
theorem DO.reads (I : Inv X pins σ H s) {v : V} {d : PyData} (h : DO X.K H v d) : ∀ u, RelV v u → ∃ as, Reads s.heap u d as ∧ sysModules ∉ as := by
  have app : ∀ a b : List Addr, sysModules ∉ a → sysModules ∉ b → sysModules ∉ a ++ b := fun a b h1 h2 z => (List.mem_append.mp z).elim h1 h2
  have own : ∀ (a : Addr) (as : List Addr), a ≠ sysModules → sysModules ∉ as → sysModules ∉ a :: as := fun a as h1 h2 z => (List.mem_cons.mp z).elim (fun e => h1 e.symm) h2
  induction h with
  | non => intro u r; cases r; exact ⟨_, .none, by simp⟩
  | bl b => intro u r; cases r; exact ⟨_, .bool b, by simp⟩
  | int i => intro u r; obtain ⟨t, rfl⟩ := r; exact ⟨_, .int i t, by simp⟩
  | str x => intro u r; obtain ⟨t, rfl⟩ := r; exact ⟨_, .str x t, by simp⟩
  | lst h ne len all ih =>
    intro u r
    cases r
    obtain ⟨its, rv, ⟨o, n, ho, hc, _, hd⟩, _⟩ := I.list h
    obtain ⟨as, hr, off⟩ := readsAll_of (P := fun as => sysModules ∉ as) (h := s.heap) (us := its) (by simp) app (by rw [← rv.length, len]) fun i u d h1 h2 => by
      obtain ⟨x, e, rx⟩ := vals_get' rv h1
      exact ih i x d e h2 u rx
    exact ⟨_, .list ho hc hd hr, own _ _ ne off⟩
  | tup h ne len all ih =>
    intro u r
    cases r
    obtain ⟨its, rv, ⟨o, ho, hc, n, hd⟩, _⟩ := I.tuple h
    obtain ⟨as, hr, off⟩ := readsAll_of (P := fun as => sysModules ∉ as) (h := s.heap) (us := its) (by simp) app (by rw [← rv.length, len]) fun i u d h1 h2 => by
      obtain ⟨x, e, rx⟩ := vals_get' rv h1
      exact ih i x d e h2 u rx
    exact ⟨_, .tuple ho hc hd hr, off⟩
  | dct h ne =>
    intro u r
    cases r
    obtain ⟨_, _, vs, kv, o, es, ep, ho, ⟨hc, _, _⟩, hd, _, prs, _⟩ := I.hok _ _ h
    cases kv
    have e0 : es.toList = [] := by
      cases q : es.toList with
      | nil => rfl
      | cons x r => rw [q] at prs; cases prs
    refine ⟨_, Reads.dict ho hc hd (as := []) (bs := []) ?_ ?_, own _ _ ne (by simp)⟩
    · rw [e0]; exact .nil
    · rw [e0]; exact .nil
end
/-! displays and + : the new address is not that of sys.modules -/
end LW
set_option Elab.async false
set_option linter.all false
set_option maxRecDepth 100000
set_option maxHeartbeats 4000100
/-! the operations on plain data -/
namespace LW
open L2 PySem.Spec PyProof.Rows PySem
/-! ### plain data as the library's data -/
mutual
def toPy : Dt → Option PyData
  | .non => some .none
  | .bl b => some (.bool b)
  | .int i => some (.int i)
  | .str x => some (.str x)
  | .lst l => (toPys l).map PyData.list
  | .tup l => (toPys l).map PyData.tuple
  | .dct => some (.dict [])
  | .ty _ => none
  | .tnk _ => none
  | .obj _ _ => none
  | .fn _ => none
def toPys : List Dt → Option (List PyData)
  | [] => some []
  | d :: ds => match toPy d, toPys ds with
    | some p, some ps => some (p :: ps)
    | _, _ => none
end
theorem toPys_len : ∀ {ds : List Dt} {ps : List PyData}, toPys ds = some ps → ds.length = ps.length
  | [], ps, h => by rw [toPys] at h; cases h; rfl
  | d :: ds, ps, h => by
    rw [toPys] at h
    cases e : toPy d with
    | none => rw [e]
          at h; cases h
    | some p =>
      cases e2 : toPys ds with
      | none => rw [e, e2] at h; cases h
      | some qs =>
        rw [e, e2] at h
        cases h
        rw [List.length_cons, List.length_cons, toPys_len e2]
theorem toPys_get : ∀ {ds : List Dt} {ps : List PyData}, toPys ds = some ps → ∀ (i : Nat) (d : Dt) (p : PyData), ds[i]? = some d → ps[i]? = some p → toPy d = some p
  | [], ps, h, i, d, p, h1, _ => by simp at h1
  | d :: ds, ps, h, i, e, p, h1, h2 => by
    rw [toPys] at h
    cases e1 : toPy d with
    | none => rw [e1] at h; cases h
    | some q =>
      cases e2 : toPys ds with
      | none => rw [e1, e2] at h; cases h
      | some qs =>
        rw [e1, e2] at h
        cases h
        cases i with
        | zero => cases h1; cases h2; exact e1
        | succ i => exact toPys_get e2 i e p h1 h2
section
variable {S : Su} {M : Mu} {L A : List Addr} {H : Hp} {v : V} {d : Dt} {p : PyData}
theorem Da.toD (h : Da S M H v d) : ∀ p, toPy d = some p → D S.K H v p := by
  induction h with
  | non => intro p e; rw [toPy] at e; cases e; exact .non
  | bl b => intro p e; rw [toPy] at e; cases e; exact .bl b
  | int i => intro p e; rw [toPy] at e; cases e; exact .int i
  | str x => intro p e; rw [toPy] at e; cases e; exact .str x
  | @lst a xs ds h len all ih =>
    intro p e
    rw [toPy] at e
    cases q : toPys ds with
    | none => rw [q]
          at e; cases e
    | some ps =>
      rw [q] at e
      cases e
      refine .lst (.inl (.inl h)) (by rw [len, toPys_len q]) fun i v pd h1 h2 => ?_
      have hi : i < ds.length := by rw [← len]; exact (List.getElem?_eq_some_iff.mp h1).1
      exact ih i v _ h1 (List.getElem?_eq_getElem hi) pd (toPys_get q i _ _ (List.getElem?_eq_getElem hi) h2)
  | @tup a xs ds h len all ih =>
    intro p e
    rw [toPy] at e
    cases q : toPys ds with
    | none => rw [q]
          at e; cases e
    | some ps =>
      rw [q] at e
      cases e
      refine .tup h (by rw [len, toPys_len q]) fun i v pd h1 h2 => ?_
      have hi : i < ds.length := by rw [← len]; exact (List.getElem?_eq_some_iff.mp h1).1
      exact ih i v _ h1 (List.getElem?_eq_getElem hi) pd (toPys_get q i _ _ (List.getElem?_eq_getElem hi) h2)
  | dct h ne => intro p e; rw [toPy] at e; cases e; exact .dct h ne
  | ty n => intro p e; rw [toPy] at e; cases e
  | tnk h => intro p e; rw [toPy] at e; cases e
  | obj h => intro p e; rw [toPy] at e; cases e
  | fn h r => intro p e; rw [toPy] at e; cases e
theorem Dw.toD (h : Dw S M L A H v d) (e : toPy d = some p) : D S.K H v p := by
  rcases h with h | ⟨q, vs, ds, rfl, rfl, pL, e1, h⟩
  · exact D.same hv_le (h.toD p e)
  · have h2 : Da S M H (.ref q) (.lst ds) := .lst' e1 (h.same hv_le)
    exact h2.toD p e
/-- data as plain data -/
theorem Da.of (h : D S.K H v p) (raw : ∀ a xs, SqL S.K H a xs → H a = some (.lst xs)) : ∀ d, toPy d = some p → Da S M H v d := by
  induction h with
  | non => intro d e; cases d <;> simp [toPy] at e <;> exact .non
  | bl b => intro d e; cases d <;> simp [toPy] at e; subst e; exact .bl _
  | int b => intro d e; cases d <;> simp [toPy] at e; subst e; exact .int _
  | str b => intro d e; cases d <;> simp [toPy] at e; subst e; exact .str _
  | @lst a xs ds h len all ih =>
    intro d e
    cases d <;> simp only [toPy, Option.map_eq_some_iff, Option.some.injEq, PyData.list.injEq, PyData.tuple.injEq, reduceCtorEq, and_false, exists_false, exists_eq_right] at e
    refine .lst (raw a xs h) (by rw [len, toPys_len e]) fun i v dt h1 h2 => ?_
    have hi : i < ds.length := by rw [← len]; exact (List.getElem?_eq_some_iff.mp h1).1
    exact ih i v _ h1 (List.getElem?_eq_getElem hi) dt (toPys_get e i _ _ h2 (List.getElem?_eq_getElem hi))
  | @tup a xs ds h len all ih =>
    intro d e
    cases d <;> simp only [toPy, Option.map_eq_some_iff, Option.some.injEq, PyData.list.injEq, PyData.tuple.injEq, reduceCtorEq, and_false, exists_false, exists_eq_right] at e
    refine .tup h (by rw [len, toPys_len e]) fun i v dt h1 h2 => ?_
    have hi : i < ds.length := by rw [← len]; exact (List.getElem?_eq_some_iff.mp h1).1
    exact ih i v _ h1 (List.getElem?_eq_getElem hi) dt (toPys_get e i _ _ h2 (List.getElem?_eq_getElem hi))
  | dct h ne => intro d e; cases d <;> simp [toPy] at e; exact .dct h ne
end
/-! ### what the operations give -/
def gAdd : Dt → Dt → (Dt → Prop) → Prop
  | .int i, .int j, k => k (.int (i + j))
  | .str a, .str b, k => a.length + b.length ≤ sizeLine ∧ k (.str (a ++ b))
  | .lst a, .lst b, k => a.length + b.length ≤ sizeLine ∧ k (.lst (a ++ b))
  | .tup a, .tup b, k => a.length + b.length ≤ sizeLine ∧ k (.tup (a ++ b))
  | _, _, _ => False
/-- only lists -/
def gCat : Dt → Dt → (Dt → Prop) → Prop
  | .lst a, .lst b, k => a.length + b.length ≤ sizeLine ∧ k (.lst (a ++ b))
  | _, _, _ => False
def gInt (f : Int → Int → Int) (c : Int → Int → Prop) : Dt → Dt → (Dt → Prop) → Prop
  | .int i, .int j, k => c i j ∧ k (.int (f i j))
  | _, _, _ => False
def gSub : Dt → Dt → (Dt → Prop) → Prop
  | .int i, .int j, k => k (.int (i - j))
  | _, _, _ => False
def gMul : Dt → Dt → (Dt → Prop) → Prop
  | .int i, .int j, k => CMulW i j ∧ k (.int (i * j))
  | .lst a, .int n, k => a.length ≤ 1000 ∧ -1000 ≤ n ∧ n ≤ 1000 ∧ k (.lst (List.replicate n.toNat a).flatten)
  | .tup a, .int n, k => a ≠ [] ∧ a.length ≤ 1000 ∧ 2 ≤ n ∧ n ≤ 1000 ∧ k (.tup (List.replicate n.toNat a).flatten)
  | _, _, _ => False
def gFdiv : Dt → Dt → (Dt → Prop) → Prop := gInt (fun i j => i / j) CDivW
def gMod : Dt → Dt → (Dt → Prop) → Prop := gInt (fun i j => i % j) fun _ j => 0 < j
def gPow : Dt → Dt → (Dt → Prop) → Prop := gInt (fun i j => i ^ j.toNat) CPow
def gCmp (f : Int → Int → Bool) : Dt → Dt → (Dt → Prop) → Prop
  | .int i, .int j, k => k (.bl (f i j))
  | _, _, _ => False
def gLt : Dt → Dt → (Dt → Prop) → Prop := gCmp fun i j => decide (i < j)
def gLe : Dt → Dt → (Dt → Prop) → Prop := gCmp fun i j => decide (i ≤ j)
def gGt : Dt → Dt → (Dt → Prop) → Prop := gCmp fun i j => decide (j < i)
def gGe : Dt → Dt → (Dt → Prop) → Prop := gCmp fun i j => decide (j ≤ i)
/-- == of data -/
def EqOk (x y : Dt) (b : Bool) : Prop := ∃ p q, toPy x = some p ∧ toPy y = some q ∧ SeqAt.shaped p = true ∧ SeqAt.shaped q = true ∧ PyData.eqv p q = b
def gEq (x y : Dt) (k : Dt → Prop) : Prop := ∃ b, EqOk x y b ∧ k (.bl b)
def gNe (x y : Dt) (k : Dt → Prop) : Prop := ∃ b, EqOk x y b ∧ k (.bl (!b))
def gIsN : Dt → Dt → (Dt → Prop) → Prop
  | .non, .non, k => k (.bl true)
  | .tnk _, _, _ => False
  | .fn _, _, _ => False
  | _, .non, k => k (.bl false)
  | _, _, _ => False
def gNotN : Dt → Dt → (Dt → Prop) → Prop := fun x y k => gIsN x y fun z => match z with | .bl b => k (.bl (!b)) | _ => False
/-- the place that an index means -/
def atD {α : Type} (l : List α) (i : Int) : Option α := if 0 ≤ i then l[i.toNat]? else if -(l.length : Int) ≤ i then l[(i + l.length).toNat]? else none
theorem atD_atI {α : Type} (l : List α) (i : Int) : atD l i = atI l i := by
  unfold atD atI ixN
  by_cases h : 0 ≤ i
  · rw [if_pos h, if_pos h]
    by_cases h2 : i < l.length
    · rw [if_pos h2]; rfl
    · rw [if_neg h2]
      simp only [Option.bind_none]
      exact List.getElem?_eq_none_iff.mpr
            (by omega)
  · rw [if_neg h, if_neg h]
    by_cases h2 : -(l.length : Int) ≤ i
    · rw [if_pos h2, if_pos h2]; rfl
    · rw [if_neg h2, if_neg h2]; rfl
def gIx : Dt → Dt → (Dt → Prop) → Prop
  | .lst l, .int i, k => ∃ d, atD l i = some d ∧ k d
  | .tup l, .int i, k => ∃ d, atD l i = some d ∧ k d
  | .str x, .int i, k => x.length ≤ sizeLine ∧ ∃ c, atD x.cps.toList i = some c ∧ k (.str ⟨#[c]⟩)
  | _, _, _ => False
section
variable {S : Su}
theorem get_das {M : Mu} {H : Hp} {vs : List V} {ds : List Dt} {i : Int} {d : Dt} (h : Das S M H vs ds) (e : atD ds i = some d) : ∃ v, atI vs i = some v ∧ Da S M H v d := by
  rw [← atD_atI]
  unfold atD at e ⊢
  rw [h.len]
  split at e
  · rename_i h0
    rw [if_pos h0]
    exact h.get e
  · rename_i h0
    rw [if_neg h0]
    split at e
    · rename_i h1
      rw [if_pos h1]
      exact h.get e
    · cases e
def rAddU (K : PySem.W.Frag) : R2 := fun x y H Q => rI0 (fun i j => .int (i + j)) x y H Q ∨ rAddS x y H Q ∨ rCat x y H Q ∨ rCatA K x y H Q
theorem op_addU {X : Cx} : OpR X (binaryOp .Add) (rAddU X.K) := by
  intro pins s σ H x y v u
        Q I r1 r2 h
  rcases h with h | h | h | h
  · exact op_add pins s σ H x y v u Q I r1 r2 h
  · exact op_add_str pins s σ H x y v u Q I r1 r2 h
  · exact op_cat pins s σ H x y v u Q I r1 r2 h
  · exact op_catA pins s σ H x y v u Q I r1 r2 h
theorem pAdd : OpP S (rAddU S.K) gAdd := by
  intro M L A H x y dx dy k Q hd m dis hx hy g a
  unfold gAdd at g
  split at g
  · exact .inl ⟨_, _, hx.int_eq, hy.int_eq, a _ _ _ .refl m (.int _) g⟩
  · exact .inr (.inl ⟨_, _, hx.str_eq, hy.str_eq, g.1, a _ _ _ .refl m (.str _) g.2⟩)
  · obtain ⟨p, vs, rfl, e1, q1⟩ := hx.list
    obtain ⟨p2, ws, rfl, e2, q2⟩ := hy.list
    refine .inr (.inr (.inl ⟨p, p2, vs, ws, rfl, rfl, e1, e2, by rw [q1.len, q2.len]; exact g.1, fun r nr => a _ _ _ (.of (same_new nr)) (m.same (same_new nr)) ?_ g.2⟩))
    exact .lst' (by rw [hv_out fun z => hd r z nr]; exact upd_same) (das_new nr (q1.app q2))
  · obtain ⟨p, vs, rfl, e1, q1⟩ := hx.tuple
    obtain ⟨p2, ws, rfl, e2, q2⟩ := hy.tuple
    have sx := hx.strong (fun l z => by cases z)
    have sy := hy.strong (fun l z => by cases z)
    refine .inr (.inr (.inr ⟨p, p2, vs, ws, rfl, rfl, e1, e2, by rw [q1.len, q2.len]; exact g.1, fun z => ?_, fun z1 z2 => ?_, fun _ _ r nr => a _ _ _ (.of (same_new nr)) (m.same (same_new nr)) ?_ g.2⟩))
    · have z : _ = ([] : List Dt) := List.length_eq_zero_iff.mp (by rw [← q1.len, z]; rfl)
      refine a _ _ _ .refl m sy ?_
      have g2 := g.2
      rw [z, List.nil_append] at g2
      exact g2
    · have z : _ = ([] : List Dt) := List.length_eq_zero_iff.mp (by rw [← q2.len, z2]; rfl)
      refine a _ _ _ .refl m sx ?_
      have g2 := g.2
      rw [z, List.append_nil] at g2
      exact g2
    · exact .tup' (.inl (.inl (by rw [hv_out fun z => hd r z nr]; exact upd_same))) (das_new nr (q1.app q2))
  · exact g.elim
theorem fCat : OpF S rCat gCat := by
  intro M L A H x y dx dy k Q hd m dis hx hy g a
  unfold gCat at g
  split at g
  · obtain ⟨p, vs, rfl, e1, q1⟩ := hx.list
    obtain ⟨p2, ws, rfl, e2, q2⟩ := hy.list
    exact ⟨p, p2, vs, ws, rfl, rfl, e1, e2, by rw [q1.len, q2.len]; exact g.1, fun r nr => a r _ _ _ nr (.of (same_new nr)) (m.same (same_new nr)) upd_same
      (((q1.app q2).same (hv_more nr)).same (Go.hv (Go.of (same_new nr)))) g.2⟩
  · exact g.elim
theorem pI0 {f : Int → Int → V} {g : Dt → Dt → (Dt → Prop) → Prop} (h : ∀ x y k, g x y k → ∃ i j d, x = .int i ∧ y = .int j ∧ k d ∧ ∀ M H, Da S M H (f i j) d) : OpP S (rI0 f) g := by
  intro M L A H x y dx dy k Q hd m dis hx hy gg a
  obtain ⟨i, j, d, rfl, rfl, hk, hf⟩ := h _ _ _ gg
  exact ⟨i, j, hx.int_eq, hy.int_eq, a _ _ _ .refl m (hf _ _) hk⟩
theorem pSub : OpP S (rI0 fun i j => .int (i - j)) gSub := pI0 fun x y k h => by
  unfold gSub at h
  split at h
  · exact ⟨_, _, _, rfl, rfl, h, fun _ _ => .int _⟩
  · exact h.elim
theorem pCmp {f : Int → Int → Bool} : OpP S (rI0 fun i j => .bl (f i j)) (gCmp f) := pI0 fun x y k h => by
  unfold gCmp at h
  split at h
  · exact ⟨_, _, _, rfl, rfl, h, fun _ _ => .bl _⟩
  · exact h.elim
theorem pLt : OpP S (rI0 fun i j => .bl (decide (i < j))) gLt := pCmp
theorem pLe : OpP S (rI0 fun i j => .bl (decide (i ≤ j))) gLe := pCmp
theorem pGt : OpP S (rI0 fun i j => .bl (decide (j < i))) gGt := pCmp
theorem pGe : OpP S (rI0 fun i j => .bl (decide (j ≤ i))) gGe := pCmp
theorem pInt {f : Int → Int → Int} {c : Int → Int → Prop} : OpP S (rI c fun i j => .int (f i j)) (gInt f c) := by
  intro M L A H x y dx dy k Q hd m dis hx hy g a
  unfold gInt at g
  split at g
  · exact ⟨_, _, hx.int_eq, hy.int_eq, g.1, a _ _ _ .refl m (.int _) g.2⟩
  · exact g.elim
theorem pFdiv : OpP S (rI CDivW fun i j => .int (i / j)) gFdiv := pInt
theorem pPow : OpP S (rI CPow fun i j => .int (i ^ j.toNat)) gPow := pInt
def rMulU (K : PySem.W.Frag) : R2 := fun x y H Q => rI CMulW (fun i j => .int (i * j)) x y H Q ∨ rRep x y H Q ∨ rRepT K x y H Q
theorem op_mulU {X : Cx} : OpR X (binaryOp .Mult) (rMulU X.K) := by
  intro pins s σ H x y v u
        Q I r1 r2 h
  rcases h with h | h | h
  · exact op_mulW pins s σ H x y v u Q I r1 r2 h
  · exact op_rep pins s σ H x y v u Q I r1 r2 h
  · exact op_repT pins s σ H x y v u Q I r1 r2 h
theorem das_rep {M : Mu} {H : Hp} {vs : List V} {ds : List Dt} (h : Das S M H vs ds) : ∀ n : Nat, Das S M H (List.replicate n vs).flatten (List.replicate n ds).flatten
  | 0 => .nil
  | n + 1 => by
    rw [List.replicate_succ, List.replicate_succ, List.flatten_cons,
          List.flatten_cons]
    exact h.app (das_rep h n)
theorem pMul : OpP S (rMulU S.K) gMul := by
  intro M L A H x y dx dy k Q hd m dis hx hy g a
  unfold gMul at g
  split at g
  · exact .inl ⟨_, _, hx.int_eq, hy.int_eq, g.1, a _ _ _ .refl m (.int _) g.2⟩
  · obtain ⟨p, vs, rfl, e1, q1⟩ := hx.list
    obtain ⟨g1, g0, g2, g3⟩ := g
    refine .inr (.inl ⟨p, _, vs, rfl, hy.int_eq, e1, by omega, by omega, ?_, fun r nr => a _ _ _ (.of (same_new nr)) (m.same (same_new nr)) ?_ g3⟩)
    · rw [q1.len, sizeLine_eq]
      exact Nat.le_trans (Nat.mul_le_mul g1 (show _ ≤ 1000 by omega)) (by decide)
    · exact .lst' (by rw [hv_out fun z => hd r z nr]; exact upd_same) (das_new nr (das_rep q1 _))
  · obtain ⟨p, vs, rfl, e1, q1⟩ := hx.tuple
    obtain ⟨g0, g1, g2, g3, g4⟩ := g
    refine .inr (.inr ⟨p, _, vs, rfl, hy.int_eq, e1, ?_, g2, g3, by rw [q1.len]; exact g1, fun r nr => a _ _ _ (.of (same_new nr)) (m.same (same_new nr)) ?_ g4⟩)
    · intro z
      exact g0 (List.length_eq_zero_iff.mp (by rw [← q1.len, z]; rfl))
    · exact .tup' (.inl (.inl (by rw [hv_out fun z => hd r z nr]; exact upd_same))) (das_new nr (das_rep q1 _))
  · exact g.elim
theorem sh_dict {d : PyData} (h : SeqAt.shaped d = true) : d.hasDict = false := PyData.hasDict_of_canLay d (SeqAt.canLay_of_shaped h)
theorem pEq : OpP S (rEqD S.K) gEq := by
  intro M L A H x y dx dy k Q hd m dis hx hy g a
  obtain ⟨b, ⟨p, q, e1, e2, s1, s2, rfl⟩, hk⟩ := g
  exact ⟨p, q, (hx.toD e1).dp (sh_dict s1), (hy.toD e2).dp (sh_dict s2), s1, s2, a _ _ _ .refl m (.bl _) hk⟩
theorem pNe : OpP S (rNeD S.K) gNe := by
  intro M L A H x y dx dy k Q hd m dis hx hy g a
  obtain ⟨b, ⟨p, q, e1, e2, s1, s2, rfl⟩, hk⟩ := g
  exact ⟨p, q, (hx.toD e1).dp (sh_dict s1), (hy.toD e2).dp (sh_dict s2), s1, s2, a _ _ _ .refl m (.bl _) hk⟩
theorem pIx : OpP S (rIx S.K) gIx := by
  intro M L A H x y dx dy k Q hd m dis hx hy g a
  unfold gIx at g
  split at g
  · obtain ⟨p, vs, rfl, e1, q1⟩ := hx.list
    obtain ⟨d, e, hk⟩ := g
    obtain ⟨v, ev, hv⟩ := get_das q1 e
    exact .inl ⟨p, vs, _, v, rfl, hy.int_eq, .inl (.inl e1), ev, a _ _ _ .refl m hv hk⟩
  · obtain ⟨p, vs, rfl, e1, q1⟩ := hx.tuple
    obtain ⟨d, e, hk⟩ := g
    obtain ⟨v, ev, hv⟩ := get_das q1 e
    exact .inr (.inl ⟨p, vs, _, v, rfl, hy.int_eq, e1, ev, a _ _ _ .refl m hv hk⟩)
  · obtain ⟨gl, c, e, hk⟩ := g
    rw [atD_atI] at e
    exact .inr (.inr ⟨_, _, c, hx.str_eq, hy.int_eq, gl, e, a _ _ _ .refl m (.str _) hk⟩)
  · exact g.elim
end
/-! ### in -/
/-! ### slices, -x -/
def gNeg : Dt → (Dt → Prop) → Prop
  | .int i, k => k (.int (-i))
  | _, _ => False
abbrev WO := De → (Option Int → Prop) → (Er → Prop) → Prop
def wNo : WO := fun _ k _ => k none
def wPart (w : WE) : WO := fun δ k e => w δ (fun d => match d with | .int i => k (some i) | _ => False) e
def tPO (S : Su) (E : XK) (w : WO) : TO := fun σ H Q => ∃ M A L δ k e, Fr S M A L σ δ H ∧ w δ k e ∧ (∀ o H', Stp M [] H [] H' → MOk S M H' → k o → Q o H') ∧ AftX S M (L ++ A) H e E
/-- the part of a list from lo to hi -/
def cutL {α : Type} (xs : List α) (lo hi : Option Int) : List α := (xs.drop (HT.sIx xs.length 0 lo)).take (HT.sIx xs.length xs.length hi - HT.sIx xs.length 0 lo)
def gSlL (x : Dt) (lo hi : Option Int) (k : Dt → Prop) : Prop := match x with
  | .lst l => k (.lst (cutL l lo hi))
  | _ => False
def gSl (x : Dt) (lo hi : Option Int) (k : Dt → Prop) : Prop := match x with
  | .lst l => k (.lst (cutL l lo hi))
  | .tup l => ¬ (HT.sIx l.length 0 lo = 0 ∧ HT.sIx l.length l.length hi = l.length) ∧ k (.tup (cutL l lo hi))
  | .str x => x.length ≤ sizeLine ∧ k (.str (Txt.slice x lo hi))
  | _ => False
def wSl (g : Dt → Option Int → Option Int → (Dt → Prop) → Prop) (wx : WE) (wl wh : WO) : WE := fun δ k e => wx δ (fun x => wl δ (fun l => wh δ (fun h => g x l h k) e) e) e
section
variable {X : Cx} {S : Su} {E : XK} {wx wa : WE} {wl wh : WO} {x y : Expr} {pos : Pos}
theorem xNo : PO X none (tPO S E wNo) := ⟨fun pins s σ H Q I ⟨M, A, L, δ, k, e, f, hw, a, ax⟩ => po_none.run pins s σ H Q I (a none H .refl f.mu hw)⟩
theorem xPart (h : PE X x (tP S E wa)) : PO X (some x) (tPO S E (wPart wa)) := ⟨fun pins s σ H Q I ⟨M, A, L, δ, k, e, f, hw, a, ax⟩ => (po_some h).run pins s σ H Q I ⟨M, A, L, δ, _, e, f, hw, fun v d H1 s1 m1 hv hk => by
    cases d with
    | int i => exact ⟨i, hv.int_eq, a _ _ s1 m1 hk⟩
    | _ => exact hk.elim, ax⟩⟩
theorem das_cut {M : Mu} {H : Hp} {vs : List V} {ds : List Dt} {lo hi : Option Int} (h : Das S M H vs ds) : Das S M H (cutV vs lo hi) (cutL ds lo hi) := by
  unfold cutV cutL
  rw [h.len]
  exact (h.drop _).take _
def rSlU (K : PySem.W.Frag) : V → Option Int → Option Int → Hp → VK → Prop := fun x lo hi H Q => rSlL K x lo hi H Q ∨ rSlT K x lo hi H Q ∨ C8.rSlX x lo hi H Q
theorem sl_any : SlR X (rSlU X.K) := by
  intro pins s σ H x v vl vu lo hi sl
        Q I rx hs pl pu h
  rcases h with h | h | h
  · exact sl_list pins s σ H x v vl vu lo hi sl Q I rx hs pl pu h
  · exact sl_tup pins s σ H x v vl vu lo hi sl Q I rx hs pl pu h
  · exact C8.sl_txt pins s σ H x v vl vu lo hi sl Q I rx hs pl pu h
theorem xSl {p2 : Pos} {lo hi : Option Expr} (hx : PE X x (tPW S E wx)) (hl : PO X lo (tPO S E wl)) (hh : PO X hi (tPO S E wh)) (hK : X.K = S.K := by rfl) : PE X (.Subscript x (.Slice lo hi none p2) pos) (tP S E (wSl gSl wx wl wh)) :=
  peTo (pe_slice sl_any hx hl hh) fun σ H Q ⟨M, A, L, δ, k, e, f, hw, a, ax⟩ =>
  ⟨M, A, L, δ, _, e, f, hw, fun v d H1 s1 m1 hv hk => ⟨M, A, L, δ, _, e, f.step s1 m1, hk, fun o1 H2 s2 m2 hk2 => ⟨M, A, L, δ, _, e, f.step (s1.trans m1 s2) m2, hk2, fun o2 H3 s3 m3 hk3 => by
    have s13 := (s1.trans m1 s2).trans m2 s3
    have hd3 := held_stp s13 m3 f.hd
    have hv3 := (hv.step s2 f.mA f.dis).step s3 f.mA f.dis
    rw [hK]
    cases d with
    | lst l =>
      obtain ⟨p, vs, rfl, sq, all⟩ := hv3.list
      exact .inl ⟨p, vs, rfl, .inl (.inl sq), fun r nr => a _ _ _ (s13.trans m3 (.of (same_new nr))) (m3.same (same_new nr)) (.lst' (by rw [hv_out fun z => hd3 r z nr]; exact upd_same) (das_new nr (das_cut all))) hk3⟩
    | tup l =>
      obtain ⟨p, vs, rfl, sq, all⟩ := hv3.tuple
      exact .inr (.inl ⟨p, vs, rfl, sq, by rw [all.len]; exact hk3.1, fun r nr => a _ _ _ (s13.trans m3 (.of (same_new nr))) (m3.same (same_new nr)) (.tup' (.inl (.inl (by rw [hv_out fun z => hd3 r z nr]; exact upd_same))) (das_new nr (das_cut all))) hk3.2⟩)
    | str z => exact .inr (.inr ⟨z, hv3.str_eq, hk3.1, a _ _ _ s13 m3 (.str _) hk3.2⟩)
    | _ => exact hk3.elim, ax.step (s1.trans m1 s2) m2⟩, ax.step s1 m1⟩, ax⟩
theorem xSlF {p2 : Pos} {lo hi : Option Expr} (hx : PE X x (tPW S E wx)) (hl : PO X lo (tPO S E wl)) (hh : PO X hi (tPO S E wh)) (hK : X.K = S.K := by rfl) : PE X (.Subscript x (.Slice lo hi none p2) pos) (tPF S E (wSl gSlL wx wl wh)) :=
  peTo (pe_slice sl_list hx hl hh) fun σ H Q ⟨M, A, L, δ, k, e, f, hw, a, ax⟩ =>
  ⟨M, A, L, δ, _, e, f, hw, fun v d H1 s1 m1 hv hk => ⟨M, A, L, δ, _, e, f.step s1 m1, hk, fun o1 H2 s2 m2 hk2 => ⟨M, A, L, δ, _, e, f.step (s1.trans m1 s2) m2, hk2, fun o2 H3 s3 m3 hk3 => by
    have s13 := (s1.trans m1 s2).trans m2 s3
    have hv3 := (hv.step s2 f.mA f.dis).step s3 f.mA f.dis
    rw [hK]
    cases d with
    | lst l =>
      obtain ⟨p, vs, rfl, sq, all⟩ := hv3.list
      exact ⟨p, vs, rfl, .inl (.inl sq), fun r nr => a r _ _ _ (stp_free s13 m3 nr) (s13.trans m3 (.of (same_new nr))) (m3.same (same_new nr)) upd_same (((das_cut all).same (hv_more nr)).same (Go.hv (Go.of (same_new nr)))) hk3⟩
    | _ => exact hk3.elim, ax.step (s1.trans m1 s2) m2⟩, ax.step s1 m1⟩, ax⟩
theorem xNeg (h : PE X x (tPW S E wa)) : PE X (.UnaryOp .USub x pos) (tP S E (wUn gNeg wa)) := peTo (pe_un un_neg h) fun σ H Q ⟨M, A, L, δ, k, e, f, hw, a, ax⟩ =>
  ⟨M, A, L, δ, _, e, f, hw, fun v d H1 s1 m1 hv hk => by
    cases d with
    | int i => exact ⟨i, hv.int_eq, a _ _ _ s1 m1 (.int _) hk⟩
    | _ => exact hk.elim, ax⟩
end
end LW
set_option Elab.async false
set_option linter.all false
set_option maxRecDepth 100000
set_option maxHeartbeats 4000100
/-! for k, x in enumerate(xs, start=n), xs a list -/
set_option Elab.async false
set_option linter.all false
set_option maxRecDepth 100000
set_option maxHeartbeats 4000100
/-! targets, walks, comprehensions, told of plain data -/
namespace LW
open L2 PySem.Spec PyProof.Rows PySem
/-! ### targets: names and tuples of them -/
abbrev WG := Dt → De → (De → Prop) → Prop
def wgN (i : Nat) : WG := fun d δ k => k (δ.set i (some (.val d)))
abbrev WGs := List Dt → De → (De → Prop) → Prop
def wgNil : WGs := fun l δ k => l = [] ∧ k δ
def wgCons (g : WG) (r : WGs) : WGs := fun l δ k => match l with | d :: ds => g d δ fun δ' => r ds δ' k | [] => False
def wgT (n : Nat) (g : WGs) : WG := fun d δ k => match d with | .tup l => l.length = n ∧ g l δ k | _ => False
/-- only the slots of is may be others now -/
def SlotsBut (is : List Nat) (σ σ' : L2.St) : Prop := σ'.length = σ.length ∧ ∀ j, j ∉ is → σ'[j]? = σ[j]?
def tPG (S : Su) (is : List Nat) (w : WG) : TG := fun v σ H Q => ∃ M A L δ d k, Fr S M A L σ δ H ∧ Da S M (hv (L ++ A) H) v d ∧ w d δ k ∧ ∀ σ' δ', Fr S M A L σ' δ' H → SlotsBut is σ σ' → k δ' → Q σ' H
def tPGs (S : Su) (is : List Nat) (w : WGs) : TGs := fun vs σ H Q => ∃ M A L δ ds k, Fr S M A L σ δ H ∧ Das S M (hv (L ++ A) H) vs ds ∧ w ds δ k ∧ ∀ σ' δ', Fr S M A L σ' δ' H → SlotsBut is σ σ' → k δ' → Q σ' H
theorem pgsTo {X : Cx} {e : List Expr} {t t' : TGs} (h : PGs X e t) (m : ∀ v σ H Q, t' v σ H Q → t v σ H Q) : PGs X e t' := ⟨fun pins s σ H v u Q I r q => h.run pins s σ H v u Q I r (m v σ H Q q)⟩
section
variable {X : Cx} {S : Su} {i n : Nat} {is js : List Nat} {x : Expr} {xs : List Expr} {g : WG} {gs : WGs} {pos : Pos}
theorem SlotsBut.refl {σ : L2.St} : SlotsBut is σ σ := ⟨rfl, fun _ _ => rfl⟩
theorem SlotsBut.trans {σ σ1 σ2 : L2.St} (a : SlotsBut is σ σ1) (b : SlotsBut js σ1 σ2) : SlotsBut (is ++ js) σ σ2 := ⟨b.1.trans a.1, fun j h => (b.2 j fun z => h (List.mem_append_right _ z)).trans (a.2 j fun z => h (List.mem_append_left _ z))⟩
theorem xgN (h : PG X x (gName i)) : PG X x (tPG S [i] (wgN i)) := pgTo h fun v σ H Q ⟨M, A, L, δ, d, k, f, hv, hw, a⟩ =>
  a _ _ (f.set i hv) ⟨by rw [List.length_set], fun j hj => List.getElem?_set_ne fun z => hj (by rw [z]; exact List.mem_singleton.mpr rfl)⟩ hw
theorem xgNil : PGs X [] (tPGs S [] wgNil) := pgsTo pgs_nil fun v σ H Q ⟨M, A, L, δ, ds, k, f, hv, hw, a⟩ => by
  obtain ⟨rfl, hk⟩ := hw
  exact ⟨hv.of_nil, a _ _ f .refl hk⟩
theorem xgCons (h1 : PG X x (tPG S is g)) (h2 : PGs X xs (tPGs S js gs)) (hs : (assignEach (x :: xs) X.env).map (·.2) = assign x X.env :: (assignEach xs X.env).map (·.2) := by rfl) : PGs X (x :: xs) (tPGs S (is ++ js) (wgCons g gs)) :=
  pgsTo (pgs_cons h1 h2 hs) fun v σ H Q ⟨M, A, L, δ, ds, k, f, hv, hw, a⟩ => by
  cases ds with
  | nil => exact hw.elim
  | cons d ds =>
    obtain ⟨u, us, rfl, hu, hus⟩ := hv.of_cons
    exact ⟨u, us, rfl, M, A, L, δ, d, _, f, hu, hw, fun σ1 δ1 f1 s1 hk => ⟨M, A, L, δ1, ds, k, f1, hus, hk, fun σ2 δ2 f2 s2 hk2 => a _ _ f2 (s1.trans s2) hk2⟩⟩
theorem xgT {k : Nat} (hc : X.calm = true) (h : PGs X xs (tPGs S is gs)) (hn : (assignEach xs X.env).length = n := by rfl) (hst : (assignEach xs X.env).findIdx? (·.1) = none := by rfl) (hK : X.K = S.K := by rfl) : PG X (.Tuple xs k pos) (tPG S is (wgT n gs)) :=
  pgTo (pg_tup hc h hn hst) fun v σ H Q ⟨M, A, L, δ, d, k, f, hv, hw, a⟩ => by
  cases d with
  | tup l =>
    obtain ⟨p, vs, rfl, sq, all⟩ := hv.tuple
    rw [hK]
    exact ⟨p, vs, rfl, sqT_full sq, by rw [all.len]; exact hw.1, M, A, L, δ, l, k, f, all, hw.2, a⟩
  | _ => exact hw.elim
end
/-! ### walks -/
structure ItC (S : Su) (M : Mu) (J : It) (ds : List Dt) (G : List Addr → Hp → Prop) : Prop where
  mono : ∀ B B' H H', Stp M [] H [] H' → Same (hv B H) (hv B' H') → G B H → G B' H'
  goes : ∀ i B H, i < ds.length → G B H → J.go i H
  stops : ∀ B H, G B H → J.stop ds.length H
  yields : ∀ i B H x H' d, ds[i]? = some d → G B H → Hd B H → J.yld i H x H' → Same H H' ∧ Da S M (hv B H') x d
structure ItS (S : Su) (M : Mu) (J : It) (ds : List Dt) (G : List Addr → Hp → Prop) : Prop where
  mono : ∀ B B' H H', Same (hv B H) (hv B' H') → G B H → G B' H'
  goes : ∀ i B H, i < ds.length → G B H → J.go i H
  stops : ∀ B H, G B H → J.stop ds.length H
  yields : ∀ i B H x H' d, ds[i]? = some d → G B H → Hd B H → J.yld i H x H' → Same H H' ∧ Da S M (hv B H') x d
theorem ItS.c {S : Su} {M : Mu} {J : It} {ds : List Dt} {G : List Addr → Hp → Prop} (h : ItS S M J ds G) : ItC S M J ds G := ⟨fun B B' H H' _ => h.mono B B' H H', h.goes, h.stops, h.yields⟩
abbrev WI := De → (List Dt → Prop) → (Er → Prop) → Prop
def tPI (S : Su) (E : XK) (w : WI) : TI := fun σ H R => ∃ M A L δ k e, Fr S M A L σ δ H ∧ w δ k e ∧ (∀ J ds G H', Stp M [] H [] H' → MOk S M H' → ItS S M J ds G → G (L ++ A) H' → k ds → R J H') ∧ AftX S M (L ++ A) H e E
def tPIC (S : Su) (E : XK) (w : WI) : TI := fun σ H R => ∃ M A L δ k e, Fr S M A L σ δ H ∧ w δ k e ∧ (∀ J ds G H', Stp M [] H [] H' → MOk S M H' → ItC S M J ds G → G (L ++ A) H' → k ds → R J H') ∧ AftX S M (L ++ A) H e E
theorem piTo {X : Cx} {tg e : Expr} {t t' : TI} (h : PI X tg e t) (m : ∀ σ H Q, t' σ H Q → t σ H Q) : PI X tg e t' := ⟨fun pins s σ H Q I q => h.run pins s σ H Q I (m σ H Q q)⟩
theorem xic {X : Cx} {S : Su} {E : XK} {tg e : Expr} {w : WI} (h : PI X tg e (tPI S E w)) : PI X tg e (tPIC S E w) := piTo h fun σ H R ⟨M, A, L, δ, k, e, f, hw, a, ax⟩ =>
  ⟨M, A, L, δ, k, e, f, hw, fun J ds G H' s m it g hk => a J ds G H' s m it.c g hk, ax⟩
/-- a list, a tuple, a text -/
def signs (x : Str) : List Dt := x.cps.toList.map fun c => .str ⟨#[c]⟩
def wIt (w : WE) : WI := fun δ k e => w δ (fun d => match d with | .lst l => k l | .tup l => k l | .str x => k (signs x) | _ => False) e
def rgI (lo : Int) (n : Nat) : List Dt := (List.range n).map fun i => .int (lo + (i : Nat))
def wRg1 (w : WE) : WI := fun δ k e => w δ (fun d => match d with | .int n => -(2 ^ 62) ≤ n ∧ n < 2 ^ 62 ∧ k (rgI 0 n.toNat) | _ => False) e
def wRg2 (wa wb : WE) : WI := fun δ k e => wa δ (fun x => wb δ (fun y => match x, y with | .int i, .int j => (-(2 ^ 62) ≤ i ∧ i < 2 ^ 62 ∧ -(2 ^ 62) ≤ j ∧ j < 2 ^ 62) ∧ k (rgI i (j - i).toNat) | _, _ => False) e) e
def intsC (lo c : Int) (n : Nat) : List Dt := (List.range n).map fun i => .int (lo + (i : Nat) * c)
def wRg3 (wa wb wc : WE) : WI := fun δ k e => wa δ (fun x => wb δ (fun y => wc δ (fun z => match x, y, z with | .int i, .int j, .int c => ∃ n, RgC i j c n ∧ k (intsC i c n) | _, _, _ => False) e) e) e
/-- enumerate, zip, reversed -/
def numbered (s : Int) : List Dt → List Dt
  | [] => []
  | d :: ds => .tup [.int s, d] :: numbered (s + 1) ds
def zipped (l r : List Dt) : List Dt := List.zipWith (fun x y => .tup [x, y]) l r
theorem numbered_get : ∀ (l : List Dt) (s : Int) (i : Nat), (numbered s l)[i]? = (l[i]?).map fun d => .tup [.int (s + (i : Nat)), d]
  | [], s, i => by simp [numbered]
  | d :: ds, s, 0 => by simp [numbered]
  | d :: ds, s, i + 1 => by
    rw [numbered, List.getElem?_cons_succ, List.getElem?_cons_succ, numbered_get ds (s + 1) i]
    cases ds[i]? with
    | none => rfl
    | some x => simp; omega
theorem numbered_len (l : List Dt) (s : Int) : (numbered s l).length = l.length := by
  induction l generalizing
        s with
  | nil => rfl
  | cons d l ih => rw [numbered, List.length_cons, List.length_cons, ih]
section
variable {S : Su} {M : Mu} {L A : List Addr} {H : Hp} {v : V}
/-- a new pair -/
theorem pair_new {B : List Addr} {H : Hp} {T : Addr} {x y : V} {a b : Dt} (n : H T = none) (hd : Hd B H) (hx : Da S M (hv B H) x a) (hy : Da S M (hv B H) y b) : Same H (upd H T (.tup [x, y])) ∧ Da S M (hv B (upd H T (.tup [x, y]))) (.ref T) (.tup [a, b]) := by
  have nB : T ∉ B := fun z => hd T z n
  have hs : Same (hv B H) (hv B (upd H T (.tup [x, y]))) := Go.hv (Go.of (same_new n))
  exact ⟨same_new n, .tup' (.inl (.inl (by rw [hv_out nB]; exact upd_same))) (.cons (hx.same hs) (.cons (hy.same hs) .nil))⟩
theorem itS_list {a : Addr} {ds : List Dt} (vs : List V) (ln : vs.length = ds.length) : ItS S M (Itl S.K a) ds (fun B H => (hv B H) a = some (.lst vs) ∧ Das S M (hv B H) vs ds) :=
  ⟨fun B B' H H' s h => ⟨s _ _ h.1, h.2.same s⟩, fun i B H hi h => walk_list.goes i H (by rw [ln]; exact hi) (.inl (.inl (hv_le _ _ h.1))), fun B H h => by rw [← ln]; exact walk_list.stops H (.inl (.inl (hv_le _ _ h.1))),
    fun i B H x H' d e h hd y => by
      have hi : i < vs.length := by rw [ln]; exact (List.getElem?_eq_some_iff.mp e).1
      obtain ⟨rfl, e2⟩ := walk_list.yields i H x H' hi (.inl (.inl (hv_le _ _ h.1))) y
      exact ⟨Same.refl _, h.2.all i x d e2 e⟩⟩
theorem itC_list {a : Addr} {ds : List Dt} (vs : List V) (ln : vs.length = ds.length) (na : a ∉ M.map Prod.fst) : ItC S M (Itl S.K a) ds (fun B H => H a = some (.lst vs) ∧ Das S M (hv B H) vs ds) :=
  ⟨fun B B' H H' st s h => ⟨st.keep a _ na (by simp) h.1, h.2.same s⟩, fun i B H hi h => walk_list.goes i H (by rw [ln]; exact hi) (.inl (.inl h.1)), fun B H h => by rw [← ln]; exact walk_list.stops H (.inl (.inl h.1)),
    fun i B H x H' d e h hd y => by
      have hi : i < vs.length := by rw [ln]; exact (List.getElem?_eq_some_iff.mp e).1
      obtain ⟨rfl, e2⟩ := walk_list.yields i H x H' hi (.inl (.inl h.1)) y
      exact ⟨Same.refl _, h.2.all i x d e2 e⟩⟩
theorem itS_tup {a : Addr} {ds : List Dt} (vs : List V) (ln : vs.length = ds.length) : ItS S M (Itt S.K a) ds (fun B H => SqT S.K (hv B H) a vs ∧ Das S M (hv B H) vs ds) :=
  ⟨fun B B' H H' s h => ⟨seqT_same s h.1, h.2.same s⟩, fun i B H hi h => walk_tup.goes i H (by rw [ln]; exact hi) (sqT_full h.1), fun B H h => by rw [← ln]; exact walk_tup.stops H (sqT_full h.1),
    fun i B H x H' d e h hd y => by
      have hi : i < vs.length := by rw [ln]; exact (List.getElem?_eq_some_iff.mp e).1
      obtain ⟨rfl, e2⟩ := walk_tup.yields i H x H' hi (sqT_full h.1) y
      exact ⟨Same.refl _, h.2.all i x d e2 e⟩⟩
theorem itS_str {z : Str} : ItS S M (Its z) (signs z) (fun _ _ => True) :=
  ⟨fun _ _ _ _ _ _ => trivial, fun i B H hi _ => walk_str.goes i H (by simpa [signs] using hi) trivial, fun B H _ => by
    have : (signs z).length = z.cps.size := by simp [signs]
    rw [this]; exact walk_str.stops H trivial,
    fun i B H x H' d e _ hd y => by
      have hi : i < z.cps.size := by have := (List.getElem?_eq_some_iff.mp e).1; simpa [signs] using this
      obtain ⟨rfl, c, e1, rfl⟩ := walk_str.yields i H x H' hi trivial y
      unfold signs at e
      obtain ⟨c', e2, rfl⟩ := some_map e
      have : c = c' := by
        rw [Array.getElem?_toList] at e2
        rw [e1] at e2
        exact Option.some.inj e2
      rw [this]
      exact ⟨Same.refl _, .str _⟩⟩
theorem itS_range {lo : Int} {n : Nat} : ItS S M (Itr lo n) (rgI lo n) (fun _ _ => True) := by
  have ln : (rgI lo n).length = n := by simp [rgI]
  refine ⟨fun _ _ _ _ _ _ => trivial, fun i B H hi _ => walk_range.goes i H (by rw [← ln]; exact hi) trivial, fun B H _ => by rw [ln]; exact walk_range.stops H trivial, fun i B H x H' d e _ hd y => ?_⟩
  have hi : i < n := by rw [← ln]; exact (List.getElem?_eq_some_iff.mp e).1
  obtain ⟨rfl, rfl⟩ := walk_range.yields i H x H' hi trivial y
  unfold rgI at e
  obtain ⟨j, e2, rfl⟩ := some_map e
  rw [List.getElem?_range hi] at e2
  cases e2
  exact ⟨Same.refl _, .int _⟩
theorem itS_rangeC {lo c : Int} {n : Nat} : ItS S M (Itc lo c n) (intsC lo c n) (fun _ _ => True) := by
  have ln : (intsC lo c n).length = n := by simp [intsC]
  refine ⟨fun _ _ _ _ _ _ => trivial, fun i B H hi _ => walk_rangeC.goes i H (by rw [← ln]; exact hi) trivial, fun B H _ => by rw [ln]; exact walk_rangeC.stops H trivial, fun i B H x H' d e _ hd y => ?_⟩
  have hi : i < n := by rw [← ln]; exact (List.getElem?_eq_some_iff.mp e).1
  obtain ⟨rfl, rfl⟩ := walk_rangeC.yields i H x H' hi trivial y
  unfold intsC at e
  obtain ⟨j, e2, rfl⟩ := some_map e
  rw [List.getElem?_range hi] at e2
  cases e2
  exact ⟨Same.refl _, .int _⟩
theorem num_of {ds : List Dt} {i : Nat} {d : Dt} (e : (numbered 0 ds)[i]? = some d) : ∃ b, ds[i]? = some b ∧ d = .tup [.int (i : Nat), b] := by
  rw [numbered_get] at e
  cases q : ds[i]? with
  | none => rw [q]
        at e; cases e
  | some b =>
    rw [q] at e
    simp at e
    exact ⟨b, rfl, e.symm⟩
theorem itS_enum {a : Addr} {ds : List Dt} (vs : List V) (ln : vs.length = ds.length) : ItS S M (Ite S.K a) (numbered 0 ds) (fun B H => (hv B H) a = some (.lst vs) ∧ Das S M (hv B H) vs ds) :=
  ⟨fun B B' H H' s h => ⟨s _ _ h.1, h.2.same s⟩, fun i B H hi h => (walk_enum (xs := vs)).goes i H (by rw [ln, ← numbered_len ds 0]; exact hi) (.inl (.inl (hv_le _ _ h.1))), fun B H h => by rw [numbered_len, ← ln]; exact (walk_enum (xs := vs)).stops H (.inl (.inl (hv_le _ _ h.1))),
    fun i B H x H' d e h hd y => by
      obtain ⟨b, eb, rfl⟩ := num_of e
      have hi : i < vs.length := by rw [ln]; exact (List.getElem?_eq_some_iff.mp eb).1
      obtain ⟨T, x1, x2, rfl, nT, rfl, e1, e2⟩ := (walk_enum (xs := vs)).yields i H x H' hi (.inl (.inl (hv_le _ _ h.1))) y
      cases e1
      exact pair_new nT hd (.int _) (h.2.all i x2 b e2 eb)⟩
theorem itS_enumT {a : Addr} {ds : List Dt} (vs : List V) (ln : vs.length = ds.length) : ItS S M (Itet S.K a) (numbered 0 ds) (fun B H => SqT S.K (hv B H) a vs ∧ Das S M (hv B H) vs ds) :=
  ⟨fun B B' H H' s h => ⟨seqT_same s h.1, h.2.same s⟩, fun i B H hi h => by
      have hi' : i < vs.length := by rw [ln, ← numbered_len ds 0]; exact hi
      exact ⟨vs, vs[i], sqT_full h.1, by simp [hi']⟩, fun B H h => ⟨vs, sqT_full h.1, by rw [numbered_len, ln]; exact Nat.le_refl _⟩,
    fun i B H x H' d e h hd y => by
      obtain ⟨b, eb, rfl⟩ := num_of e
      obtain ⟨T, x2, rfl, nT, rfl, e2⟩ := y
      exact pair_new nT hd (.int _) (h.2.all i x2 b (e2 vs (sqT_full h.1)) eb)⟩
end
/-- what may be walked in a for: a list or tuple, at either the one walk or the other -/
def iSeq (K : PySem.W.Frag) (tl : TE) : TI := fun σ H R => tl σ H fun x H1 => (∃ a, x = .ref a ∧ (∃ xs, SqL K H1 a xs) ∧ R (Itl K a) H1) ∨ (∃ a, x = .ref a ∧ (∃ xs, SqT K H1 a xs) ∧ R (Itt K a) H1) ∨ ∃ z, x = .str z ∧ R (Its z) H1
section
variable {X : Cx} {tg : Expr}
theorem pi_seq {l : Expr} {tl : TE} (hl : PE X l tl) : PI X tg l (iSeq X.K tl) := by
  refine ⟨fun pins s σ H
        R I h => ?_⟩
  refine thn (hl.run pins s σ H _ I h) fun v s1
        ⟨x, H1, I1, r1, q1⟩ => ?_
  rcases q1 with ⟨a, e, ⟨xs, hq⟩, q⟩ | ⟨a, e, ⟨xs, hq⟩, q⟩ | ⟨z, e, q⟩
  · subst e
    cases r1
    obtain ⟨its, rv, p, hz⟩
          := I1.list hq
    refine wpAny_pyIter_list
          p.isList ?_
    refine ⟨s1.heap.objs.size, [s1.heap.objs.size], _, _, H1, rfl, I1.kept (t' := s1.toks) fun b o e => Heap.get?_push_of_some _ e, turn_list
          a _, ⟨_, Heap.get?_push_size _ rfl, rfl, rfl⟩, fun b hb => ?_, q⟩
    have e : b = s1.heap.objs.size :=
          by simpa using hb
    subst e
    exact I1.fpOk (Nat.le_refl _) (I1.hok.fresh
          (Nat.le_refl _))
  · subst e
    cases r1
    obtain ⟨its, rv, p, hz⟩ :=
          I1.tuple hq
    refine wpAny_pyIter_tuple (show s1.heap.IsTuple
          a its.toArray from p) ?_
    refine ⟨s1.heap.objs.size, [s1.heap.objs.size], _, _, H1, rfl, I1.kept (t' := s1.toks) fun b o e => Heap.get?_push_of_some _ e, turn_tuple
          a _, ⟨_, Heap.get?_push_size _ rfl, rfl, rfl⟩, fun b hb => ?_, q⟩
    have e : b = s1.heap.objs.size :=
          by simpa using hb
    subst e
    exact I1.fpOk (Nat.le_refl _) (I1.hok.fresh
          (Nat.le_refl _))
  · subst e
    obtain ⟨t, rfl⟩ := r1
    cases ha : z.cps.all (· < 128)
    · exact wpAny_pyIter_wide ha (pi_one (tk := s1.toks) I1 _ (turn_str _ z t "str_iterator" (.inr rfl)) ⟨_, Heap.get?_push_size _ rfl, rfl, rfl⟩ q)
    · exact wpAny_pyIter_ascii ha (pi_one (tk := s1.toks) I1 _ (turn_str _ z t "str_ascii_iterator" (.inl rfl)) ⟨_, Heap.get?_push_size _ rfl, rfl, rfl⟩ q)
end
section
variable {X : Cx} {S : Su} {E : XK} {tg x y z : Expr} {w wa wb wc : WE} {p pos : Pos}
theorem xIt (h : PE X x (tP S E w)) (hK : X.K = S.K := by rfl) : PI X tg x (tPI S E (wIt w)) := piTo (pi_seq h) fun σ H R ⟨M, A, L, δ, k, e, f, hw, a, ax⟩ =>
  ⟨M, A, L, δ, _, e, f, hw, fun v d H1 s1 m1 hv hk => by
    rw [hK]
    cases d with
    | lst l =>
      obtain ⟨q, vs, rfl, sq, all⟩ := hv.list
      exact .inl ⟨q, rfl, ⟨vs, .inl (.inl (hv_le _ _ sq))⟩, a _ _ _ H1 s1 m1 (itS_list vs all.len) ⟨sq, all⟩ hk⟩
    | tup l =>
      obtain ⟨q, vs, rfl, sq, all⟩ := hv.tuple
      exact .inr (.inl ⟨q, rfl, ⟨vs, sqT_full sq⟩, a _ _ _ H1 s1 m1 (itS_tup vs all.len) ⟨sq, all⟩ hk⟩)
    | str z => exact .inr (.inr ⟨z, hv.str_eq, a _ _ _ H1 s1 m1 itS_str trivial hk⟩)
    | _ => exact hk.elim, ax⟩
/-- in a comprehension a list of the frame's own too -/
theorem xItC (h : PE X x (tPW S E w)) (hK : X.K = S.K := by rfl) : PI X tg x (tPIC S E (wIt w)) := piTo (pi_seq h) fun σ H R ⟨M, A, L, δ, k, e, f, hw, a, ax⟩ =>
  ⟨M, A, L, δ, _, e, f, hw, fun v d H1 s1 m1 hv hk => by
    rw [hK]
    rcases hv with hv | ⟨q, vs, ds, rfl, rfl, qL, e1, hv⟩
    · cases d with
      | lst l =>
        obtain ⟨q, vs, rfl, sq, all⟩ := hv.list
        exact .inl ⟨q, rfl, ⟨vs, .inl (.inl (hv_le _ _ sq))⟩, a _ _ _ H1 s1 m1 (itS_list vs all.len).c ⟨sq, all⟩ hk⟩
      | tup l =>
        obtain ⟨q, vs, rfl, sq, all⟩ := hv.tuple
        exact .inr (.inl ⟨q, rfl, ⟨vs, sqT_full sq⟩, a _ _ _ H1 s1 m1 (itS_tup vs all.len).c ⟨sq, all⟩ hk⟩)
      | str z => exact .inr (.inr ⟨z, hv.str_eq, a _ _ _ H1 s1 m1 itS_str.c trivial hk⟩)
      | _ => exact hk.elim
    · exact .inl ⟨q, rfl, ⟨vs, .inl (.inl e1)⟩, a _ _ _ H1 s1 m1 (itC_list vs hv.len (f.notM qL)) ⟨e1, hv⟩ hk⟩, ax⟩
theorem xRg1 (hg : Gl X "range") (hm : X.mg "range" = none) (h : PE X x (tP S E w)) (hs : starEach [x] X.env = [(false, eval x X.env)] := by rfl) (hs2 : starEach [x] X.env = (false, eval x X.env) :: starEach [] X.env := by rfl) : PI X tg (.Call (.Name "range" p) [x] [] pos) (tPI S E (wRg1 w)) :=
  piTo (pi_range1 hg hm (pa_cons h pa_nil hs2) hs) fun σ H R ⟨M, A, L, δ, k, e, f, hw, a, ax⟩ =>
  ⟨M, A, L, δ, _, e, f, hw, fun v d H1 s1 m1 hv hk => by
    cases d with
    | int n => exact ⟨n, by rw [hv.int_eq], hk.1, hk.2.1, a _ _ _ H1 s1 m1 itS_range trivial hk.2.2⟩
    | _ => exact hk.elim, ax⟩
theorem xRg2 (hg : Gl X "range") (hm : X.mg "range" = none) (h : PE X x (tP S E wa)) (h2 : PE X y (tP S E wb)) (hs : starEach [x, y] X.env = [(false, eval x X.env), (false, eval y X.env)] := by rfl) (hs2 : starEach [y] X.env = [(false, eval y X.env)] := by rfl)
    (hs3 : starEach [x, y] X.env = (false, eval x X.env) :: starEach [y] X.env := by rfl) (hs4 : starEach [y] X.env = (false, eval y X.env) :: starEach [] X.env := by rfl) : PI X tg (.Call (.Name "range" p) [x, y] [] pos) (tPI S E (wRg2 wa wb)) :=
  piTo (pi_range2 hg hm (pa_cons h (pa_cons h2 pa_nil hs4) hs3) hs hs2) fun σ H R ⟨M, A, L, δ, k, e, f, hw, a, ax⟩ =>
  ⟨M, A, L, δ, _, e, f, hw, fun v d H1 s1 m1 hv hk => ⟨M, A, L, δ, _, e, f.step s1 m1, hk, fun u c H2 s2 m2 hu hk2 => by
    cases d with
    | int i =>
      cases c with
      | int j => exact ⟨i, j, by rw [hv.int_eq, hu.int_eq], hk2.1, a _ _ _ H2 (s1.trans m1 s2) m2 itS_range trivial hk2.2⟩
      | _ => exact hk2.elim
    | _ => cases c <;> exact hk2.elim, ax.step s1 m1⟩, ax⟩
theorem xRg3 (hg : Gl X "range") (hm : X.mg "range" = none) (h : PE X x (tP S E wa)) (h2 : PE X y (tP S E wb)) (h3 : PE X z (tP S E wc)) (hs : starEach [x, y, z] X.env = (false, eval x X.env) :: starEach [y, z] X.env := by rfl) (hpl : (backTo pos (starEach [y, z] X.env)).any (·.1) = false := by rfl)
    (hs3 : starEach [y, z] X.env = (false, eval y X.env) :: starEach [z] X.env := by rfl) (hs4 : starEach [z] X.env = (false, eval z X.env) :: starEach [] X.env := by rfl) : PI X tg (.Call (.Name "range" p) [x, y, z] [] pos) (tPI S E (wRg3 wa wb wc)) :=
  piTo (pi_range3 hg hm (pa_cons h (pa_cons h2 (pa_cons h3 pa_nil hs4) hs3) hs) hs hpl) fun σ H R ⟨M, A, L, δ, k, e, f, hw, a, ax⟩ =>
  ⟨M, A, L, δ, _, e, f, hw, fun v d H1 s1 m1 hv hk => ⟨M, A, L, δ, _, e, f.step s1 m1, hk, fun u c H2 s2 m2 hu hk2 => ⟨M, A, L, δ, _, e, f.step (s1.trans m1 s2) m2, hk2, fun u3 c3 H3 s3 m3 hu3 hk3 => by
    cases d with
    | int i =>
      cases c with
      | int j =>
        cases c3 with
        | int c =>
          obtain ⟨n, r, hk4⟩ := hk3
          exact ⟨i, j, c, n, by rw [hv.int_eq, hu.int_eq, hu3.int_eq], r, a _ _ _ H3 ((s1.trans m1 s2).trans m2 s3) m3 itS_rangeC trivial hk4⟩
        | _ => exact hk3.elim
      | _ => cases c3 <;> exact hk3.elim
    | _ => cases c <;> cases c3 <;> exact hk3.elim, ax.step (s1.trans m1 s2) m2⟩, ax.step s1 m1⟩, ax⟩
variable {elts : List Expr} {kk : Nat} {tpos : Pos}
end
end LW
set_option Elab.async false
set_option linter.all false
set_option maxRecDepth 100000
set_option maxHeartbeats 4000100
/-! comprehensions, told of plain data -/
namespace LW
open L2 PySem.Spec PyProof.Rows PySem
def wipeD (δ : De) : List Nat → De
  | [] => δ
  | v :: vs => (wipeD δ vs).set v none
section
variable {S : Su} {M : Mu} {L A : List Addr} {σ σ2 : L2.St} {δ : De} {H H' : Hp} {p : Addr} {v : V} {d : Dt}
theorem Fr.clear (f : Fr S M A L σ δ H) (i : Nat) : Fr S M A L (σ.set i none) (δ.set i none) H := by
  have key : ∀ (j : Nat) (s : Sl), (δ.set i none)[j]? = some (some s) → i ≠ j ∧ δ[j]? = some (some s) := fun j s hj => by
    by_cases z : i = j
    · subst z
      have l := (List.getElem?_eq_some_iff.mp hj).1
      rw [List.length_set] at l
      rw [List.getElem?_set_self l] at hj
      cases hj
    · rw [List.getElem?_set_ne z] at hj
      exact ⟨z, hj⟩
  exact {
    len := by rw [List.length_set, List.length_set, f.len]
    hd := f.hd
    dis := f.dis
    mA := f.mA
    mu := f.mu
    val := fun j d hj => by
      obtain ⟨z, hj⟩ := key j _ hj
      obtain ⟨u, e1, q⟩ := f.val j d hj
      exact ⟨u, by rw [List.getElem?_set_ne z]; exact e1, q⟩
    own := fun j ds hj => by
      obtain ⟨z, hj⟩ := key j _ hj
      obtain ⟨p, vs, e1, q⟩ := f.own j ds hj
      exact ⟨p, vs, by rw [List.getElem?_set_ne z]; exact e1, q⟩
    uni := fun j k ds es p h1 h2 h3 h4 => by
      obtain ⟨z1, h1⟩ := key j _ h1
      obtain ⟨z2, h2⟩ := key k _ h2
      rw [List.getElem?_set_ne z1] at h3
      rw [List.getElem?_set_ne z2] at h4
      exact f.uni j k ds es p h1 h2 h3 h4 }
theorem Fr.wipe (f : Fr S M A L σ δ H) : ∀ vs : List Nat, Fr S M A L (L2.wipe σ vs) (wipeD δ vs) H
  | [] => f
  | v :: vs => (f.wipe vs).clear v
theorem wipe_get (σ : L2.St) (j : Nat) : ∀ vs : List Nat, (L2.wipe σ vs)[j]? = if j ∈ vs then (σ[j]?).map (fun _ => none) else σ[j]?
  | [] => by rw [if_neg (by simp)]; rfl
  | v :: vs => by
    have ih := wipe_get σ j vs
    unfold L2.wipe
    by_cases z : v = j
    · subst z
      rw [if_pos List.mem_cons_self]
      by_cases l : v < σ.length
      · rw [List.getElem?_set_self (by rw [wipe_length]; exact l), List.getElem?_eq_getElem l]; rfl
      · rw [List.getElem?_eq_none_iff.mpr (by rw [List.length_set, wipe_length]; omega), List.getElem?_eq_none_iff.mpr (by omega)]; rfl
    · rw [List.getElem?_set_ne z, ih]
      have : (j ∈ v :: vs) ↔ j ∈ vs := ⟨fun h => (List.mem_cons.mp h).elim (fun e => absurd e.symm z) id, List.mem_cons_of_mem _⟩
      by_cases h : j ∈ vs
      · rw [if_pos h, if_pos (this.mpr h)]
      · rw [if_neg h, if_neg fun q => h (this.mp q)]
theorem wipe_but {vs : List Nat} (h : SlotsBut vs (L2.wipe σ vs) σ2) : L2.wipe σ2 vs = L2.wipe σ vs := by
  apply List.ext_getElem?
  intro j
  rw [wipe_get σ2]
  by_cases z : j ∈ vs
  · rw [if_pos z, wipe_get σ, if_pos z]
    have l1 : σ2.length = σ.length := by rw [h.1, wipe_length]
    by_cases l : j < σ.length
    · rw [List.getElem?_eq_getElem (by omega), List.getElem?_eq_getElem l]; rfl
    · rw [List.getElem?_eq_none_iff.mpr (by omega), List.getElem?_eq_none_iff.mpr (by omega)]
  · rw [if_neg z]
    exact h.2 j z
theorem hv_mem {A B : List Addr} (h : ∀ x, x ∈ A ↔ x ∈ B) : Same (hv A H) (hv B H) := hv_sub fun x hx => (h x).mpr hx
theorem mem_mid {x p : Addr} {L A : List Addr} : x ∈ L ++ p :: A ↔ x ∈ p :: (L ++ A) := by
  simp only [List.mem_append, List.mem_cons]
  constructor
  · rintro (h | h | h)
    · exact .inr (.inl h)
    · exact .inl h
    · exact .inr (.inr h)
  · rintro (h | h | h)
    · exact .inr (.inl h)
    · exact .inl h
    · exact .inr (.inr h)
/-- a new thing is hidden -/
theorem Fr.hide (f : Fr S M A L σ δ H) (n : H p = none) (s : Stp M [] H [] H') (m : MOk S M H') (e : H' p ≠ none) : Fr S M (p :: A) L σ δ H' := by
  have mB : ∀ x ∈ M, x.1 ∈ L ++ A := fun x hx => List.mem_append_right _ (f.mA x hx)
  have hs : Same (hv (L ++ A) H) (hv (L ++ p :: A) H') := (hide_stp n s mB).trans (hv_mem fun x => mem_mid.symm)
  have pL : p ∉ L := fun z => f.hd p (List.mem_append_left _ z) n
  exact {
    len := f.len
    hd := fun a ha => by
      rcases List.mem_cons.mp (mem_mid.mp ha) with z | z
      · rw [z]; exact e
      · exact held_stp s m f.hd a z
    dis := fun q hq z => by
      rcases List.mem_cons.mp z with w | w
      · exact pL (by rw [← w]; exact hq)
      · exact f.dis q hq w
    mA := fun x hx => List.mem_cons_of_mem _ (f.mA x hx)
    mu := m
    val := fun i d hi => by
      obtain ⟨u, e1, q⟩ := f.val i d hi
      exact ⟨u, e1, q.same hs⟩
    own := fun i ds hi => by
      obtain ⟨q, vs, e1, qL, e2, h⟩ := f.own i ds hi
      exact ⟨q, vs, e1, qL, s.keep q _ (f.notM qL) (by simp) e2, h.same hs⟩
    uni := f.uni }
/-- a hidden thing is changed -/
theorem Fr.updHid {o : HO} (f : Fr S M A L σ δ H) (h : p ∈ A) (nM : p ∉ M.map Prod.fst) {was : List V} (hl : H p = some (.lst was)) : Fr S M A L σ δ (upd H p o) := by
  have hs : Same (hv (L ++ A) H) (hv (L ++ A) (upd H p o)) := fun b u q => by
    have hb : b ∉ L ++ A := fun z => by rw [hv_in z] at q; cases q
    rw [hv_out hb] at q ⊢
    rw [upd_ne fun z => hb (by rw [z]; exact List.mem_append_right _ h)]
    exact q
  exact {
    len := f.len
    hd := fun a ha z => by
      by_cases w : a = p
      · rw [w, upd_same] at z; cases z
      · rw [upd_ne w] at z; exact f.hd a ha z
    dis := f.dis
    mA := f.mA
    mu := ⟨fun x hx => by
      obtain ⟨u, q, r⟩ := f.mu.ok x hx
      refine ⟨u, ?_, S.mdm (fun b u e n _ _ => ?_) r⟩
      · rw [upd_ne fun z => nM (by rw [← z]; exact List.mem_map.mpr ⟨x, hx, rfl⟩)]
        exact q
      · rw [upd_ne fun z => n was (by rw [z, hl] at e; cases e; rfl)]
        exact e, f.mu.must⟩
    val := fun i d hi => by
      obtain ⟨u, e1, q⟩ := f.val i d hi
      exact ⟨u, e1, q.same hs⟩
    own := fun i ds hi => by
      obtain ⟨q, vs, e1, qL, e2, h2⟩ := f.own i ds hi
      refine ⟨q, vs, e1, qL, ?_, h2.same hs⟩
      rw [upd_ne fun z => f.dis q qL (by rw [z]; exact h)]
      exact e2
    uni := f.uni }
end
abbrev E0' : XK := fun _ _ _ => False
abbrev nE : Er → Prop := fun _ => False
theorem afx0 {S : Su} {M : Mu} {A : List Addr} {H : Hp} {E : XK} : AftX S M A H nE E := fun _ _ _ _ _ _ _ h => h.elim
def lcL (f : Dt → (Option Dt → Prop) → Prop) : List Dt → List Dt → (List Dt → Prop) → Prop
  | [], acc, k => k acc
  | d :: ds, acc, k => f d fun o => lcL f ds (match o with | some y => acc ++ [y] | none => acc) k
def wYes : WT := fun _ k _ => k true
def wLc (vs : List Nat) (wi : WI) (g : WG) (wt : WT) (we : WE) : WE := fun δ k e => wi δ (fun items => items.length ≤ 10000000 ∧
  lcL (fun d k' => g d (wipeD δ vs) fun δ' => wt δ' (fun b => match b with | true => we δ' (fun y => k' (some y)) nE | false => k' none) nE) items [] (fun out => k (.lst out))) e
section
variable {X : Cx} {S : Su} {E : XK} {x : Expr} {wt : WT}
theorem xPts0 : PTs X [] (tPT S E0' wYes) := ⟨fun pins s σ H Q I ⟨M, A, L, δ, k, e, f, hw, a, ax⟩ => pts_nil.run pins s σ H Q I (a true H .refl f.mu hw)⟩
variable {wi : WI} {g : WG} {we : WE} {is : List Nat}
theorem lcT {vs : List Nat} (his : ∀ i ∈ is, i ∈ vs) : ∀ σ H Q, tPF S E (wLc vs wi g wt we) σ H Q → tLc (tPIC S E wi) (tPG S is g) (tPT S E0' wt) (tP S E0' we) vs σ H Q := fun σ H Q ⟨M, A, L, δ, k, e, f, hw, a, ax⟩ =>
  ⟨M, A, L, δ, _, e, f, hw, fun J ds G H1 s1 m1 it hG hk D nD => by
    obtain ⟨hsz, hk⟩ := hk
    have f1 := f.step s1 m1
    have mB : ∀ x ∈ M, x.1 ∈ L ++ A := fun x hx => List.mem_append_right _ (f.mA x hx)
    have DA : D ∉ L ++ A := fun z => f1.hd D z nD
    have DM : D ∉ M.map Prod.fst := fun z => by
      obtain ⟨x, hx, rfl⟩ := List.mem_map.mp z
      exact DA (mB x hx)
    let F : Dt → (Option Dt → Prop) → Prop := fun d k' => g d (wipeD δ vs) fun δ' => wt δ' (fun b => match b with | true => we δ' (fun y => k' (some y)) nE | false => k' none) nE
    let Pv : Nat → Hp → Prop := fun i H' => ∃ (ws : List V) (acc : List Dt), H' D = some (.lst ws) ∧ Fr S M (D :: A) L σ δ H' ∧ Stp M [] H1 [] H' ∧ Das S M (hv (L ++ D :: A) H') ws acc ∧ acc.length ≤ i ∧ G (L ++ D :: A) H' ∧ lcL F (ds.drop i) acc (fun out => k (.lst out))
    have step : ∀ (i : Nat) (H2 : Hp) (ws : List V) (acc : List Dt) (y : V) (o : Dt), i < ds.length → H2 D = some (.lst ws) → Fr S M (D :: A) L σ δ H2 → Stp M [] H1 [] H2 → Das S M (hv (L ++ D :: A) H2) ws acc → acc.length ≤ i → G (L ++ D :: A) H2 → Da S M (hv (L ++ D :: A) H2) y o →
        lcL F (ds.drop (i + 1)) (acc ++ [o]) (fun out => k (.lst out)) → Pv (i + 1) (upd H2 D (.lst (ws ++ [y])))   := fun i H2 ws acc y o hi e2 f2 s2 h2 al g2 hy hl => by
      have f3 : Fr S M (D :: A) L σ δ (upd H2 D (.lst (ws ++ [y]))) := f2.updHid List.mem_cons_self DM e2
      have hs : Same (hv (L ++ D :: A) H2) (hv (L ++ D :: A) (upd H2 D (.lst (ws ++ [y])))) := fun b u q => by
        have hb : b ∉ L ++ D :: A := fun z => by rw [hv_in z] at q; cases q
        rw [hv_out hb] at q ⊢
        rw [upd_ne fun z => hb (by rw [z]; simp)]
        exact q
      have s3 : Stp M [] H1 [] (upd H2 D (.lst (ws ++ [y]))) := ⟨fun b u n1 n2 q => by
        rw [upd_ne fun z => by rw [z, nD] at q; cases q]
        exact s2.keep b u n1 n2 q, fun _ z => by cases z⟩
      refine ⟨_, acc ++ [o], upd_same, f3, s3, (h2.same hs).app (.cons (hy.same hs) .nil), by rw [List.length_append]; simp; exact al, ?_, hl⟩
      -- the source is as it was
      have sM : Stp M [] H1 [] (upd H2 D (.lst (ws ++ [y]))) := s3
      exact it.mono (L ++ A) _ H1 _ s3 ((hide_stp nD s3 mB).trans (hv_mem fun x => mem_mid.symm)) hG
    refine ⟨fun i m H' => m = ds.length - i ∧ i ≤ ds.length ∧ Pv i H', ⟨_, rfl, Nat.zero_le _, [], [], upd_same, ?_, .of (same_new nD), .nil, Nat.le_refl _, ?_, ?_⟩, ?_⟩
    · exact f1.hide nD (.of (same_new nD)) (m1.same (same_new nD)) (by rw [upd_same]; exact fun z => by cases z)
    · exact it.mono _ _ _ _ (.of (same_new nD)) ((hide_stp nD (.of (same_new nD)) mB).trans (hv_mem fun x => mem_mid.symm)) hG
    · exact hk
    · rintro i m H' ⟨rfl, hi, ws, acc, e', f', s', h', al, g', hl⟩
      by_cases hlt : i < ds.length
      · refine .inr ⟨it.goes i _ H' hlt g', fun H'' => Pv (i + 1) H'', fun H'' hp => ⟨_, by omega, rfl, hlt, hp⟩, fun x H2 y => ?_⟩
        obtain ⟨sx, hx⟩ := it.yields i _ H' x H2 (ds[i]) (List.getElem?_eq_getElem hlt) g' f'.hd y
        have f2 : Fr S M (D :: A) L σ δ H2 := f'.step (.of sx) (f'.mu.same sx)
        rw [List.drop_eq_getElem_cons hlt] at hl
        refine ⟨M, D :: A, L, wipeD δ vs, ds[i], _, f2.wipe vs, hx, hl, fun σ3 δ3 f3 sl hk3 => ⟨wipe_but ⟨sl.1, fun j hj => sl.2 j fun z => hj (his j z)⟩, ?_⟩⟩
        refine ⟨M, D :: A, L, δ3, _, nE, f3, hk3, fun b H3 s3 m3 hk4 => ?_, afx0⟩
        have f3' : Fr S M (D :: A) L σ δ H3 := f2.step s3 m3
        have s13 : Stp M [] H1 [] H3 := (s'.trans f'.mu (.of sx)).trans f2.mu s3
        have keep3 : H3 D = some (.lst ws) := s3.keep D _ DM (by simp) (sx _ _ e')
        have hws : Das S M (hv (L ++ D :: A) H3) ws acc := (h'.same (Go.hv (Go.of sx))).same (stp_hv s3 fun x hx => List.mem_append_right _ (List.mem_cons_of_mem _ (f.mA x hx)))
        have g3 : G (L ++ D :: A) H3 := it.mono _ _ _ _ ((Stp.of sx).trans f2.mu s3) ((Go.hv (Go.of sx)).trans (stp_hv s3 fun x hx => List.mem_append_right _ (List.mem_cons_of_mem _ (f.mA x hx)))) g'
        cases b with
        | true =>
          refine (if_pos rfl).mpr ⟨M, D :: A, L, δ3, _, nE, f3.step s3 m3, hk4, fun y o H4 s4 m4 hy hk5 => ?_, afx0⟩
          have f4' : Fr S M (D :: A) L σ δ H4 := f3'.step s4 m4
          have mm : ∀ x ∈ M, x.1 ∈ L ++ D :: A := fun x hx => List.mem_append_right _ (List.mem_cons_of_mem _ (f.mA x hx))
          exact ⟨ws, s4.keep D _ DM (by simp) keep3, by rw [h'.len, sizeLine_eq]; omega, step i H4 ws acc y o hlt (s4.keep D _ DM (by simp) keep3) f4' (s13.trans m3 s4) (hws.same (stp_hv s4 mm)) al (it.mono _ _ _ _ s4 (stp_hv s4 mm) g3) hy hk5⟩
        | false =>
          exact (if_neg Bool.false_ne_true).mpr ⟨ws, acc, keep3, f3', s13, hws, by omega, g3, hk4⟩
      · have ei : i = ds.length := by omega
        subst ei
        rw [List.drop_length] at hl
        refine .inl ⟨it.stops _ H' g', a D ws acc H' (stp_free s1 m1 nD) (s1.trans m1 s') f'.mu e' (h'.same (hv_mem fun x => mem_mid)) hl⟩, ax⟩
variable {elt tg iter : Expr} {ifs : List Expr} {scope : Scope} {own : List (Str × Nat)} {pos : Pos}
theorem xLc (hc : X.calm = true) (hN : X.N.Nodup) (hi : PI X tg iter (tPIC S E wi)) (ok : BlkOk X.N X.env.scope scope own)
    (hg : ∀ (s : Shared) (H : Hp) (C : Addr) (cl : List (Str × Addr)) (fp : List Addr), PG (X.blk s H scope (compEnvC scope cl C X.env) fp) tg (tPG S is g)) (ht : ∀ (s : Shared) (H : Hp) (C : Addr) (cl : List (Str × Addr)) (fp : List Addr), PTs (X.blk s H scope (compEnvC scope cl C X.env) fp) ifs (tPT S E0' wt))
    (he : ∀ (s : Shared) (H : Hp) (C : Addr) (cl : List (Str × Addr)) (fp : List Addr), PE (X.blk s H scope (compEnvC scope cl C X.env) fp) elt (tP S E0' we)) (his : ∀ i ∈ is, i ∈ own.map (·.2)) (hs : ∀ x, foldedSetIterable iter X.env x = pure x := by intro _; rfl) :
    PE X (.ListComp elt [⟨tg, iter, ifs, 0⟩] scope pos) (tPF S E (wLc (own.map (·.2)) wi g wt we)) := peTo (pe_lc hc hN hi ok hg ht he hs) (lcT his)
end
end LW
set_option Elab.async false
set_option linter.all false
set_option maxRecDepth 100000
set_option maxHeartbeats 4000100
/-! raise C(e), C an own class over ValueError whose __init__ keeps its one argument -/
namespace LW
open L2 PySem.Spec PyProof.Rows PySem
/-! ### a method that may raise -/
/-! ### isinstance(e, c), e the caught error, an own one with a dict -/
/-- what is taken may tell of the number of slots -/
theorem Takes.len {X : Cx} {W W' : WX} (t : Takes X W) (h : ∀ c d σ H, σ.length = X.N.length → W' c d σ H → W c d σ H) : Takes X W' := by
  rintro u s' ⟨a, B, sI, pins, σ, H, cls, d, e, I, nb, up, sky, na, os, ag, w⟩
  exact t u s' ⟨a, B, sI, pins, σ, H, cls, d, e, I, nb, up, sky, na, os, ag, h _ _ _ _ I.len w⟩
end LW
set_option Elab.async false
set_option linter.all false
set_option maxRecDepth 100000
set_option maxHeartbeats 4000100
/-! statements and defs, told of plain data -/
namespace LW
open L2 PySem.Spec PyProof.Rows PySem
structure EndD where
  nx : De → Prop
  rt : Dt → Prop
  bk : De → Prop := fun _ => False
  ct : De → Prop := fun _ => False
  rf : List Dt → Prop := fun _ => False
abbrev WS := EndD → De → (Er → Prop) → Prop
def AftS (S : Su) (M : Mu) (L A : List Addr) (H : Hp) (k : De → Prop) (Q : L2.St → Hp → Prop) : Prop := ∀ L' δ' σ' H', Stp M L H L' H' → Fr S M A L' σ' δ' H' → k δ' → Q σ' H'
def AftR (S : Su) (M : Mu) (L A : List Addr) (H : Hp) (k : Dt → Prop) (Q : VK) : Prop := ∀ L' v d H', Stp M L H L' H' → MOk S M H' → Da S M (hv A H') v d → k d → Q v H'
/-- .. a list that nothing else knows -/
def AftRF (S : Su) (M : Mu) (L A : List Addr) (H : Hp) (k : List Dt → Prop) (Q : VK) : Prop := ∀ (p : Addr) (vs : List V) (ds : List Dt) (H' : Hp), (∃ L', Stp M L H L' H') → MOk S M H' → (H p = none ∨ p ∈ L) → H' p = some (.lst vs) → Das S M (hv (p :: A) H') vs ds → k ds → Q (.ref p) H'
def AftXS (S : Su) (M : Mu) (L A : List Addr) (H : Hp) (e : Er → Prop) (E : XK) : Prop := ∀ L' x cls dd H', Stp M L H L' H' → MOk S M H' → XOk S M A x cls dd H' → e x → E cls dd H'
/-- what is told behind a statement -/
structure AftD (S : Su) (M : Mu) (L A : List Addr) (H : Hp) (DP : EndD) (e : Er → Prop) (D : Ends) (E : XK) : Prop where
  nx : AftS S M L A H DP.nx D.nx
  rt : AftR S M L A H DP.rt D.rt
  bk : AftS S M L A H DP.bk D.bk
  ct : AftS S M L A H DP.ct D.ct
  ex : AftXS S M L A H e E
  rf : AftRF S M L A H DP.rf D.rt
def tPS (S : Su) (E : XK) (w : WS) : TS := fun D σ H => ∃ M A L δ DP e, Fr S M A L σ δ H ∧ w DP δ e ∧ AftD S M L A H DP e D E
section
variable {S : Su} {M : Mu} {L L1 A : List Addr} {H H1 : Hp} {kd : De → Prop} {k : Dt → Prop} {e : Er → Prop} {E : XK} {Qs : L2.St → Hp → Prop} {Q : VK} {DP : EndD} {D : Ends}
theorem AftS.step (s : Stp M L H L1 H1) (m : MOk S M H1) (h : AftS S M L A H kd Qs) : AftS S M L1 A H1 kd Qs := fun L' δ' σ' H' s2 f hk => h L' δ' σ' H' (s.trans m s2) f hk
theorem AftR.step (s : Stp M L H L1 H1) (m : MOk S M H1) (h : AftR S M L A H k Q) : AftR S M L1 A H1 k Q := fun L' v d H' s2 m2 hv hk => h L' v d H' (s.trans m s2) m2 hv hk
theorem AftRF.step {kl : List Dt → Prop} (s : Stp M L H L1 H1) (m : MOk S M H1) (h : AftRF S M L A H kl Q) : AftRF S M L1 A H1 kl Q := fun p vs ds H' ⟨L', s2⟩ m2 hp ep hv hk => h p vs ds H' ⟨L', s.trans m s2⟩ m2 (by
  rcases hp with n | i
  · by_cases z : p ∈ L
    · exact .inr z
    · refine .inl ?_
      cases q : H p with
      | none => rfl
      | some o =>
        by_cases t : p ∈ M.map Prod.fst
        · exact absurd n (m.held t)
        · rw [s.keep p o t z q] at n; cases n
  · exact (s.new p i).elim .inr .inl) ep hv hk
theorem AftXS.step (s : Stp M L H L1 H1) (m : MOk S M H1) (h : AftXS S M L A H e E) : AftXS S M L1 A H1 e E := fun L' x c dd H' s2 m2 hx he => h L' x c dd H' (s.trans m s2) m2 hx he
theorem AftD.step (s : Stp M L H L1 H1) (m : MOk S M H1) (h : AftD S M L A H DP e D E) : AftD S M L1 A H1 DP e D E := ⟨h.nx.step s m, h.rt.step s m, h.bk.step s m, h.ct.step s m, h.ex.step s m, h.rf.step s m⟩
theorem XOk.out {x : Er} {c : Value} {dd : Option Addr} {H' : Hp} (h : XOk S M (L ++ A) x c dd H') : XOk S M A x c dd H' := ⟨h.1, by
  have h2 := h.2
  revert h2
  cases x.fld with
  | none => exact id
  | some nd =>
    rintro ⟨q, v, z1, z2, z3⟩
    exact ⟨q, v, z1, z2, z3.same (hv_sub fun y hy => List.mem_append_right _ hy)⟩⟩
theorem AftXS.x (h : AftXS S M L A H e E) : AftX S M (L ++ A) H e E := fun x c dd H' s m hx he => h L x c dd H' s.wide m hx.out he
end
/-! ### the statements -/
def wNx : WS := fun D δ _ => D.nx δ
def wSeq (a b : WS) : WS := fun D δ e => a { D with nx := fun δ' => b D δ' e } δ e
def wBk : WS := fun D δ _ => D.bk δ
def wCt : WS := fun D δ _ => D.ct δ
def wNev : WS := fun _ _ _ => False
def wEx (w : WE) : WS := fun D δ e => w δ (fun _ => D.nx δ) e
def wSet (i : Nat) (w : WE) : WS := fun D δ e => w δ (fun d => D.nx (δ.set i (some (.val d)))) e
def wOwn (i : Nat) (w : WE) : WS := fun D δ e => w δ (fun d => match d with | .lst l => D.nx (δ.set i (some (.own l))) | _ => False) e
def wAsg (w : WE) (g : WG) : WS := fun D δ e => w δ (fun d => g d δ D.nx) e
def wPar (i j : Nat) (wa : WA) : WS := fun D δ e => wa δ (fun l => match l with | [a, b] => D.nx ((δ.set i (some (.val a))).set j (some (.val b))) | _ => False) e
def wRet (w : WE) : WS := fun D δ e => w δ D.rt e
def wRetN : WS := fun D _ _ => D.rt .non
/-- a list that nothing else knows is given back -/
def wRetF (w : WE) : WS := fun D δ e => w δ (fun d => match d with | .lst l => D.rf l | _ => False) e
def wIfS (c : WT) (a b : WS) : WS := fun D δ e => c δ (fun r => match r with | true => a D δ e | false => b D δ e) e
def forL (g : WG) (b : WS) (D : EndD) (e : Er → Prop) : List Dt → De → Prop
  | [], δ => D.nx δ
  | d :: ds, δ => g d δ fun δ' => b { nx := forL g b D e ds, rt := D.rt, bk := D.nx, ct := forL g b D e ds, rf := D.rf } δ' e
def wFor (wi : WI) (g : WG) (b : WS) : WS := fun D δ e => wi δ (fun items => forL g b D e items δ) e
/-- the list of the frame's own in a slot -/
def lookL : De → Nat → (List Dt → Prop) → Prop
  | [], _, _ => False
  | some (.own l) :: _, 0, k => k l
  | some (.val _) :: _, 0, _ => False
  | none :: _, 0, _ => False
  | _ :: r, n + 1, k => lookL r n k
theorem lookL_of : ∀ {δ : De} {i : Nat} {k : List Dt → Prop}, lookL δ i k → ∃ d, δ[i]? = some (some (.own d)) ∧ k d
  | [], _, _, h => h.elim
  | some (.own d) :: _, 0, _, h => ⟨d, rfl, h⟩
  | some (.val _) :: _, 0, _, h => h.elim
  | none :: _, 0, _, h => h.elim
  | some (.val d) :: r, n + 1, k, h => by
    obtain ⟨e, h1, h2⟩ := lookL_of (δ := r) (i := n) (k := k) h
    exact ⟨e, by simpa using h1, h2⟩
  | some (.own d) :: r, n + 1, k, h => by
    obtain ⟨e, h1, h2⟩ := lookL_of (δ := r) (i := n) (k := k) h
    exact ⟨e, by simpa using h1, h2⟩
  | none :: r, n + 1, k, h => by
    obtain ⟨e, h1, h2⟩ := lookL_of (δ := r) (i := n) (k := k) h
    exact ⟨e, by simpa using h1, h2⟩
def wRetFO (i : Nat) : WS := fun D δ _ => lookL δ i D.rf
/-- x, xs = e, [..] -/
def wParO (i j : Nat) (wa wb : WE) : WS := fun D δ e => wa δ (fun a => wb δ (fun b => match b with | .lst l => D.nx ((δ.set i (some (.val a))).set j (some (.own l))) | _ => False) e) e
def wApp (i : Nat) (w : WE) : WS := fun D δ e => lookL δ i fun l => w δ (fun d => l.length < sizeLine ∧ D.nx (δ.set i (some (.own (l ++ [d]))))) e
/-- xs.extend(l) -/
def wExt (i : Nat) (w : WE) : WS := fun D δ e => lookL δ i fun l => w δ (fun d => match d with | .lst r => l.length + r.length ≤ sizeLine ∧ D.nx (δ.set i (some (.own (l ++ r)))) | _ => False) e
def wFrz (i : Nat) (b : WS) : WS := fun D δ e => lookL δ i fun l => b D (δ.set i (some (.val (.lst l)))) e
/-- name op= e, ints -/
def wAugI (f : Int → Int → Int) (i : Nat) (w : WE) : WS := fun D δ e => look δ i fun x => w δ (fun y => match x, y with | .int a, .int b => D.nx (δ.set i (some (.val (.int (f a b))))) | _, _ => False) e
/-- xs[j] = e, xs[j] op= e (ints), xs the frame's own -/
def setAt (l : List Dt) (i : Int) (d : Dt) : Option (List Dt) := if 0 ≤ i then (if i < l.length then some (l.set i.toNat d) else none) else if -(l.length : Int) ≤ i then some (l.set (i + l.length).toNat d) else none
def wSetIx (i : Nat) (wj w : WE) : WS := fun D δ e => lookL δ i fun l => w δ (fun d => wj δ (fun j => match j with | .int j => ∃ l', setAt l j d = some l' ∧ D.nx (δ.set i (some (.own l'))) | _ => False) e) e
def wAugIx (f : Int → Int → Int) (i : Nat) (wj w : WE) : WS := fun D δ e => lookL δ i fun l => wj δ (fun j => match j with | .int j => ∃ a, atD l j = some (.int a) ∧ w δ (fun d => match d with | .int b => ∃ l', setAt l j (.int (f a b)) = some l' ∧ D.nx (δ.set i (some (.own l'))) | _ => False) e | _ => False) e
section
variable {X : Cx} {S : Su} {E : XK} {w wa wj : WE} {a b : WS} {c : WT} {g : WG} {wi : WI} {x y : Expr} {st : Stmt} {body rest : List Stmt} {i j : Nat} {pos : Pos} {is : List Nat}
theorem xsNil : PSs X [] (tPS S E wNx) := pssTo pss_nil fun D σ H ⟨M, A, L, δ, DP, e, f, hw, a⟩ => a.nx L δ σ H .refl f hw
theorem xsNev : PS X st (tPS S E wNev) := psTo ps_never fun D σ H ⟨M, A, L, δ, DP, e, f, hw, a⟩ => hw
theorem xsCons (h1 : PS X st (tPS S E a)) (h2 : PSs X rest (tPS S E b)) : PSs X (st :: rest) (tPS S E (wSeq a b)) := pssTo (pss_cons h1 h2) fun D σ H ⟨M, A, L, δ, DP, e, f, hw, a⟩ =>
  ⟨M, A, L, δ, _, e, f, hw, fun L' δ' σ' H' s f' hk => ⟨M, A, L', δ', DP, e, f', hk, a.step s f'.mu⟩, a.rt, a.bk, a.ct, a.ex, a.rf⟩
theorem xsOne (h1 : PS X st (tPS S E a)) : PSs X [st] (tPS S E a) := pss_one h1
theorem xsFrz (h : PSs X body (tPS S E b)) : PSs X body (tPS S E (wFrz i b)) := pssTo h fun D σ H ⟨M, A, L, δ, DP, e, f, hw, a⟩ => by
  obtain ⟨l, e1, hk⟩ := lookL_of hw
  obtain ⟨L', f', s, _⟩ := f.freeze i e1
  exact ⟨M, A, L', _, DP, e, f', hk, a.step s f'.mu⟩
theorem xsEx (h : PE X x (tPW S E w)) (hs : swapsWith x none pos.line X.env = pure false := by rfl) : PS X (.Expr x pos) (tPS S E (wEx w)) := psTo (ps_expr h hs) fun D σ H ⟨M, A, L, δ, DP, e, f, hw, a⟩ =>
  ⟨M, A, L, δ, _, e, f, hw, fun v d H1 s m _ hk => a.nx L δ σ H1 s.wide (f.step s m) hk, a.ex.x⟩
theorem xsSet {n : Str} {pos' : Pos} (hN : X.N.Nodup) (hi : X.N[i]? = some n) (hx : Loc X.env.scope n) (h : PE X x (tP S E w)) (hs : swapsWith x (some (.Name n pos')) pos.line X.env = pure false := by rfl) (hf : X.fn n = true ∨ X.env.scope.names.lookup n = some .local := by first | exact .inl rfl | exact .inr rfl | assumption) :
    PS X (.Assign [.Name n pos'] x pos) (tPS S E (wSet i w)) := psTo (ps_set hN hi hx h hs hf) fun D σ H ⟨M, A, L, δ, DP, e, f, hw, a⟩ =>
  ⟨M, A, L, δ, _, e, f, hw, fun v d H1 s m hv hk => a.nx L _ _ H1 s.wide ((f.step s m).set i hv) hk, a.ex.x⟩
theorem ownT : ∀ D σ H, tPS S E (wOwn i w) D σ H → tAsg (tPF S E w) (gName i) D σ H := fun D σ H ⟨M, A, L, δ, DP, e, f, hw, a⟩ =>
  ⟨M, A, L, δ, _, e, f, hw, fun p vs ds H1 n s m ep hv hk => a.nx (p :: L) _ _ H1 ⟨fun b o nM nL q => s.keep b o nM (by simp) q, fun q hq => (List.mem_cons.mp hq).elim (fun z => .inr (by rw [z]; exact n)) .inl⟩ (f.setOwn i n s m ep hv) hk, a.ex.x⟩
theorem setT : ∀ D σ H, tPS S E (wSet i w) D σ H → tAsg (tP S E w) (gName i) D σ H := fun D σ H ⟨M, A, L, δ, DP, e, f, hw, a⟩ =>
  ⟨M, A, L, δ, _, e, f, hw, fun v d H1 s m hv hk => a.nx L _ _ H1 s.wide ((f.step s m).set i hv) hk, a.ex.x⟩
theorem xsOwn {n : Str} {pos' : Pos} (hN : X.N.Nodup) (hi : X.N[i]? = some n) (hx : Loc X.env.scope n) (h : PE X x (tPF S E w)) (hs : swapsWith x (some (.Name n pos')) pos.line X.env = pure false := by rfl) (hf : X.fn n = true ∨ X.env.scope.names.lookup n = some .local := by first | exact .inl rfl | exact .inr rfl | assumption) :
    PS X (.Assign [.Name n pos'] x pos) (tPS S E (wOwn i w)) := psTo (ps_set hN hi hx h hs hf) ownT
theorem xsAsg {tg : Expr} (h : PE X x (tP S E w)) (hg : PG X tg (tPG S is g)) (hs : swapsWithSole [tg] x pos.line X.env = pure false := by rfl) (hw : swappedStores [tg] x X.env = pure none := by rfl) (h1 : (assignEach [tg] X.env).map (·.2) = [assign tg X.env] := by rfl) : PS X (.Assign [tg] x pos) (tPS S E (wAsg w g)) :=
  psTo (ps_asg h hg hs hw h1) fun D σ H ⟨M, A, L, δ, DP, e, f, hw, a⟩ =>
  ⟨M, A, L, δ, _, e, f, hw, fun v d H1 s m hv hk => ⟨M, A, L, δ, d, DP.nx, f.step s m, hv, hk, fun σ' δ' f' _ hk' => a.nx L δ' σ' H1 s.wide f' hk'⟩, a.ex.x⟩
theorem xsPar {nx ny : Str} {wp : WA} {px py pt : Pos} {kt k2 pt2} (hc : X.calm = true) (hN : X.N.Nodup) (hi : X.N[i]? = some nx) (hj : X.N[j]? = some ny) (hij : i ≠ j)
    (hx : X.env.scope.names.lookup nx = some .local) (hy : X.env.scope.names.lookup ny = some .local) (ha : PA X [x, y] (tPA S E wp))
    (hw : swappedStores [.Tuple [.Name nx px, .Name ny py] kt pt] (.Tuple [x, y] k2 pt2) X.env = pure (some [nx, ny]))
    (hs : swapsWithSole [.Tuple [.Name nx px, .Name ny py] kt pt] (.Tuple [x, y] k2 pt2) pos.line X.env = pure false := by rfl) :
    PS X (.Assign [.Tuple [.Name nx px, .Name ny py] kt pt] (.Tuple [x, y] k2 pt2) pos) (tPS S E (wPar i j wp)) := psTo (ps_par hc hN hi hj hij hx hy ha hw hs) fun D σ H ⟨M, A, L, δ, DP, e, f, hw, a⟩ =>
  ⟨M, A, L, δ, _, e, f, hw, fun vs ds H1 s m hv hk => by
    match ds, hk with
    | [p, q], hk =>
      obtain ⟨v, ws, rfl, h1, r⟩ := hv.of_cons
      obtain ⟨u, us, rfl, h2, r2⟩ := r.of_cons
      rw [r2.of_nil]
      exact ⟨v, u, rfl, a.nx L _ _ H1 s.wide (((f.step s m).set i h1).set j h2) hk⟩, a.ex.x⟩
theorem xsRet (h : PE X x (tPW S E w)) : PS X (.Return (some x) pos) (tPS S E (wRet w)) := psTo (ps_ret h) fun D σ H ⟨M, A, L, δ, DP, e, f, hw, a⟩ =>
  ⟨M, A, L, δ, _, e, f, hw, fun v d H1 s m hv hk => a.rt L v d H1 s.wide m (hv.out f.dis) hk, a.ex.x⟩
theorem xsRetF (h : PE X x (tPF S E w)) : PS X (.Return (some x) pos) (tPS S E (wRetF w)) := psTo (ps_ret h) fun D σ H ⟨M, A, L, δ, DP, e, f, hw, a⟩ =>
  ⟨M, A, L, δ, _, e, f, hw, fun p vs ds H1 n s m ep hv hk => a.rf p vs ds H1 ⟨L, s.wide⟩ m (.inl n) ep (hv.same (hv_sub fun x hx => by
    rcases List.mem_cons.mp hx with z | z
    · rw [z]; exact List.mem_cons_self
    · exact List.mem_cons_of_mem _ (List.mem_append_right _ z))) hk, a.ex.x⟩
theorem xsRetFO (h : PE X x (tVar i)) : PS X (.Return (some x) pos) (tPS S E (wRetFO i)) := psTo (ps_ret h) fun D σ H ⟨M, A, L, δ, DP, e, f, hw, a⟩ => by
  obtain ⟨l, e1, hk⟩ := lookL_of hw
  obtain ⟨p, vs, e2, pL, e3, q⟩ := f.own i l e1
  exact ⟨.ref p, e2, a.rf p vs l H ⟨L, .refl⟩ f.mu (.inr pL) e3 (q.same (hv_sub fun x hx => by
    rcases List.mem_cons.mp hx with z | z
    · rw [z]; exact List.mem_append_left _ pL
    · exact List.mem_append_right _ z)) hk⟩
theorem xsIf {t : Expr} {p q : List Stmt} (hc : PT X t (tPT S E c)) (ha : PSs X p (tPS S E a)) (hb : PSs X q (tPS S E b)) : PS X (.If t p q pos) (tPS S E (wIfS c a b)) := psTo (ps_if hc ha hb) fun D σ H ⟨M, A, L, δ, DP, e, f, hw, ad⟩ =>
  ⟨M, A, L, δ, _, e, f, hw, fun r H1 s m hk => by
    cases r with
    | true => exact (if_pos rfl).mpr ⟨M, A, L, δ, DP, e, f.step s m, hk, ad.step s.wide m⟩
    | false => exact (if_neg Bool.false_ne_true).mpr ⟨M, A, L, δ, DP, e, f.step s m, hk, ad.step s.wide m⟩, ad.ex.x⟩
theorem xsFor {tg : Expr} (hp : PassesOwn (model X.prog X.w) X.A X.env X.xe) (hc : X.calm = true) (hi : PI X tg x (tPI S E wi)) (hg : PG X tg (tPG S is g)) (hb : PSs X body (tPS S E b)) (hs : ∀ y, foldedSetIterable x X.env y = pure y := by intro _; rfl) :
    PS X (.For tg x body [] pos) (tPS S E (wFor wi g b)) := psTo (ps_for hp hc hi hg hb hs) fun D σ H ⟨M, A, L, δ, DP, e, f, hw, ad⟩ =>
  ⟨M, A, L, δ, _, e, f, hw, fun J ds G H1 s1 m1 it hG hk => by
    refine ⟨fun i m σ' H' => m = ds.length - i ∧ i ≤ ds.length ∧ ∃ L' δ', Fr S M A L' σ' δ' H' ∧ Stp M L H L' H' ∧ G (L' ++ A) H' ∧ forL g b DP e (ds.drop i) δ', ⟨_, rfl, Nat.zero_le _, L, δ, f.step s1 m1, s1.wide, hG, hk⟩, ?_⟩
    rintro i m σ' H' ⟨rfl, hi, L', δ', f', s', g', hk'⟩
    have ad' := ad.step s' f'.mu
    by_cases hlt : i < ds.length
    · refine .inr ⟨it.goes i _ H' hlt g', fun σ2 H2 => ∃ L2 δ2, Fr S M A L2 σ2 δ2 H2 ∧ Stp M L H L2 H2 ∧ G (L2 ++ A) H2 ∧ forL g b DP e (ds.drop (i + 1)) δ2, fun σ2 H2 h2 => ⟨_, by omega, rfl, hlt, h2⟩, fun v H2 yy => ?_⟩
      obtain ⟨sx, hx⟩ := it.yields i _ H' v H2 (ds[i]) (List.getElem?_eq_getElem hlt) g' f'.hd yy
      rw [List.drop_eq_getElem_cons hlt] at hk'
      have f2 := f'.step (.of sx) (f'.mu.same sx)
      refine ⟨M, A, L', δ', ds[i], _, f2, hx, hk', fun σ3 δ3 f3 _ hk3 => ⟨M, A, L', δ3, _, e, f3, hk3, ?_⟩⟩
      have ad2 := ad'.step (Stp.of sx) f2.mu
      have s2 := s'.trans f'.mu (Stp.of sx)
      have nxt : ∀ L4 δ4 σ4 H4, Stp M L' H2 L4 H4 → Fr S M A L4 σ4 δ4 H4 → forL g b DP e (ds.drop (i + 1)) δ4 → ∃ L2 δ2, Fr S M A L2 σ4 δ2 H4 ∧ Stp M L H L2 H4 ∧ G (L2 ++ A) H4 ∧ forL g b DP e (ds.drop (i + 1)) δ2 := fun L4 δ4 σ4 H4 s4 f4 h4 =>
        ⟨L4, δ4, f4, s2.trans f2.mu s4, it.mono _ _ _ _ ((Go.hv (Go.of sx)).trans (s4.hv f.mA)) g', h4⟩
      exact ⟨nxt, ad2.rt, ad2.nx, nxt, ad2.ex, ad2.rf⟩
    · have ei : i = ds.length := by omega
      subst ei
      rw [List.drop_length] at hk'
      exact .inl ⟨it.stops _ H' g', ad'.nx L' δ' σ' H' .refl f' hk'⟩, ad.ex.x⟩
theorem xsApp {K : PySem.W.Frag} (h : PE X x (tBM K "list" rAppend (tVar i) (tCons (tP S E w) tNil))) (hs : swapsWith x none pos.line X.env = pure false := by rfl) : PS X (.Expr x pos) (tPS S E (wApp i w)) :=
  psTo (ps_expr h hs) fun D σ H ⟨M, A, L, δ, DP, e, f, hw, ad⟩ => by
  obtain ⟨l, e1, hw⟩ := lookL_of hw
  obtain ⟨p, vs, e2, pL, e3, q⟩ := f.own i l e1
  refine ⟨.ref p, e2, .inl ⟨rfl, vs, .inl (.inl e3)⟩, M, A, L, δ, _, e, f, hw, fun v d H1 s m hv hk => ?_, ad.ex.x⟩
  have e4 := s.keep p _ (f.notM pL) (by simp) e3
  obtain ⟨f2, s2⟩ := (f.step s m).chg i e1 e2 ((q.same ((Stp.wide s).hv f.mA)).app (.cons hv .nil))
  exact ⟨p, vs, v, rfl, rfl, e4, by rw [q.len]; exact hk.1, ad.nx L _ _ _ (s.wide.trans m s2) f2 hk.2⟩
theorem setAt_of {l l' : List Dt} {k : Int} {d : Dt} (h : setAt l k d = some l') {n : Nat} (hn : n = l.length) : ∃ j, ixN n k = some j ∧ l' = l.set j d := by
  subst hn
  unfold setAt at h
  unfold ixN
  split at h
  · rename_i h0
    rw [if_pos h0]
    split at h
    · rename_i h1
      rw [if_pos h1]
      cases h
      exact ⟨_, rfl, rfl⟩
    · cases h
  · rename_i h0
    rw [if_neg h0]
    split at h
    · rename_i h1
      rw [if_pos h1]
      cases h
      exact ⟨_, rfl, rfl⟩
    · cases h
theorem das_set {M : Mu} {H : Hp} {vs : List V} {ds : List Dt} {v : V} {d : Dt} (h : Das S M H vs ds) (hv : Da S M H v d) (j : Nat) : Das S M H (vs.set j v) (ds.set j d) :=
  ⟨by rw [List.length_set, List.length_set, h.len], fun i u c h1 h2 => by
    by_cases z : j = i
    · subst z
      have l1 : j < vs.length := by
        have := (List.getElem?_eq_some_iff.mp h1).1
        rwa [List.length_set] at this
      rw [List.getElem?_set_self l1] at h1
      rw [List.getElem?_set_self (by rw [← h.len]; exact l1)] at h2
      cases h1
      cases h2
      exact hv
    · rw [List.getElem?_set_ne z] at h1 h2
      exact h.all i u c h1 h2⟩
theorem xsSetIx {tg : Expr} (h : PE X x (tP S E w)) (hg : PG X tg (L2.gSub (tVar i) (tP S E wj) rSetL)) (hs : swapsWithSole [tg] x pos.line X.env = pure false := by rfl) (hw : swappedStores [tg] x X.env = pure none := by rfl) (h1 : (assignEach [tg] X.env).map (·.2) = [assign tg X.env] := by rfl) :
    PS X (.Assign [tg] x pos) (tPS S E (wSetIx i wj w)) := psTo (ps_asg h hg hs hw h1) fun D σ H ⟨M, A, L, δ, DP, e, f, hw, ad⟩ => by
  obtain ⟨l, e1, hw⟩ := lookL_of hw
  refine ⟨M, A, L, δ, _, e, f, hw, fun v d H1 s m hv hk => ?_, ad.ex.x⟩
  have f1 := f.step s m
  obtain ⟨p, vs, e2, pL, e3, q⟩ := f1.own i l e1
  refine ⟨.ref p, e2, M, A, L, δ, _, e, f1, hk, fun u c H2 s2 m2 hu hk2 => ?_, (ad.step s.wide m).ex.x⟩
  cases c with
  | int j =>
    obtain ⟨l', es, hk3⟩ := hk2
    obtain ⟨jj, ej, rfl⟩ := setAt_of es q.len
    have e4 := s2.keep p _ (f.notM pL) (by simp) e3
    obtain ⟨f2, s3⟩ := (f1.step s2 m2).chg i e1 e2 (das_set (q.same ((Stp.wide s2).hv f.mA)) (hv.same ((Stp.wide s2).hv f.mA)) jj)
    exact ⟨p, vs, j, jj, rfl, hu.int_eq, e4, ej, ad.nx L _ _ _ ((s.wide.trans m s2.wide).trans m2 s3) f2 hk3⟩
  | _ => exact hk2.elim
end
/-! ### defs -/
def wFn (N : Nat) (w : WS) : SpF := fun ds k _ => w { nx := fun _ => k .non, rt := k } (ds.map (fun d => some (.val d)) ++ List.replicate (N - ds.length) none) nE
theorem fr_start {S : Su} {M : Mu} {A : List Addr} {H : Hp} {vs : List V} {ds : List Dt} {n N : Nat} {ns : List Str} (hN : ns.length = N) (hd : Hd A H) (mA : ∀ x ∈ M, x.1 ∈ A) (m : MOk S M H) (h : Das S M (hv A H) vs ds) :
    Fr S M A [] (L2.start ns vs) (ds.map (fun d => some (.val d)) ++ List.replicate (N - ds.length) none) H := by
  have own : ∀ (i : Nat) (l : List Dt), (ds.map (fun d => some (Sl.val d)) ++ List.replicate (N - ds.length) none)[i]? ≠ some (some (Sl.own l)) := fun i l z => by
    rcases Nat.lt_or_ge i ds.length with y | y
    · rw [List.getElem?_append_left (by simpa using y), List.getElem?_map] at z
      cases q : ds[i]? with
      | none => rw [q] at z; cases z
      | some d => rw [q] at z; cases z
    · rw [List.getElem?_append_right (by simpa using y), List.getElem?_replicate] at z
      split at z <;> cases z
  refine ⟨?_, hd, fun p z => (by cases z), mA, m, fun i d e => ?_, fun i l e => absurd e (own i l), fun i j l _ _ e => absurd e (own i l)⟩
  · unfold L2.start
    rw [List.length_append, List.length_append, List.length_map, List.length_map, List.length_replicate, List.length_replicate, h.len, hN]
  · rcases Nat.lt_or_ge i ds.length with y | y
    · rw [List.getElem?_append_left (by simpa using y), List.getElem?_map] at e
      cases q : ds[i]? with
      | none => rw [q]
            at e; cases e
      | some d' =>
        rw [q] at e
        cases e
        obtain ⟨v, e1, hv⟩ := h.get q
        refine ⟨v, ?_, hv⟩
        unfold L2.start
        rw [List.getElem?_append_left (by rw [List.length_map, h.len]; exact y), List.getElem?_map, e1]
        rfl
    · rw [List.getElem?_append_right (by simpa using y), List.getElem?_replicate] at e
      split at e <;> cases e
theorem spW_len {S : Su} {n : Nat} {w : SpF} : ∀ vs H Q E, spW S n w vs H Q E → vs.length = n := fun _ _ _ _ ⟨_, _, _, _, _, l, _⟩ => l
theorem fnT {S : Su} {E' : XK} {w : WS} {ns : List Str} {vs : List V} {H : Hp} {Q : VK} {E : XK} {n : Nat} (h : spW S n (wFn ns.length w) vs H Q E) : tPS S E' w { nx := fun _ H' => Q .non H', rt := Q } (L2.start ns vs) H := by
  obtain ⟨M, A, ds, k, e, ln, hd, mA, m, hv, hw, a, ax⟩ := h
  refine ⟨M, A, [], _, _, nE, fr_start (n := n) rfl hd mA m hv, hw, ?_, ?_, fun _ _ _ _ _ _ z => z.elim, fun _ _ _ _ _ _ z => z.elim, fun _ _ _ _ _ _ _ _ z => z.elim, fun _ _ _ _ _ _ _ _ _ z => z.elim⟩
  · intro L' δ' σ' H' s f hk
    exact a .non .non H' ⟨fun b o n1 _ q => s.keep b o n1 (by simp) q, fun _ z => by cases z⟩ f.mu .non hk
  · intro L' v d H' s m' hv' hk
    exact a v d H' ⟨fun b o n1 _ q => s.keep b o n1 (by simp) q, fun _ z => by cases z⟩ m' hv' hk
/-- .. of a def that gives a list back which nothing else knows -/
def wFnF (N : Nat) (w : WS) : SpF := fun ds k _ => w { nx := fun _ => False, rt := fun _ => False, rf := fun l => k (.lst l) } (ds.map (fun d => some (.val d)) ++ List.replicate (N - ds.length) none) nE
def spWF (S : Su) (n : Nat) (w : SpF) : Sp := fun vs H Q E => ∃ (M : Mu) (A : List Addr) (ds : List Dt) (k : Dt → Prop) (e : Er → Prop), vs.length = n ∧ Hd A H ∧ (∀ x ∈ M, x.1 ∈ A) ∧ MOk S M H ∧ Das S M (hv A H) vs ds ∧ w ds k e ∧
  (∀ (p : Addr) (us : List V) (es : List Dt) (H' : Hp), H p = none → Stp M [] H [] H' → MOk S M H' → H' p = some (.lst us) → Das S M (hv (p :: A) H') us es → k (.lst es) → Q (.ref p) H')
theorem spWF_len {S : Su} {n : Nat} {w : SpF} : ∀ vs H Q E, spWF S n w vs H Q E → vs.length = n := fun _ _ _ _ ⟨_, _, _, _, _, l, _⟩ => l
theorem fnTF {S : Su} {E' : XK} {w : WS} {ns : List Str} {vs : List V} {H : Hp} {Q : VK} {E : XK} {n : Nat} (h : spWF S n (wFnF ns.length w) vs H Q E) : tPS S E' w { nx := fun _ H' => Q .non H', rt := Q } (L2.start ns vs) H := by
  obtain ⟨M, A, ds, k, e, ln, hd, mA, m, hv, hw, a⟩ := h
  refine ⟨M, A, [], _, _, nE, fr_start (n := n) rfl hd mA m hv, hw, fun _ _ _ _ _ _ z => z.elim, fun _ _ _ _ _ _ _ z => z.elim, fun _ _ _ _ _ _ z => z.elim, fun _ _ _ _ _ _ z => z.elim, fun _ _ _ _ _ _ _ _ z => z.elim, ?_⟩
  intro p us es H' ⟨L', s⟩ m' hp ep hv' hk
  exact a p us es H' (hp.elim id fun z => by cases z) ⟨fun b o n1 _ q => s.keep b o n1 (by simp) q, fun _ z => by cases z⟩ m' ep hv' hk
theorem spWF_mono {S : Su} {n : Nat} {w w' : SpF} (h : ∀ ds k e, ds.length = n → w' ds k e → w ds k e) : ∀ vs H Q E, spWF S n w' vs H Q E → spWF S n w vs H Q E := fun vs H Q E ⟨M, A, ds, k, e, ln, hd, mA, m, hv, hw, r⟩ =>
  ⟨M, A, ds, k, e, ln, hd, mA, m, hv, h ds k e (by rw [← hv.len, ln]) hw, r⟩
theorem spW_mono {S : Su} {n : Nat} {w w' : SpF} (h : ∀ ds k e, ds.length = n → w' ds k e → w ds k e) : ∀ vs H Q E, spW S n w' vs H Q E → spW S n w vs H Q E := fun vs H Q E ⟨M, A, ds, k, e, ln, hd, mA, m, hv, hw, r⟩ =>
  ⟨M, A, ds, k, e, ln, hd, mA, m, hv, h ds k e (by rw [← hv.len, ln]) hw, r⟩
section
variable {P : Program} {w : World} {K : PySem.W.Frag} {mg : Str
      → Option Value} {base : Heap}
theorem FnG.imp {CX : CXT} {k : Nat} {f : Addr} {fd : FuncData} {ps : List Str} {sp sp' : Sp} (F : FnG P w K mg base CX k f fd ps sp) (h : ∀ vs H Q E, sp' vs H Q E → sp vs H Q E) : FnG P w K mg base CX k f fd ps sp' :=
  ⟨fun vs H Q E q => F.args vs H Q E (h _ _ _ _ q), fun A outer s H given us vs Q E hr hq he hb hv hs => F.runs A outer s H given us vs Q E hr hq he hb hv (h _ _ _ _ hs)⟩
theorem CalG.imp {k : Nat} {x : Str} {sp sp' : Sp} {dvs : List V} (c : CalG P w K mg base k x sp dvs) (h : ∀ vs H Q E, sp' vs H Q E → sp vs H Q E) : CalG P w K mg base k x sp' dvs := by
  obtain ⟨f, fd, ps, ds, F, r⟩ := c.ex
  exact ⟨f, fd, ps, ds, F.imp h, r⟩
theorem Cal.imp {k : Nat} {x : Str} {sp sp' : Sp} {dvs : List V} (c : Cal P w K mg base k x sp dvs) (h : ∀ vs H Q E, sp' vs H Q E → sp vs H Q E) : Cal P w K mg base k x sp' dvs := by
  obtain ⟨f, fd, ps, ds, F, r⟩ := c.ex
  exact ⟨f, fd, ps, ds, FnOk.imp F h, r⟩
theorem Cal.g {k : Nat} {x : Str} {sp : Sp} {dvs : List V} (c : Cal P w K mg base k x sp dvs) : CalG P w K mg base k x sp dvs := by
  obtain ⟨f, fd, ps, ds, F, r⟩ := c.ex
  exact ⟨f, fd, ps, ds, FnG.of F, r⟩
/-- a def with plain parameters, by its body -/
theorem cal_of {S : Su} {x : Str} {st : Stmt} {N ps : List Str} {wb : WS} {k n : Nat} (DD : OwnDef K mg x st) (sc : FnScope N ps (defScope st)) (hn : n = ps.length)
    (bd : ∀ fd : FuncData, (∀ (f : Addr), Fun K x x st f fd → Binds K fd ps []))
    (body : ∀ (f : Addr) (cdv : Value) (A : Around) (outer : List Env) (s : Shared) (H : Hp) (E : XK), Room k (A.deeper (envOfC x (defScope st) s.heap.objs.size f cdv)) →
      PSs (cxOf CX0 P w K mg base N x (defScope st) f cdv A outer s H E).nox (defBody st) (tPS S E0' wb)) : Cal P w K mg base (k + 1) x (spW S n (wFn N.length wb)) [] := by
  obtain ⟨f, fd, F, hm⟩ := DD.ex
  exact ⟨f, fd, ps, [], F.ok sc (fun vs H Q E h => by rw [← hn]; exact spW_len vs H Q E h) (fun cdv A outer s H vs Q E hr h => ⟨_, body f cdv A outer s H E hr, fnT h⟩), hm, F.kp, bd fd f F, .nil⟩
/-- .. where nothing is being shown -/
theorem calG_of {S : Su} {x : Str} {st : Stmt} {N ps : List Str} {wb : WS} {k n : Nat} (DD : OwnDef K mg x st) (sc : FnScope N ps (defScope st)) (hn : n = ps.length)
    (bd : ∀ fd : FuncData, (∀ (f : Addr), Fun K x x st f fd → Binds K fd ps []))
    (body : ∀ (f : Addr) (cdv : Value) (A : Around) (outer : List Env) (s : Shared) (H : Hp) (E : XK), Room k (A.deeper (envOfC x (defScope st) s.heap.objs.size f cdv)) → A.guards = some [] →
      PSs (cxOf CX0 P w K mg base N x (defScope st) f cdv A outer s H E).nox (defBody st) (tPS S E0' wb)) : CalG P w K mg base (k + 1) x (spW S n (wFn N.length wb)) [] := by
  obtain ⟨f, fd, F, hm⟩ := DD.ex
  exact ⟨f, fd, ps, [], Fun_okG F sc (fun vs H Q E h => by rw [← hn]; exact spW_len vs H Q E h) (fun cdv A outer s H vs Q E hr hq h => ⟨_, body f cdv A outer s H E hr hq, fnT h⟩), hm, F.kp, bd fd f F, .nil⟩
end
end LW
set_option Elab.async false
set_option linter.all false
set_option maxRecDepth 100000
set_option maxHeartbeats 4000100
namespace LW
open L2 PySem.Spec PyProof.Rows PySem
/-- some of the items, by their places -/
def pickL {α : Type} (ix : List Nat) (xs : List α) : List α := ix.filterMap fun i => xs[i]?
theorem vals_at {xs : List V} {us : List Value} (h : Vals xs us) : ∀ i : Nat, (xs[i]? = none ∧ us[i]? = none) ∨ ∃ x u, xs[i]? = some x ∧ us[i]? = some u ∧ RelV x u := by
  induction h with
  | nil => intro i; exact .inl ⟨by simp, by simp⟩
  | cons r t ih =>
    intro i
    cases i with
    | zero => exact .inr ⟨_, _, rfl, rfl, r⟩
    | succ i => exact ih i
theorem vals_pick {xs : List V} {us : List Value} (h : Vals xs us) : ∀ ix : List Nat, Vals (pickL ix xs) (pickL ix us)
  | [] => .nil
  | i :: ix => by
    unfold pickL
    rw [List.filterMap_cons, List.filterMap_cons]
    rcases vals_at h i with ⟨a, b⟩ | ⟨x, u, a, b, r⟩
    · rw [a, b]; exact vals_pick h ix
    · rw [a, b]; exact .cons r (vals_pick h ix)
/-- a def that may be called by its name with keywords alone, ks in the order of the call; ix: where the parameters' values stand among them -/
structure CalP (P : Program) (w : World) (K : PySem.W.Frag) (mg : Str → Option Value) (base : Heap) (k : Nat) (x : Str) (ks : List Str) (ix : List Nat) (sp : Sp) : Prop where
  ex : ∃ (f : Addr) (fd : FuncData) (ps : List Str), FnOk P w K mg base CX0 k f fd ps sp ∧ mg x = some (.ref f) ∧ PySem.W.keepIn K (.ref f) = true ∧
    ∀ (s : Shared) (ws : List Value), K.In s.heap → (pickL ix ws).length = ps.length → ws.length = ks.length → BindsTo s fd ⟨[], ks.zip ws⟩ (ps.zip (pickL ix ws))
def tCallP (ix : List Nat) (n : Nat) (sp : Sp) (E : XK) (ta : TA) : TE := fun σ H Q => ta σ H fun vs H1 => vs.length = n ∧ sp (pickL ix vs) H1 Q E
end LW
set_option Elab.async false
set_option linter.all false
set_option maxRecDepth 100000
set_option maxHeartbeats 4000100
/-! calls of built-ins and of defs of one's own, fields, methods, told of plain data -/
namespace LW
open L2 PySem.Spec PyProof.Rows PySem
def intsOf : List Dt → Option (List Int)
  | [] => some []
  | .int i :: r => (intsOf r).map (i :: ·)
  | _ :: _ => none
theorem intsOf_map (l : List Int) : intsOf (l.map Dt.int) = some l := by
  induction l with
  | nil => rfl
  | cons a l ih => rw [List.map_cons, intsOf, ih]; rfl
theorem intsOf_eq : ∀ {l : List Dt} {ns : List Int}, intsOf l = some ns → l = ns.map Dt.int
  | [], ns, h => by cases h; rfl
  | .int i :: r, ns, h => by
    rw [intsOf] at h
    cases q : intsOf r with
    | none => rw [q] at h; cases h
    | some ms => rw [q] at h; cases h; rw [intsOf_eq q]; rfl
  | .non :: _, _, h => by cases h
  | .bl _ :: _, _, h => by cases h
  | .str _ :: _, _, h => by cases h
  | .lst _ :: _, _, h => by cases h
  | .tup _ :: _, _, h => by cases h
  | .dct :: _, _, h => by cases h
  | .ty _ :: _, _, h => by cases h
  | .tnk _ :: _, _, h => by cases h
  | .obj _ _ :: _, _, h => by cases h
  | .fn _ :: _, _, h => by cases h
/-! ### what the built-ins give -/
abbrev GC := List Dt → (Dt → Prop) → Prop
def gLen : GC
  | [.lst l], k => k (.int l.length)
  | [.tup l], k => k (.int l.length)
  | [.str x], k => x.length ≤ sizeLine ∧ k (.int x.length)
  | _, _ => False
def gAbs : GC
  | [.int i], k => k (.int (if i < 0 then -i else i))
  | _, _ => False
def gToInt : GC
  | [.int i], k => k (.int i)
  | [.bl b], k => k (.int (if b then 1 else 0))
  | _, _ => False
def gToBl : GC
  | [.int i], k => k (.bl (i != 0))
  | [.bl b], k => k (.bl b)
  | _, _ => False
def gToTup : GC
  | [.lst l], k => k (.tup l)
  | [.tup l], k => k (.tup l)
  | _, _ => False
def gToLst : GC
  | [.lst l], k => k (.lst l)
  | [.tup l], k => k (.lst l)
  | _, _ => False
def gSum : GC
  | [.lst l], k => ∃ ns, intsOf l = some ns ∧ k (.int ns.sum)
  | _, _ => False
def gMax2 : GC
  | [.int i, .int j], k => k (.int (if j > i then j else i))
  | _, _ => False
def gMin2 : GC
  | [.int i, .int j], k => k (.int (if j < i then j else i))
  | _, _ => False
def gMax : GC
  | [.lst l], k => ∃ ns, intsOf l = some ns ∧ ns ≠ [] ∧ ∀ m, m ∈ ns → (∀ y ∈ ns, y ≤ m) → k (.int m)
  | _, _ => False
def gMin : GC
  | [.lst l], k => ∃ ns, intsOf l = some ns ∧ ns ≠ [] ∧ ∀ m, m ∈ ns → (∀ y ∈ ns, m ≤ y) → k (.int m)
  | _, _ => False
def gGcd : GC
  | [.int i, .int j], k => k (.int ((Nat.gcd i.natAbs j.natAbs : Nat) : Int))
  | _, _ => False
/-- the name of a plain value's kind -/
def tyD : Dt → Option String
  | .non => some "NoneType"
  | .bl _ => some "bool"
  | .int _ => some "int"
  | .str _ => some "str"
  | .lst _ => some "list"
  | .tup _ => some "tuple"
  | .dct => some "dict"
  | _ => none
/-- isinstance(x, C), C a built-in class -/
def gIsi : GC
  | [x, .ty n], k => ∃ t b, tyD x = some t ∧ kitB t n = some b ∧ k (.bl b)
  | _, _ => False
section
variable {S : Su}
theorem pLen : CallP S (fun xs H Q => ∃ x n, xs = [x] ∧ LenV S.K x H n ∧ Q (.int n) H) gLen := by
  intro M L A H xs ds k Q hd m dis hx g a
  unfold gLen at g
  split at g
  · obtain ⟨v, rfl, hv⟩ := hx.one
    obtain ⟨p, vs, rfl, e1, q1⟩ := hv.list
    exact ⟨_, _, rfl, .inl ⟨vs, .inl (.inl e1), rfl⟩, by rw [q1.len]; exact a _ _ _ .refl m (.int _) g⟩
  · obtain ⟨v, rfl, hv⟩ := hx.one
    obtain ⟨p, vs, rfl, e1, q1⟩ := hv.tuple
    exact ⟨_, _, rfl, .inr ⟨vs, e1, rfl⟩, by rw [q1.len]; exact a _ _ _ .refl m (.int _) g⟩
  · obtain ⟨v, rfl, hv⟩ := hx.one
    rw [hv.str_eq]
    exact ⟨_, _, rfl, ⟨g.1, rfl⟩, a _ _ _ .refl m (.int _) g.2⟩
  · exact g.elim
theorem pAbs : CallP S (fun xs H Q => ∃ i, xs = [.int i] ∧ Q (.int (if i < 0 then -i else i)) H) gAbs := by
  intro M L A H xs ds k Q hd m dis hx g a
  unfold gAbs at g
  split at g
  · obtain ⟨v, rfl, hv⟩ := hx.one
    exact ⟨_, by rw [hv.int_eq], a _ _ _ .refl m (.int _) g⟩
  · exact g.elim
theorem ints_at {M : Mu} {L A : List Addr} {H : Hp} {v : V} {l : List Dt} {ns : List Int} (h : Dw S M L A H v (.lst l)) (e : intsOf l = some ns) : ∃ p, v = .ref p ∧ H p = some (.lst (ns.map V.int)) := by
  obtain ⟨p, vs, rfl, e1, q1⟩ := h.list
  rw [intsOf_eq e] at q1
  exact ⟨p, rfl, by rw [e1, q1.of_ints]⟩
theorem pSum : CallP S (rSum S.K) gSum := by
  intro M L A H xs ds k Q hd m dis hx g a
  unfold gSum at g
  split at g
  · obtain ⟨v, rfl, hv⟩ := hx.one
    obtain ⟨ns, e, hk⟩ := g
    obtain ⟨p, rfl, e1⟩ := ints_at hv e
    exact ⟨p, ns, rfl, .inl (.inl e1), a _ _ _ .refl m (.int _) hk⟩
  · exact g.elim
theorem pMax2 : CallP S (fun xs H Q => ∃ i j, xs = [.int i, .int j] ∧ Q (.int (if j > i then j else i)) H) gMax2 := by
  intro M L A H xs ds k Q hd m dis hx g a
  unfold gMax2 at g
  split at g
  · obtain ⟨v, u, rfl, hv, hu⟩ := hx.two
    exact ⟨_, _, by rw [hv.int_eq, hu.int_eq], a _ _ _ .refl m (.int _) g⟩
  · exact g.elim
theorem pMin2 : CallP S (fun xs H Q => ∃ i j, xs = [.int i, .int j] ∧ Q (.int (if j < i then j else i)) H) gMin2 := by
  intro M L A H xs ds k Q hd m dis hx g a
  unfold gMin2 at g
  split at g
  · obtain ⟨v, u, rfl, hv, hu⟩ := hx.two
    exact ⟨_, _, by rw [hv.int_eq, hu.int_eq], a _ _ _ .refl m (.int _) g⟩
  · exact g.elim
theorem pMax : CallP S (rMax S.K) gMax := by
  intro M L A H xs ds k Q hd m dis hx g a
  unfold gMax at g
  split at g
  · obtain ⟨v, rfl, hv⟩ := hx.one
    obtain ⟨ns, e, ne, hk⟩ := g
    obtain ⟨p, rfl, e1⟩ := ints_at hv e
    exact ⟨p, ns, rfl, .inl (.inl e1), List.length_pos_iff.mpr ne, fun mm h1 h2 => a _ _ _ .refl m (.int _) (hk mm h1 h2)⟩
  · exact g.elim
theorem pMin : CallP S (rMin S.K) gMin := by
  intro M L A H xs ds k Q hd m dis hx g a
  unfold gMin at g
  split at g
  · obtain ⟨v, rfl, hv⟩ := hx.one
    obtain ⟨ns, e, ne, hk⟩ := g
    obtain ⟨p, rfl, e1⟩ := ints_at hv e
    exact ⟨p, ns, rfl, .inl (.inl e1), List.length_pos_iff.mpr ne, fun mm h1 h2 => a _ _ _ .refl m (.int _) (hk mm h1 h2)⟩
  · exact g.elim
theorem pGcd : CallP S rGcd gGcd := by
  intro M L A H xs ds k Q hd m dis hx g a
  unfold gGcd at g
  split at g
  · obtain ⟨v, u, rfl, hv, hu⟩ := hx.two
    exact ⟨_, _, by rw [hv.int_eq, hu.int_eq], a _ _ _ .refl m (.int _) g⟩
  · exact g.elim
theorem ty_of {M : Mu} {L A : List Addr} {H : Hp} {v : V} {d : Dt} {t : String} (h : Dw S M L A H v d) (e : tyD d = some t) : TyX S.K H v (.type t) := by
  cases d with
  | non => cases e; rw [h.non_eq]; exact .base .non
  | bl b => cases e; rw [h.bl_eq]; exact .base (.bl b)
  | int b => cases e; rw [h.int_eq]; exact .base (.int b)
  | str b => cases e; rw [h.str_eq]; exact .base (.str b)
  | lst l =>
    cases e
    obtain ⟨p, vs, rfl, e1, _⟩ := h.list
    exact .base (.lst e1)
  | tup l =>
    cases e
    obtain ⟨p, vs, rfl, e1, _⟩ := h.tuple
    rcases e1 with (h | ⟨o, h⟩) | ⟨o, its, n, h, hc, _⟩
    · exact .base (.tup h)
    · exact .fTuple h
    · exact .kTuple h hc
  | dct =>
    cases e
    cases h.strong (fun l z => by cases z) with
    | dct e1 ne => exact .base (.dK (hv_le _ _ e1))
  | ty n => cases e
  | tnk n => cases e
  | obj n d => cases e
  | fn n => cases e
theorem pIsi : CallP S (rIsi S.K) gIsi := by
  intro M L A H xs ds k Q hd m dis hx g a
  unfold gIsi at g
  split at g
  · obtain ⟨v, u, rfl, hv, hu⟩ := hx.two
    obtain ⟨t, b, e1, e2, hk⟩ := g
    exact ⟨v, .ty _, .type t, .type _, b, by rw [hu.ty_eq], .ty _, ty_of hv e1, kit_ty e2, a _ _ _ .refl m (.bl _) hk⟩
  · exact g.elim
end
/-! ### the calls -/
section
variable {X : Cx} {S : Su} {E : XK} {x : Expr} {ws : WA} {r : List V → Hp → VK → Prop} {g : GC}
theorem xCB (h : PE X x (tCB r (tPAW S E ws))) (hp : CallP S r g) : PE X x (tP S E (wCal g ws)) := peTo h (calBT hp)
/-- a call of a def that raises nothing -/
def wCall0 (n : Nat) (f : SpF) (wa : WA) : WE := fun δ k e => wa δ (fun xs => xs.length = n ∧ f xs k nE) e
theorem call0T {f : SpF} {n : Nat} {E1 : XK} : ∀ σ H Q, tP S E (wCall0 n f ws) σ H Q → tCall (spW S n f) [] E1 (tPA S E ws) σ H Q := fun σ H Q ⟨M, A, L, δ, k, e, fr, hw, a, ax⟩ =>
  ⟨M, A, L, δ, _, e, fr, hw, fun vs ds H1 s1 m1 hv hk => by
    show spW S n f (vs ++ []) H1 Q E1
    rw [List.append_nil]
    exact ⟨M, L ++ A, ds, k, nE, by rw [hv.len]; exact hk.1, held_stp s1 m1 fr.hd, fun x hx => List.mem_append_right _ (fr.mA x hx), m1, hv, hk.2, fun v d H2 s2 m2 hd2 hk2 => a v d H2 (s1.trans m1 s2) m2 hd2 hk2, afx0⟩, ax⟩
theorem xCall0 {f : SpF} {n : Nat} {E1 : XK} (h : PE X x (tCall (spW S n f) [] E1 (tPA S E ws))) : PE X x (tP S E (wCall0 n f ws)) := peTo h call0T
/-- .. that gives a list back which nothing else knows -/
theorem xCallF {f : SpF} {n : Nat} {E1 : XK} (h : PE X x (tCall (spWF S n f) [] E1 (tPA S E ws))) : PE X x (tPF S E (wCall0 n f ws)) := peTo h fun σ H Q ⟨M, A, L, δ, k, e, fr, hw, a, ax⟩ =>
  ⟨M, A, L, δ, _, e, fr, hw, fun vs ds H1 s1 m1 hv hk => by
    show spWF S n f (vs ++ []) H1 Q E1
    rw [List.append_nil]
    exact ⟨M, L ++ A, ds, k, nE, by rw [hv.len]; exact hk.1, held_stp s1 m1 fr.hd, fun x hx => List.mem_append_right _ (fr.mA x hx), m1, hv, hk.2, fun p us es H2 n2 s2 m2 ep q2 hk2 => a p us es H2 (stp_free s1 m1 n2) (s1.trans m1 s2) m2 ep q2 hk2⟩, ax⟩
/-- a call by keywords -/
def wCallK (m n : Nat) (ix : List Nat) (f : SpF) (wa : WA) : WE := fun δ k e => wa δ (fun xs => xs.length = m ∧ (pickL ix xs).length = n ∧ f (pickL ix xs) k nE) e
theorem das_pick {M : Mu} {H : Hp} {vs : List V} {ds : List Dt} (h : Das S M H vs ds) : ∀ ix : List Nat, Das S M H (pickL ix vs) (pickL ix ds)
  | [] => .nil
  | i :: ix => by
    unfold pickL
    rw [List.filterMap_cons, List.filterMap_cons]
    cases q : ds[i]? with
    | none =>
      have : vs[i]? = none := List.getElem?_eq_none_iff.mpr (by rw [h.len]; exact List.getElem?_eq_none_iff.mp q)
      rw [this]
      exact das_pick h ix
    | some d =>
      obtain ⟨v, e, hv⟩ := h.get q
      rw [e]
      exact .cons hv (das_pick h ix)
theorem xCallK {f : SpF} {m n : Nat} {ix : List Nat} {E1 : XK} (h : PE X x (tCallP ix m (spW S n f) E1 (tPA S E ws))) : PE X x (tP S E (wCallK m n ix f ws)) := peTo h fun σ H Q ⟨M, A, L, δ, k, e, fr, hw, a, ax⟩ =>
  ⟨M, A, L, δ, _, e, fr, hw, fun vs ds H1 s1 m1 hv hk => ⟨by rw [hv.len]; exact hk.1, M, L ++ A, pickL ix ds, k, nE, by rw [(das_pick hv ix).len]; exact hk.2.1, held_stp s1 m1 fr.hd, fun x hx => List.mem_append_right _ (fr.mA x hx), m1, das_pick hv ix, hk.2.2,
    fun v d H2 s2 m2 hd2 hk2 => a v d H2 (s1.trans m1 s2) m2 hd2 hk2, afx0⟩, ax⟩
theorem xKNil : PK X [] (tPA S E wNil) := ⟨fun pos pins s σ H Q I ⟨M, A, L, δ, k, e, f, hw, a, ax⟩ => pk_nil.run pos pins s σ H Q I (a _ _ _ .refl f.mu .nil hw)⟩
theorem xKCons {kws : List Keyword} {wa : WE} {nm : Option Str} {kpos : Pos} (ha : PE X x (tP S E wa)) (hr : PK X kws (tPA S E ws)) : PK X (⟨nm, x, kpos⟩ :: kws) (tPA S E (wCons wa ws)) :=
  ⟨fun pos pins s σ H Q I ⟨M, A, L, δ, k, e, f, hw, a, ax⟩ => (pk_cons ha hr).run pos pins s σ H Q I
    ⟨M, A, L, δ, _, e, f, hw, fun v d H1 s1 m1 hv hk => ⟨M, A, L, δ, _, e, f.step s1 m1, hk, fun vs ds H2 s2 m2 hvs hk2 => a _ _ _ (s1.trans m1 s2) m2 (.cons (hv.same ((Stp.wide s2).hv f.mA)) hvs) hk2, ax.step s1 m1⟩, ax⟩⟩
/-! ### fields and methods of things of one's own -/
structure MetOk (S : Su) (k : Nat) (C : Addr) (m : Str) : Prop where
  get : ∀ (d : Dt) (H : Hp) (v : V), S.ob k d H v → ∃ a dx fs, v = .ref a ∧ H a = some (.ins C dx fs) ∧ fs.lookup m = none
def wFld (kd : Nat) (fv : Dt → Dt) (w : WE) : WE := fun δ k e => w δ (fun x => match x with | .obj j d => j = kd ∧ k (fv d) | _ => False) e
def wMth (kd n : Nat) (f : SpF) (w : WE) (wa : WA) : WE := fun δ k e => w δ (fun x => match x with | .obj j d => j = kd ∧ wa δ (fun xs => xs.length + 1 = n ∧ f (.obj j d :: xs) k nE) e | _ => False) e
theorem xMth {kd n : Nat} {C : Addr} {m : Str} {f : SpF} {w : WE} {y : Expr} {E1 : XK} (F : MetOk S kd C m) (h : PE X y (tMeth C m (spW S n f) [] E1 (tP S E w) (tPA S E ws))) : PE X y (tP S E (wMth kd n f w ws)) :=
  peTo h fun σ H Q ⟨M, A, L, δ, k, e, fr, hw, a, ax⟩ => ⟨M, A, L, δ, _, e, fr, hw, fun v d H1 s1 m1 hv hk => by
    cases d with
    | obj j d =>
      obtain ⟨rfl, hk⟩ := hk
      have hv0 := hv
      cases hv with
      | obj ho =>
        obtain ⟨p, dx, fs, rfl, e1, c1⟩ := F.get d _ _ ho
        refine ⟨p, dx, fs, rfl, hv_le _ _ e1, c1, M, A, L, δ, _, e, fr.step s1 m1, hk, fun vs ds H2 s2 m2 hvs hk2 => ?_, ax.step s1 m1⟩
        show spW S n f (V.ref p :: (vs ++ [])) H2 Q E1
        rw [List.append_nil]
        exact ⟨M, L ++ A, .obj j d :: ds, k, nE, by rw [List.length_cons, hvs.len]; exact hk2.1, held_stp (s1.trans m1 s2) m2 fr.hd, fun x hx => List.mem_append_right _ (fr.mA x hx), m2, .cons (hv0.same ((Stp.wide s2).hv fr.mA)) hvs, hk2.2,
          fun v d H3 s3 m3 hd3 hk3 => a v d H3 ((s1.trans m1 s2).trans m2 s3) m3 hd3 hk3, afx0⟩
    | _ => exact hk.elim, ax⟩
def wM1 (g : Dt → List Dt → (Dt → Prop) → Prop) (wo wa : WE) : WE := fun δ k e => wo δ (fun x => match x with | .str _ => wa δ (fun y => g x [y] k) e | _ => False) e
def wM0 (g : Dt → List Dt → (Dt → Prop) → Prop) (wo : WE) : WE := fun δ k e => wo δ (fun x => match x with | .str _ => g x [] k | _ => False) e
/-- xs[::-1] -/
def gRevL : Dt → (Dt → Prop) → Prop
  | .lst l, k => k (.lst l.reverse)
  | _, _ => False
end
/-! ### what a def makes of a lambda that gives or raises; a def that may raise, where it does not -/
def wGot (gv : Dt → (Dt → Prop) → Prop) (er : Er → (Dt → Prop) → Prop) (w : WE) : WE := fun δ k _ => w δ (fun d => gv d k) (fun x => er x k)
theorem a_wGot (gv : Dt → (Dt → Prop) → Prop) (er : Er → (Dt → Prop) → Prop) (w : WE) (δ : De) (k : Dt → Prop) (e : Er → Prop) : wGot gv er w δ k e = w δ (fun d => gv d k) (fun x => er x k) := Eq.trans rfl rfl
def noX (f : SpF) : SpF := fun ds k _ => f ds k nE
theorem a_noX (f : SpF) (ds : List Dt) (k : Dt → Prop) (e : Er → Prop) : noX f ds k e = f ds k nE := Eq.trans rfl rfl
/-! ### a < b < c < d -/
def wCh3 (g g' g'' : Dt → Dt → (Dt → Prop) → Prop) (wa wb wc wd : WE) : WE := fun δ k e => wa δ (fun x => wb δ (fun y => g x y fun z => match z with
  | .bl true => wc δ (fun u => g' y u fun z => match z with | .bl true => wd δ (fun t => g'' u t k) e | .bl false => k (.bl false) | _ => False) e
  | .bl false => k (.bl false) | _ => False) e) e
theorem a_wCh3 (g g' g'' : Dt → Dt → (Dt → Prop) → Prop) (wa wb wc wd : WE) (δ : De) (k : Dt → Prop) (e : Er → Prop) : wCh3 g g' g'' wa wb wc wd δ k e = wa δ (fun x => wb δ (fun y => g x y fun z => match z with
  | .bl true => wc δ (fun u => g' y u fun z => match z with | .bl true => wd δ (fun t => g'' u t k) e | .bl false => k (.bl false) | _ => False) e
  | .bl false => k (.bl false) | _ => False) e) e := Eq.trans rfl rfl
end LW
set_option Elab.async false
set_option linter.all false
set_option maxRecDepth 100000
set_option maxHeartbeats 4000100
/-! zip and enumerate of lists and tuples in any mixture; what else the texts want -/
namespace LW
open L2 PySem.Spec PyProof.Rows PySem
/-- a list (true) or a tuple (false) -/
def SqK (c : Bool) (K : PySem.W.Frag) (H : Hp) (a : Addr) (xs : List V) : Prop := match c with
  | true => SqL K H a xs
  | false => SqT K H a xs
def ItAt (c : Bool) (h : Heap) (it a : Addr) (i : Nat) : Prop := match c with
  | true => h.IsListIter it a i
  | false => h.IsTupleIter it a i
def IsSq (c : Bool) (h : Heap) (a : Addr) (its : Array Value) : Prop := match c with
  | true => h.IsList a its
  | false => h.IsTuple a its
theorem itAt_obj {c : Bool} {h : Heap} {it a : Addr} {i : Nat} (st : ItAt c h it a i) : ∃ o, h.get? it = some o ∧ ∀ v, o.data ≠ .cell v := by
  cases c
  · obtain ⟨o, e, _, d⟩ := st
    exact ⟨o, e, fun v z => by
          rw [d] at z; cases z⟩
  · obtain ⟨o, e, _, d⟩ := st
    exact ⟨o, e, fun v z => by
          rw [d] at z; cases z⟩
theorem itAt_keep {c : Bool} {h h' : Heap} {it a : Addr} {i : Nat} (st : ItAt c h it a i) (k : ∀ o, h.get? it = some o → h'.get? it = some o) : ItAt c h' it a i := by
  cases c
  · exact Heap.IsTupleIter.at st k
  · exact Heap.IsListIter.at st k
theorem sq_inv {X : Cx} {pins : List (Addr × Obj)} {σ : L2.St} {H : Hp} {s : Shared} (I : Inv X pins σ H s) (c : Bool) {a : Addr} {xs : List V} (h : SqK c X.K H a xs) : ∃ its : List Value, Vals xs its ∧ IsSq c s.heap a its.toArray ∧ ∀ ys, SqK c X.K H a ys → ys = xs := by
  cases c
  · obtain ⟨its, rv, p, _⟩ := I.tuple h
    exact ⟨its, rv, p, fun ys hy => I.tuple_inj hy h⟩
  · obtain ⟨its, rv, p, _⟩ := I.list h
    exact ⟨its, rv, p.isList, fun ys hy => I.list_inj hy h⟩
def sqIter (c : Bool) (a : Addr) : Obj := match c with
  | true => { cls := .type "list_iterator", data := .fields #[.ref a, .int 0 0] }
  | false => { cls := .type "tuple_iterator", data := .fields #[.ref a, .int 0 0] }
theorem itAt_new {c : Bool} {h : Heap} {it a : Addr} (e : h.get? it = some (sqIter c a)) : ItAt c h it a 0 := by
  cases c
  · exact ⟨_, e, rfl, rfl⟩
  · exact ⟨_, e, rfl, rfl⟩
theorem sq_lt {c : Bool} {h : Heap} {a : Addr} {its : Array Value} (e : IsSq c h a its) : a < h.objs.size := by
  cases c
  · obtain ⟨o, e, _⟩ := e; exact Heap.lt_size e
  · obtain ⟨o, e, _⟩ := e; exact Heap.lt_size e
/-! ### as walks of plain data -/
section
variable {S : Su} {M : Mu}
theorem sqK_full {c : Bool} {B : List Addr} {K : PySem.W.Frag} {H : Hp} {a : Addr} {xs : List V} (h : SqK c K (hv B H) a xs) : SqK c K H a xs := by
  cases c
  · exact sqT_full h
  · exact sqL_full h
theorem sqK_same {c : Bool} {K : PySem.W.Frag} {H H' : Hp} {a : Addr} {xs : List V} (s : Same H H') (h : SqK c K H a xs) : SqK c K H' a xs := by
  cases c
  · exact seqT_same s h
  · exact Same.seq s h
end
/-- the items of a list or tuple -/
def seqD : Dt → Option (List Dt)
  | .lst l => some l
  | .tup l => some l
  | _ => none
theorem seqD_of {d : Dt} {l : List Dt} (h : seqD d = some l) : d = .lst l ∨ d = .tup l := by
  cases d <;> cases h
  · exact .inl rfl
  · exact .inr rfl
def wZipU (wa wb : WE) : WI := fun δ k e => wa δ (fun x => wb δ (fun y => ∃ l r, seqD x = some l ∧ seqD y = some r ∧ k (zipped l r)) e) e
/-- enumerate over a list or a tuple -/
def iEnumU (K : PySem.W.Frag) (ta : TA) : TI := fun σ H R => ta σ H fun vs H1 => (∃ a xs, vs = [.ref a] ∧ SqL K H1 a xs ∧ R (Ite K a) H1) ∨ ∃ a xs, vs = [.ref a] ∧ SqT K H1 a xs ∧ R (Itet K a) H1
section
variable {X : Cx} {S : Su} {E : XK} {tg x y z : Expr} {w wa wb wc : WE} {p pos : Pos} {elts : List Expr} {kk : Nat} {tpos : Pos}
theorem pi_enumU (hg : Gl X "enumerate") (hm : X.mg "enumerate" = none) {ta : TA} (ha : PA X [x] ta) (hs : starEach [x] X.env = [(false, eval x X.env)] := by rfl) :
    PI X (.Tuple elts kk tpos) (.Call (.Name "enumerate" p) [x] [] pos) (iEnumU X.K ta) := by
  refine ⟨fun pins s σ H
        R I h => ?_⟩
  refine Call_ (ld_blt I hg hm boot_enumerate (PyProof.Rows.callWith_type1 (thn (ha.run pos pins s σ H _
        I h) fun us s1 ⟨vs, H1, I1, r1, q1⟩ => ?_) hs rfl))
  have fr : ∀ b ∈ [s1.heap.objs.size + 1, s1.heap.objs.size], FpOk X pins H1 b := fun b hb => by
    have le : s1.heap.objs.size ≤ b := by
      rcases List.mem_cons.mp
            hb with z | z
      · rw [z]; exact Nat.le_succ _
      · rw [List.mem_singleton.mp z]; exact Nat.le_refl _
    exact I1.fpOk le (I1.hok.fresh le)
  rcases q1 with ⟨a, xs, ex, hq, q⟩ | ⟨a, xs, ex, hq, q⟩
  · subst ex
    obtain ⟨u, rfl, ru⟩
          := vals1 r1
    obtain rfl : u = Value.ref
          a := ru
    obtain ⟨its, rv, p', hz⟩
          := I1.list hq
    exact call_enumerate_list p'.isList fun h' he hit hsz hk => wpAny_pyIter_enum he
      ⟨s1.heap.objs.size + 1, [s1.heap.objs.size + 1, s1.heap.objs.size], _, _, H1, rfl, I1.kept (t' := s1.toks) hk, turn_enum a (s1.heap.objs.size + 1) s1.heap.objs.size, ⟨⟨.none, he⟩, hit, Nat.succ_ne_self _⟩, fr, q⟩
  · subst ex
    obtain ⟨u, rfl, ru⟩
          := vals1 r1
    obtain rfl : u = Value.ref
          a := ru
    obtain ⟨its, rv, tp, hz⟩ := I1.tuple hq
    exact call_enumerate_tuple (items := its.toArray) tp fun h' he hit hk => wpAny_pyIter_enum he
      ⟨s1.heap.objs.size + 1, [s1.heap.objs.size + 1, s1.heap.objs.size], _, _, H1, rfl, I1.kept (t' := s1.toks) hk, turn_enumT a (s1.heap.objs.size + 1) s1.heap.objs.size, ⟨⟨.none, he⟩, hit, Nat.succ_ne_self _⟩, fr, q⟩
def wEnumU (w : WE) : WI := fun δ k e => w δ (fun d => ∃ l, seqD d = some l ∧ k (numbered 0 l)) e
theorem xEnum (hg : Gl X "enumerate") (hm : X.mg "enumerate" = none) (h : PE X x (tP S E w)) (hs : starEach [x] X.env = [(false, eval x X.env)] := by rfl) (hs2 : starEach [x] X.env = (false, eval x X.env) :: starEach [] X.env := by rfl) (hK : X.K = S.K := by rfl) :
    PI X (.Tuple elts kk tpos) (.Call (.Name "enumerate" p) [x] [] pos) (tPI S E (wEnumU w)) :=
  piTo (pi_enumU hg hm (pa_cons h pa_nil hs2) hs) fun σ H R ⟨M, A, L, δ, k, e, f, hw, a, ax⟩ =>
  ⟨M, A, L, δ, _, e, f, hw, fun v d H1 s1 m1 hv hk => by
    rw [hK]
    obtain ⟨l, e1, hk⟩ := hk
    rcases seqD_of e1 with rfl | rfl
    · obtain ⟨q, vs, rfl, sq, all⟩ := hv.list
      exact .inl ⟨q, vs, rfl, .inl (.inl (hv_le _ _ sq)), a _ _ _ H1 s1 m1 (itS_enum vs all.len) ⟨sq, all⟩ hk⟩
    · obtain ⟨q, vs, rfl, sq, all⟩ := hv.tuple
      exact .inr ⟨q, vs, rfl, sqT_full sq, a _ _ _ H1 s1 m1 (itS_enumT vs all.len) ⟨sq, all⟩ hk⟩, ax⟩
def wEnumL (w : WE) : WI := fun δ k e => w δ (fun d => ∃ l, seqD d = some l ∧ (match d with | .lst _ => True | _ => False) ∧ k (numbered 0 l)) e
def wRevU (w : WE) : WI := fun δ k e => w δ (fun d => ∃ l, seqD d = some l ∧ k l.reverse) e
end
/-! ### y = [.. for ..] -/
section
variable {X : Cx} {S : Su} {E : XK} {st : Stmt} {wi : WI} {g : WG} {wt : WT} {we : WE} {is vs : List Nat} {i : Nat}
theorem xsLcOwn (h : PS X st (tAsg (tLc (tPIC S E wi) (tPG S is g) (tPT S E0' wt) (tP S E0' we) vs) (gName i))) (his : ∀ i ∈ is, i ∈ vs) : PS X st (tPS S E (wOwn i (wLc vs wi g wt we))) :=
  psTo h fun D σ H q => lcT his _ _ _ (ownT D σ H q)
theorem xsLcSet (h : PS X st (tAsg (tLc (tPIC S E wi) (tPG S is g) (tPT S E0' wt) (tP S E0' we) vs) (gName i))) (his : ∀ i ∈ is, i ∈ vs) : PS X st (tPS S E (wSet i (wLc vs wi g wt we))) :=
  psTo h fun D σ H q => lcT his _ _ _ (by
    obtain ⟨M, A, L, δ, k, e, f, hw, a, ax⟩ := setT D σ H q
    exact ⟨M, A, L, δ, k, e, f, hw, a.fresh f.hd, ax⟩)
end
end LW
set_option Elab.async false
set_option linter.all false
set_option maxRecDepth 100000
set_option maxHeartbeats
      1000000
/-! max(xs, default=n), xs a list of ints, maybe empty -/
namespace LW
open L2 PySem.Spec PyProof.Rows PySem
def wCalK (g : List Dt → List Dt → (Dt → Prop) → Prop) (wa wk : WA) : WE := fun δ k e => wa δ (fun xs => wk δ (fun zs => g xs zs k) e) e
end LW
set_option Elab.async false
set_option linter.all false
set_option maxRecDepth 100000
set_option maxHeartbeats 4000100
/-! set(xs) of a list of ints -/
set_option Elab.async false
set_option linter.all false
set_option maxRecDepth 100000
set_option maxHeartbeats 4000100
/-! x == y and x != y by a class's own __eq__, with either answer -/
set_option Elab.async false
set_option linter.all false
set_option maxRecDepth 100000
set_option maxHeartbeats 4000100
/-! str(o), o of an own class with its own __str__ -/
set_option Elab.async false
set_option linter.all false
set_option maxRecDepth 100000
set_option maxHeartbeats 4000100
/-! more built-ins on plain data: repr, sorted(set(..)), str and isinstance of things of one's own -/
namespace LW
open L2 PySem.Spec PyProof.Rows PySem
section
variable {X : Cx}
def rReprV (K : PySem.W.Frag) : List V → Hp → VK → Prop := fun xs H Q => ∃ (v : V) (d : PyData), xs = [v] ∧ D K H v d ∧ d.showable = true ∧ d.hasDict = false ∧ d.depth ≤ 60 ∧ d.shown.length ≤ sizeLine ∧ Q (.str d.shown) H
/-- repr(x), x data without dicts -/
theorem call_reprV (quiet : X.A.guards = some []) {k : Nat} (hr : Room k X.A) : CallR X (.builtin "repr") (rReprV X.K) := by
  intro pins s σ H xs
        us Q I r h
  obtain ⟨v, d, rfl, hd, hs, hn, hdep, hsz, q⟩ := h
  obtain ⟨u, rfl, ru⟩
        := vals1 r
  have un := hr.un
  have seq : ∀ a, v = .ref a → wpAny (model X.prog X.w) X.A (call (.builtin "repr") [u]) (EP X pins σ Q) X.xe s := fun a e => by
    subst e
    obtain rfl : u = Value.ref
          a := ru
    obtain ⟨as, rr⟩ := hd.reads I _ rfl
    refine repr_of_reads' rr hs (fun z => by rw [hn] at z; cases z) quiet (by omega) (fun _ _ e => e) (fun h' u tk hk => ?_) hsz
    exact ⟨.str d.shown, H, I.kept hk, ⟨_, rfl⟩, q⟩
  cases hd with
  | non => cases ru; exact P.repr_of_none ⟨.str _, H, I.tok _, ⟨_, rfl⟩, q⟩
  | bl b => cases ru; exact P.repr_of_bool ⟨.str _, H, I.tok _, ⟨_, rfl⟩, q⟩
  | int i =>
    obtain ⟨t, rfl⟩ := ru
    exact P.repr_of_int (of_decide_eq_true (by simpa [PyData.showable] using hs)) ⟨.str _, H, I.tok _, ⟨_, rfl⟩, q⟩
  | str x =>
    obtain ⟨t, rfl⟩ := ru
    exact P.repr_of_str ⟨.str _, H, I.tok _, ⟨_, rfl⟩, q⟩ hsz
  | lst h l a => exact seq _ rfl
  | tup h l a => exact seq _ rfl
  | dct h ne => exact seq _ rfl
end
/-- what plain data shows as -/
def gRepr : GC
  | [d], k => ∃ p, toPy d = some p ∧ p.showable = true ∧ p.hasDict = false ∧ p.depth ≤ 60 ∧ p.shown.length ≤ sizeLine ∧ k (.str p.shown)
  | _, _ => False
/-- isinstance(x, C), C a class of one's own, x one of its things -/
structure InsOk (S : Su) (kd : Nat) (n : Str) (C : Addr) : Prop where
  nm : S.mg n = some (.ref C)
  get : ∀ (d : Dt) (H : Hp) (v : V), S.ob kd d H v → ∃ a, v = .ref a ∧ TyX S.K H v (.ref C)
def gIsC (kd : Nat) (n : Str) : GC
  | [.obj j _, .fn x], k => j = kd ∧ x = n ∧ k (.bl true)
  | _, _ => False
section
variable {S : Su}
theorem pRepr : CallP S (rReprV S.K) gRepr := by
  intro M L A H xs ds k Q hd m dis hx g a
  unfold gRepr at g
  split at g
  · obtain ⟨v, rfl, hv⟩ := hx.one
    obtain ⟨p, e, h1, h2, h3, h4, hk⟩ := g
    exact ⟨v, p, rfl, hv.toD e, h1, h2, h3, h4, a _ _ _ .refl m (.str _) hk⟩
  · exact g.elim
theorem pIsC {kd : Nat} {n : Str} {C : Addr} (O : InsOk S kd n C) : CallP S (rIsi S.K) (gIsC kd n) := by
  intro M L A H xs ds k Q hd m dis hx g a
  unfold gIsC at g
  split at g
  · obtain ⟨v, u, rfl, hv, hu⟩ := hx.two
    obtain ⟨rfl, rfl, hk⟩ := g
    have kt : PySem.W.kitOne S.K (.ref C) (.ref C) = some true := by
      unfold PySem.W.kitOne
      rw [if_pos (by simp)]
    cases hu.strong (fun l z => by cases z) with
    | fn e r =>
      cases O.nm.symm.trans e
      have r : u = V.ref C := by cases u <;> first | (cases r; rfl) | (obtain ⟨_, z⟩ := r; exact nomatch z) | exact nomatch r
      subst r
      cases hv.strong (fun l z => by cases z) with
      | obj ho =>
        obtain ⟨p, rfl, ty⟩ := O.get _ H _ (S.obm hv_le ho)
        exact ⟨_, _, _, _, _, rfl, .own C, ty, kt, a _ _ _ .refl m (.bl _) hk⟩
  · exact g.elim
end
end LW
set_option Elab.async false
set_option linter.all false
set_option maxRecDepth 100000
set_option maxHeartbeats 4000100
/-! itertools.combinations(xs, r): its texts' facts, how it begins, what it hands out -/
namespace LW
open PySem PySem.Spec
open Sem (wp)
/-- the choices of r of these things, in order -/
def combL {α : Type} : List α → Nat → List (List α)
  | _, 0 => [[]]
  | [], _ + 1 => []
  | a :: l, r + 1 => (combL l r).map (a :: ·) ++ combL l (r + 1)
/-- the choice after this one -/
def nxt (n : Nat) (ix : List Nat) : Option (List Nat) :=
  match (List.range ix.length).reverse.find? (fun k => ix.getD k 0 != k + n - ix.length) with
  | none => none
  | some k => some (ix.take k ++ (List.range (ix.length - k)).map (ix.getD k 0 + 1 + ·))
open Builtin.Itertools
open L2 PyProof.Rows
/-! ### on plain data -/
section
variable {X : Cx} {S : Su} {E : XK} {tg x y : Expr} {wx wr : WE} {p pos : Pos} {nm : Str}
def wComb (wx wr : WE) : WI := fun δ k e => wx δ (fun x => wr δ (fun y => match x, y with | .lst l, .int r => 0 ≤ r ∧ r ≤ l.length ∧ l.length < 7 ∧ k ((combL l r.toNat).map Dt.tup) | _, _ => False) e) e
end
end LW
set_option Elab.async false
set_option linter.all false
set_option maxRecDepth 100000
set_option maxHeartbeats 4000100
/-! plain data: lists of the frame's own lent to a def; an int among ints -/
namespace LW
open L2 PySem.Spec PyProof.Rows PySem
/-- no thing by reference -/
def flatD : Dt → Bool
  | .non | .bl _ | .int _ | .str _ => true
  | _ => false
/-- a call that lends lists of the frame's own; a new list of flat things comes back -/
def wCallB (n : Nat) (f : SpF) (wa : WA) : WE := fun δ k e => wa δ (fun xs => xs.length = n ∧ f xs (fun d => (∃ l, d = .lst l ∧ l.all flatD = true) ∧ k d) nE) e
/-- an int among ints -/
def gInI (x y : Dt) (k : Dt → Prop) : Prop := match x with
  | .int i => ∃ l ns, seqD y = some l ∧ intsOf l = some ns ∧ k (.bl (decide (i ∈ ns)))
  | _ => False
theorem gInI_i (i : Int) (y : Dt) (k : Dt → Prop) : gInI (.int i) y k = ∃ l ns, seqD y = some l ∧ intsOf l = some ns ∧ k (.bl (decide (i ∈ ns))) := Eq.trans rfl rfl
def wAugC (c : Int → Int → Prop) (f : Int → Int → Int) (i : Nat) (w : WE) : WS := fun D δ e => look δ i fun x => w δ (fun y => match x, y with | .int a, .int b => c a b ∧ D.nx (δ.set i (some (.val (.int (f a b))))) | _, _ => False) e
end LW
set_option Elab.async false
set_option linter.all false
set_option maxRecDepth 100000
set_option maxHeartbeats 4000100
/-! plain data: each text's own rule, to lay it open -/
namespace LW
open L2 PySem.Spec PyProof.Rows PySem
theorem a_wV (i : Nat) (δ : De) (k : Dt → Prop) (z2 : Er → Prop) : wV i δ k z2 = (look δ i k) := Eq.trans rfl rfl
theorem a_wO (i : Nat) (δ : De) (k : Dt → Prop) (z2 : Er → Prop) : wO i δ k z2 = (lookO δ i k) := Eq.trans rfl rfl
theorem a_wC (d : Dt) (z0 : De) (k : Dt → Prop) (z2 : Er → Prop) : wC d z0 k z2 = (k d) := Eq.trans rfl rfl
theorem a_wBin (g : Dt → Dt → (Dt → Prop) → Prop) (wa wb : WE) (δ : De) (k : Dt → Prop) (e : Er → Prop) : wBin g wa wb δ k e = (wa δ (fun x => wb δ (fun y => g x y k) e) e) := Eq.trans rfl rfl
theorem a_wUn (g : Dt → (Dt → Prop) → Prop) (wa : WE) (δ : De) (k : Dt → Prop) (e : Er → Prop) : wUn g wa δ k e = (wa δ (fun x => g x k) e) := Eq.trans rfl rfl
theorem a_wCal (g : List Dt → (Dt → Prop) → Prop) (wa : WA) (δ : De) (k : Dt → Prop) (e : Er → Prop) : wCal g wa δ k e = (wa δ (fun x => g x k) e) := Eq.trans rfl rfl
theorem a_wTst (w : WE) (δ : De) (k : Bool → Prop) (e : Er → Prop) : wTst w δ k e = (w δ (fun d => match d with | .bl b => k b | _ => False) e) := Eq.trans rfl rfl
theorem a_wTru (w : WE) (δ : De) (k : Bool → Prop) (e : Er → Prop) : wTru w δ k e = (w δ (fun d => truD d k) e) := Eq.trans rfl rfl
theorem a_wAnd (wa wb : WT) (δ : De) (k : Bool → Prop) (e : Er → Prop) : wAnd wa wb δ k e = (wa δ (fun b => match b with | true => wb δ k e | false => k false) e) := Eq.trans rfl rfl
theorem a_wOr (wa wb : WT) (δ : De) (k : Bool → Prop) (e : Er → Prop) : wOr wa wb δ k e = (wa δ (fun b => match b with | true => k true | false => wb δ k e) e) := Eq.trans rfl rfl
theorem a_wNot (wa : WT) (δ : De) (k : Bool → Prop) (e : Er → Prop) : wNot wa δ k e = (wa δ (fun b => k (!b)) e) := Eq.trans rfl rfl
theorem a_wAndV (wa wb : WE) (δ : De) (k : Dt → Prop) (e : Er → Prop) : wAndV wa wb δ k e = (wa δ (fun d => match d with | .bl true => wb δ k e | .bl false => k (.bl false) | _ => False) e) := Eq.trans rfl rfl
theorem a_wOrV (wa wb : WE) (δ : De) (k : Dt → Prop) (e : Er → Prop) : wOrV wa wb δ k e = (wa δ (fun d => match d with | .bl true => k (.bl true) | .bl false => wb δ k e | _ => False) e) := Eq.trans rfl rfl
theorem a_wNotV (wa : WE) (δ : De) (k : Dt → Prop) (e : Er → Prop) : wNotV wa δ k e = (wa δ (fun d => match d with | .bl b => k (.bl (!b)) | _ => False) e) := Eq.trans rfl rfl
theorem a_wIf (wt : WT) (wa wb : WE) (δ : De) (k : Dt → Prop) (e : Er → Prop) : wIf wt wa wb δ k e = (wt δ (fun b => match b with | true => wa δ k e | false => wb δ k e) e) := Eq.trans rfl rfl
theorem a_wCh (g g' : Dt → Dt → (Dt → Prop) → Prop) (wa wb wc : WE) (δ : De) (k : Dt → Prop) (e : Er → Prop) : wCh g g' wa wb wc δ k e = (wa δ (fun x => wb δ (fun y => g x y fun z => match z with | .bl true => wc δ (fun u => g' y u k) e | .bl false => k (.bl false) | _ => False) e) e) := Eq.trans rfl rfl
theorem a_wNil  (z0 : De) (k : List Dt → Prop) (z2 : Er → Prop) : wNil z0 k z2 = (k []) := Eq.trans rfl rfl
theorem a_wCons (wa : WE) (wr : WA) (δ : De) (k : List Dt → Prop) (e : Er → Prop) : wCons wa wr δ k e = (wa δ (fun x => wr δ (fun xs => k (x :: xs)) e) e) := Eq.trans rfl rfl
theorem a_wStar (wa : WE) (wr : WA) (δ : De) (k : List Dt → Prop) (e : Er → Prop) : wStar wa wr δ k e = (wa δ (fun x => match x with | .tup l => wr δ (fun xs => k (l ++ xs)) e | .lst l => wr δ (fun xs => k (l ++ xs)) e | _ => False) e) := Eq.trans rfl rfl
theorem a_wTup (wa : WA) (δ : De) (k : Dt → Prop) (e : Er → Prop) : wTup wa δ k e = (wa δ (fun xs => xs.length ≤ sizeLine ∧ k (.tup xs)) e) := Eq.trans rfl rfl
theorem a_wLst (wa : WA) (δ : De) (k : Dt → Prop) (e : Er → Prop) : wLst wa δ k e = (wa δ (fun xs => xs.length ≤ sizeLine ∧ k (.lst xs)) e) := Eq.trans rfl rfl
theorem a_wCall (n : Nat) (f : SpF) (wa : WA) (δ : De) (k : Dt → Prop) (e : Er → Prop) : wCall n f wa δ k e = (wa δ (fun xs => xs.length = n ∧ f xs k e) e) := Eq.trans rfl rfl
theorem a_wNo  (z0 : De) (k : Option Int → Prop) (z2 : Er → Prop) : wNo z0 k z2 = (k none) := Eq.trans rfl rfl
theorem a_wPart (w : WE) (δ : De) (k : Option Int → Prop) (e : Er → Prop) : wPart w δ k e = (w δ (fun d => match d with | .int i => k (some i) | _ => False) e) := Eq.trans rfl rfl
theorem a_wSl (g : Dt → Option Int → Option Int → (Dt → Prop) → Prop) (wx : WE) (wl wh : WO) (δ : De) (k : Dt → Prop) (e : Er → Prop) : wSl g wx wl wh δ k e = (wx δ (fun x => wl δ (fun l => wh δ (fun h => g x l h k) e) e) e) := Eq.trans rfl rfl
theorem a_wgN (i : Nat) (d : Dt) (δ : De) (k : De → Prop) : wgN i d δ k = (k (δ.set i (some (.val d)))) := Eq.trans rfl rfl
theorem a_wgNil  (l : List Dt) (δ : De) (k : De → Prop) : wgNil l δ k = (l = [] ∧ k δ) := Eq.trans rfl rfl
theorem a_wgCons (g : WG) (r : WGs) (l : List Dt) (δ : De) (k : De → Prop) : wgCons g r l δ k = (match l with | d :: ds => g d δ fun δ' => r ds δ' k | [] => False) := Eq.trans rfl rfl
theorem a_wgT (n : Nat) (g : WGs) (d : Dt) (δ : De) (k : De → Prop) : wgT n g d δ k = (match d with | .tup l => l.length = n ∧ g l δ k | _ => False) := Eq.trans rfl rfl
theorem a_wRg1 (w : WE) (δ : De) (k : List Dt → Prop) (e : Er → Prop) : wRg1 w δ k e = (w δ (fun d => match d with | .int n => -(2 ^ 62) ≤ n ∧ n < 2 ^ 62 ∧ k (rgI 0 n.toNat) | _ => False) e) := Eq.trans rfl rfl
theorem a_wRg2 (wa wb : WE) (δ : De) (k : List Dt → Prop) (e : Er → Prop) : wRg2 wa wb δ k e = (wa δ (fun x => wb δ (fun y => match x, y with | .int i, .int j => (-(2 ^ 62) ≤ i ∧ i < 2 ^ 62 ∧ -(2 ^ 62) ≤ j ∧ j < 2 ^ 62) ∧ k (rgI i (j - i).toNat) | _, _ => False) e) e) := Eq.trans rfl rfl
theorem a_wRg3 (wa wb wc : WE) (δ : De) (k : List Dt → Prop) (e : Er → Prop) : wRg3 wa wb wc δ k e = (wa δ (fun x => wb δ (fun y => wc δ (fun z => match x, y, z with | .int i, .int j, .int c => ∃ n, RgC i j c n ∧ k (intsC i c n) | _, _, _ => False) e) e) e) := Eq.trans rfl rfl
theorem a_wYes  (z0 : De) (k : Bool → Prop) (z2 : Er → Prop) : wYes z0 k z2 = (k true) := Eq.trans rfl rfl
theorem a_wLc (vs : List Nat) (wi : WI) (g : WG) (wt : WT) (we : WE) (δ : De) (k : Dt → Prop) (e : Er → Prop) : wLc vs wi g wt we δ k e = (wi δ (fun items => items.length ≤ 10000000 ∧
    lcL (fun d k' => g d (wipeD δ vs) fun δ' => wt δ' (fun b => match b with | true => we δ' (fun y => k' (some y)) nE | false => k' none) nE) items [] (fun out => k (.lst out))) e) := Eq.trans rfl rfl
theorem a_wNx  (D : EndD) (δ : De) (z2 : Er → Prop) : wNx D δ z2 = (D.nx δ) := Eq.trans rfl rfl
theorem a_wSeq (a b : WS) (D : EndD) (δ : De) (e : Er → Prop) : wSeq a b D δ e = (a { D with nx := fun δ' => b D δ' e } δ e) := Eq.trans rfl rfl
theorem a_wBk  (D : EndD) (δ : De) (z2 : Er → Prop) : wBk D δ z2 = (D.bk δ) := Eq.trans rfl rfl
theorem a_wCt  (D : EndD) (δ : De) (z2 : Er → Prop) : wCt D δ z2 = (D.ct δ) := Eq.trans rfl rfl
theorem a_wEx (w : WE) (D : EndD) (δ : De) (e : Er → Prop) : wEx w D δ e = (w δ (fun _ => D.nx δ) e) := Eq.trans rfl rfl
theorem a_wSet (i : Nat) (w : WE) (D : EndD) (δ : De) (e : Er → Prop) : wSet i w D δ e = (w δ (fun d => D.nx (δ.set i (some (.val d)))) e) := Eq.trans rfl rfl
theorem a_wOwn (i : Nat) (w : WE) (D : EndD) (δ : De) (e : Er → Prop) : wOwn i w D δ e = (w δ (fun d => match d with | .lst l => D.nx (δ.set i (some (.own l))) | _ => False) e) := Eq.trans rfl rfl
theorem a_wAsg (w : WE) (g : WG) (D : EndD) (δ : De) (e : Er → Prop) : wAsg w g D δ e = (w δ (fun d => g d δ D.nx) e) := Eq.trans rfl rfl
theorem a_wPar (i j : Nat) (wa : WA) (D : EndD) (δ : De) (e : Er → Prop) : wPar i j wa D δ e = (wa δ (fun l => match l with | [a, b] => D.nx ((δ.set i (some (.val a))).set j (some (.val b))) | _ => False) e) := Eq.trans rfl rfl
theorem a_wRet (w : WE) (D : EndD) (δ : De) (e : Er → Prop) : wRet w D δ e = (w δ D.rt e) := Eq.trans rfl rfl
theorem a_wRetN  (D : EndD) (z1 : De) (z2 : Er → Prop) : wRetN D z1 z2 = (D.rt .non) := Eq.trans rfl rfl
theorem a_wRetF (w : WE) (D : EndD) (δ : De) (e : Er → Prop) : wRetF w D δ e = (w δ (fun d => match d with | .lst l => D.rf l | _ => False) e) := Eq.trans rfl rfl
theorem a_wIfS (c : WT) (a b : WS) (D : EndD) (δ : De) (e : Er → Prop) : wIfS c a b D δ e = (c δ (fun r => match r with | true => a D δ e | false => b D δ e) e) := Eq.trans rfl rfl
theorem a_wFor (wi : WI) (g : WG) (b : WS) (D : EndD) (δ : De) (e : Er → Prop) : wFor wi g b D δ e = (wi δ (fun items => forL g b D e items δ) e) := Eq.trans rfl rfl
theorem a_wRetFO (i : Nat) (D : EndD) (δ : De) (z2 : Er → Prop) : wRetFO i D δ z2 = (lookL δ i D.rf) := Eq.trans rfl rfl
theorem a_wParO (i j : Nat) (wa wb : WE) (D : EndD) (δ : De) (e : Er → Prop) : wParO i j wa wb D δ e = (wa δ (fun a => wb δ (fun b => match b with | .lst l => D.nx ((δ.set i (some (.val a))).set j (some (.own l))) | _ => False) e) e) := Eq.trans rfl rfl
theorem a_wApp (i : Nat) (w : WE) (D : EndD) (δ : De) (e : Er → Prop) : wApp i w D δ e = (lookL δ i fun l => w δ (fun d => l.length < sizeLine ∧ D.nx (δ.set i (some (.own (l ++ [d]))))) e) := Eq.trans rfl rfl
theorem a_wExt (i : Nat) (w : WE) (D : EndD) (δ : De) (e : Er → Prop) : wExt i w D δ e = (lookL δ i fun l => w δ (fun d => match d with | .lst r => l.length + r.length ≤ sizeLine ∧ D.nx (δ.set i (some (.own (l ++ r)))) | _ => False) e) := Eq.trans rfl rfl
theorem a_wFrz (i : Nat) (b : WS) (D : EndD) (δ : De) (e : Er → Prop) : wFrz i b D δ e = (lookL δ i fun l => b D (δ.set i (some (.val (.lst l)))) e) := Eq.trans rfl rfl
theorem a_wAugI (f : Int → Int → Int) (i : Nat) (w : WE) (D : EndD) (δ : De) (e : Er → Prop) : wAugI f i w D δ e = (look δ i fun x => w δ (fun y => match x, y with | .int a, .int b => D.nx (δ.set i (some (.val (.int (f a b))))) | _, _ => False) e) := Eq.trans rfl rfl
theorem a_wSetIx (i : Nat) (wj w : WE) (D : EndD) (δ : De) (e : Er → Prop) : wSetIx i wj w D δ e = (lookL δ i fun l => w δ (fun d => wj δ (fun j => match j with | .int j => ∃ l', setAt l j d = some l' ∧ D.nx (δ.set i (some (.own l'))) | _ => False) e) e) := Eq.trans rfl rfl
theorem a_wAugIx (f : Int → Int → Int) (i : Nat) (wj w : WE) (D : EndD) (δ : De) (e : Er → Prop) : wAugIx f i wj w D δ e = (lookL δ i fun l => wj δ (fun j => match j with | .int j => ∃ a, atD l j = some (.int a) ∧ w δ (fun d => match d with | .int b => ∃ l', setAt l j (.int (f a b)) = some l' ∧ D.nx (δ.set i (some (.own l'))) | _ => False) e | _ => False) e) := Eq.trans rfl rfl
theorem a_wFn (N : Nat) (w : WS) (ds : List Dt) (k : Dt → Prop) (z2 : Er → Prop) : wFn N w ds k z2 = (w { nx := fun _ => k .non, rt := k } (ds.map (fun d => some (.val d)) ++ List.replicate (N - ds.length) none) nE) := Eq.trans rfl rfl
theorem a_wFnF (N : Nat) (w : WS) (ds : List Dt) (k : Dt → Prop) (z2 : Er → Prop) : wFnF N w ds k z2 = (w { nx := fun _ => False, rt := fun _ => False, rf := fun l => k (.lst l) } (ds.map (fun d => some (.val d)) ++ List.replicate (N - ds.length) none) nE) := Eq.trans rfl rfl
theorem a_wCall0 (n : Nat) (f : SpF) (wa : WA) (δ : De) (k : Dt → Prop) (e : Er → Prop) : wCall0 n f wa δ k e = (wa δ (fun xs => xs.length = n ∧ f xs k nE) e) := Eq.trans rfl rfl
theorem a_wCallK (m n : Nat) (ix : List Nat) (f : SpF) (wa : WA) (δ : De) (k : Dt → Prop) (e : Er → Prop) : wCallK m n ix f wa δ k e = (wa δ (fun xs => xs.length = m ∧ (pickL ix xs).length = n ∧ f (pickL ix xs) k nE) e) := Eq.trans rfl rfl
theorem a_wFld (kd : Nat) (fv : Dt → Dt) (w : WE) (δ : De) (k : Dt → Prop) (e : Er → Prop) : wFld kd fv w δ k e = (w δ (fun x => match x with | .obj j d => j = kd ∧ k (fv d) | _ => False) e) := Eq.trans rfl rfl
theorem a_wMth (kd n : Nat) (f : SpF) (w : WE) (wa : WA) (δ : De) (k : Dt → Prop) (e : Er → Prop) : wMth kd n f w wa δ k e = (w δ (fun x => match x with | .obj j d => j = kd ∧ wa δ (fun xs => xs.length + 1 = n ∧ f (.obj j d :: xs) k nE) e | _ => False) e) := Eq.trans rfl rfl
theorem a_wM1 (g : Dt → List Dt → (Dt → Prop) → Prop) (wo wa : WE) (δ : De) (k : Dt → Prop) (e : Er → Prop) : wM1 g wo wa δ k e = (wo δ (fun x => match x with | .str _ => wa δ (fun y => g x [y] k) e | _ => False) e) := Eq.trans rfl rfl
theorem a_wM0 (g : Dt → List Dt → (Dt → Prop) → Prop) (wo : WE) (δ : De) (k : Dt → Prop) (e : Er → Prop) : wM0 g wo δ k e = (wo δ (fun x => match x with | .str _ => g x [] k | _ => False) e) := Eq.trans rfl rfl
theorem a_wZipU (wa wb : WE) (δ : De) (k : List Dt → Prop) (e : Er → Prop) : wZipU wa wb δ k e = (wa δ (fun x => wb δ (fun y => ∃ l r, seqD x = some l ∧ seqD y = some r ∧ k (zipped l r)) e) e) := Eq.trans rfl rfl
theorem a_wEnumU (w : WE) (δ : De) (k : List Dt → Prop) (e : Er → Prop) : wEnumU w δ k e = (w δ (fun d => ∃ l, seqD d = some l ∧ k (numbered 0 l)) e) := Eq.trans rfl rfl
theorem a_wEnumL (w : WE) (δ : De) (k : List Dt → Prop) (e : Er → Prop) : wEnumL w δ k e = (w δ (fun d => ∃ l, seqD d = some l ∧ (match d with | .lst _ => True | _ => False) ∧ k (numbered 0 l)) e) := Eq.trans rfl rfl
theorem a_wRevU (w : WE) (δ : De) (k : List Dt → Prop) (e : Er → Prop) : wRevU w δ k e = (w δ (fun d => ∃ l, seqD d = some l ∧ k l.reverse) e) := Eq.trans rfl rfl
theorem a_wCalK (g : List Dt → List Dt → (Dt → Prop) → Prop) (wa wk : WA) (δ : De) (k : Dt → Prop) (e : Er → Prop) : wCalK g wa wk δ k e = (wa δ (fun xs => wk δ (fun zs => g xs zs k) e) e) := Eq.trans rfl rfl
theorem a_wComb (wx wr : WE) (δ : De) (k : List Dt → Prop) (e : Er → Prop) : wComb wx wr δ k e = (wx δ (fun x => wr δ (fun y => match x, y with | .lst l, .int r => 0 ≤ r ∧ r ≤ l.length ∧ l.length < 7 ∧ k ((combL l r.toNat).map Dt.tup) | _, _ => False) e) e) := Eq.trans rfl rfl
theorem a_wCallB (n : Nat) (f : SpF) (wa : WA) (δ : De) (k : Dt → Prop) (e : Er → Prop) : wCallB n f wa δ k e = (wa δ (fun xs => xs.length = n ∧ f xs (fun d => (∃ l, d = .lst l ∧ l.all flatD = true) ∧ k d) nE) e) := Eq.trans rfl rfl
theorem a_wAugC (c : Int → Int → Prop) (f : Int → Int → Int) (i : Nat) (w : WE) (D : EndD) (δ : De) (e : Er → Prop) : wAugC c f i w D δ e = (look δ i fun x => w δ (fun y => match x, y with | .int a, .int b => c a b ∧ D.nx (δ.set i (some (.val (.int (f a b))))) | _, _ => False) e) := Eq.trans rfl rfl
theorem a_look0 (d : Dt) (δ : De) (k : Dt → Prop) : look (some (.val d) :: δ) 0 k = k d := Eq.trans rfl rfl
theorem a_lookS (x : Option Sl) (δ : De) (n : Nat) (k : Dt → Prop) : look (x :: δ) (n + 1) k = look δ n k := by
  cases x with
  | none => rfl
  | some s => cases s <;> rfl
theorem a_lookO0 (d : Dt) (δ : De) (k : Dt → Prop) : lookO (some (.val d) :: δ) 0 k = k d := Eq.trans rfl rfl
theorem a_lookO1 (l : List Dt) (δ : De) (k : Dt → Prop) : lookO (some (.own l) :: δ) 0 k = k (.lst l) := Eq.trans rfl rfl
theorem a_lookOS (x : Option Sl) (δ : De) (n : Nat) (k : Dt → Prop) : lookO (x :: δ) (n + 1) k = lookO δ n k := by
  cases x with
  | none => rfl
  | some s => cases s <;> rfl
theorem a_lookL0 (l : List Dt) (δ : De) (k : List Dt → Prop) : lookL (some (.own l) :: δ) 0 k = k l := Eq.trans rfl rfl
theorem a_lookLS (x : Option Sl) (δ : De) (n : Nat) (k : List Dt → Prop) : lookL (x :: δ) (n + 1) k = lookL δ n k := by
  cases x with
  | none => rfl
  | some s => cases s <;> rfl
theorem a_set0 {α : Type} (a b : α) (l : List α) : List.set (a :: l) 0 b = b :: l := Eq.trans rfl rfl
theorem a_setS {α : Type} (a b : α) (l : List α) (n : Nat) : List.set (a :: l) (n + 1) b = a :: List.set l n b := Eq.trans rfl rfl
theorem a_len0 {α : Type} : ([] : List α).length = 0 := Eq.trans rfl rfl
theorem a_lenS {α : Type} (a : α) (l : List α) : (a :: l).length = l.length + 1 := Eq.trans rfl rfl
theorem a_map0 {α β : Type} (f : α → β) : List.map f [] = [] := Eq.trans rfl rfl
theorem a_mapS {α β : Type} (f : α → β) (a : α) (l : List α) : List.map f (a :: l) = f a :: List.map f l := Eq.trans rfl rfl
theorem a_app0 {α : Type} (l : List α) : [] ++ l = l := Eq.trans rfl rfl
theorem a_appS {α : Type} (a : α) (l r : List α) : (a :: l) ++ r = a :: (l ++ r) := Eq.trans rfl rfl
end LW
set_option Elab.async false
set_option linter.all false
set_option maxRecDepth 100000
set_option maxHeartbeats 4000100
/-! plain data: calls by keyword, and the ways to work out what a text computes -/
namespace LW
open L2 PySem.Spec PyProof.Rows PySem
/-- as CalP, where nothing is being shown -/
structure CalPG (P : Program) (w : World) (K : PySem.W.Frag) (mg : Str → Option Value) (base : Heap) (k : Nat) (x : Str) (ks : List Str) (ix : List Nat) (sp : Sp) : Prop where
  ex : ∃ (f : Addr) (fd : FuncData) (ps : List Str), FnG P w K mg base CX0 k f fd ps sp ∧ mg x = some (.ref f) ∧ PySem.W.keepIn K (.ref f) = true ∧
    ∀ (s : Shared) (ws : List Value), K.In s.heap → (pickL ix ws).length = ps.length → ws.length = ks.length → BindsTo s fd ⟨[], ks.zip ws⟩ (ps.zip (pickL ix ws))
section
variable {X : Cx} {k j : Nat} {x : Str} {sp : Sp} {p pos : Pos} {kws : List Keyword} {tk : TA} {ks : List Str} {ix : List Nat}
theorem pe_ckPG (quiet : X.A.guards = some []) (cl : CalPG X.prog X.w X.K X.mg X.base k x ks ix sp) (hr : Room j X.A) (hk : k ≤ j) (hg : Gl X x) (hkw : PK X kws tk)
    (hdb : (x == ("__debug__" : Str)) = false := by decide)
    (hall : (backToKw pos (keywordEach kws X.env)).all (·.1.isSome) = true := by rfl)
    (hks : (backToKw pos (keywordEach kws X.env)).filterMap (·.1) = ks := by rfl)
    (hplain : ((backTo pos (starEach [] X.env)).any (·.1) || (backToKw pos (keywordEach kws X.env)).any (·.1.isNone)) = false := by rfl) :
    PE X (.Call (.Name x p) [] kws pos) (tCallP ix ks.length sp E0 tk) := by
  obtain ⟨f, fd, ps, F, m, kp, b⟩ := cl.ex
  constructor
  intro pins s σ H Q I h
  refine wpAny_Call_Name_kw (ld_glob I hg m ?_ hdb)
  refine PySem.W.callWith_KW0 (first := []) (h₀ := X.base) I.ok.mod.kin kp hall (thn (hkw.run pos pins s σ H _ I h) ?_) hplain
  rintro ws s2 ⟨zs, H2, I2, rz, ln, q2⟩
  refine ⟨I2.kIn, ?_⟩
  rw [hks]
  have rel := vals_pick rz ix
  have ln2 : (pickL ix ws).length = ps.length := by rw [← rel.length]; exact F.args _ _ _ _ q2
  refine wpAny_call (codeAny_mono (F.runs X.A X.stack s2 H2 ⟨[], ks.zip ws⟩ (pickL ix ws) (pickL ix zs) Q E0 (hr.mono hk) quiet I2.env0 (b s2 ws I2.kIn ln2 (by rw [← rz.length]; exact ln)) rel q2) ?_)
  intro res s' fin
  match res, fin with
  | .error er, fin => exact pass0 pins σ H2 s2 er s' I2 fin
  | .ok (.ret u), fin => exact I2.after fin
  | .ok .next, fin => exact fin.elim
  | .ok .brk, fin => exact fin.elim
  | .ok .cont, fin => exact fin.elim
end
section
variable {P : Program} {w : World} {K : PySem.W.Frag} {mg : Str
      → Option Value} {base : Heap}
theorem CalPG.imp {k : Nat} {x : Str} {ks : List Str} {ix : List Nat} {sp sp' : Sp} (c : CalPG P w K mg base k x ks ix sp) (h : ∀ vs H Q E, sp' vs H Q E → sp vs H Q E) : CalPG P w K mg base k x ks ix sp' := by
  obtain ⟨f, fd, ps, F, r⟩ := c.ex
  exact ⟨f, fd, ps, F.imp h, r⟩
theorem CalP.g {k : Nat} {x : Str} {ks : List Str} {ix : List Nat} {sp : Sp} (c : CalP P w K mg base k x ks ix sp) : CalPG P w K mg base k x ks ix sp := by
  obtain ⟨f, fd, ps, F, r⟩ := c.ex
  exact ⟨f, fd, ps, FnG.of F, r⟩
/-- what a def's body promises -/
def Bdy (P : Program) (w : World) (K : PySem.W.Frag) (mg : Str → Option Value) (base : Heap) (k : Nat) (x : Str) (st : Stmt) (N : List Str) (S : Su) (wb : WS) : Prop :=
  ∀ (f : Addr) (cdv : Value) (A : Around) (outer : List Env) (s : Shared) (H : Hp) (E : XK), Room k (A.deeper (envOfC x (defScope st) s.heap.objs.size f cdv)) → A.guards = some [] →
      PSs (cxOf CX0 P w K mg base N x (defScope st) f cdv A outer s H E).nox (defBody st) (tPS S E0' wb)
theorem calG_by {S : Su} {x : Str} {st : Stmt} {N ps : List Str} {wb : WS} {k n : Nat} (DD : OwnDef K mg x st) (sc : FnScope N ps (defScope st)) (hn : n = ps.length)
    (bd : ∀ fd : FuncData, (∀ (f : Addr), Fun K x x st f fd → Binds K fd ps [])) (body : Bdy P w K mg base k x st N S wb) : CalG P w K mg base (k + 1) x (spW S n (wFn N.length wb)) [] := calG_of DD sc hn bd body
/-- a def that gives a list back which nothing else knows -/
theorem calGF_by {S : Su} {x : Str} {st : Stmt} {N ps : List Str} {wb : WS} {k n : Nat} (DD : OwnDef K mg x st) (sc : FnScope N ps (defScope st)) (hn : n = ps.length)
    (bd : ∀ fd : FuncData, (∀ (f : Addr), Fun K x x st f fd → Binds K fd ps [])) (body : Bdy P w K mg base k x st N S wb) : CalG P w K mg base (k + 1) x (spWF S n (wFnF N.length wb)) [] := by
  obtain ⟨f, fd, F, hm⟩ := DD.ex
  exact ⟨f, fd, ps, [], Fun_okG F sc (fun vs H Q E h => by rw [← hn]; exact spWF_len vs H Q E h) (fun cdv A outer s H vs Q E hr hq h => ⟨_, body f cdv A outer s H E hr hq, fnTF h⟩), hm, F.kp, bd fd f F, .nil⟩
theorem calGF_never {S : Su} {x : Str} {st : Stmt} {ps : List Str} {k n : Nat} (DD : OwnDef K mg x st)
    (bd : ∀ fd : FuncData, (∀ (f : Addr), Fun K x x st f fd → Binds K fd ps [])) : CalG P w K mg base k x (spWF S n fun _ _ _ => False) [] := by
  obtain ⟨f, fd, F, hm⟩ := DD.ex
  exact ⟨f, fd, ps, [], ⟨fun vs H Q E ⟨_, _, _, _, _, _, _, _, _, _, hw, _⟩ => hw.elim, fun A outer s H given us vs Q E _ _ _ _ _ ⟨_, _, _, _, _, _, _, _, _, _, hw, _⟩ => hw.elim⟩, hm, F.kp, bd fd f F, .nil⟩
theorem calPG_by {S : Su} {x : Str} {st : Stmt} {N ps : List Str} {wb : WS} {k n : Nat} {ks : List Str} {ix : List Nat} (DD : OwnDef K mg x st) (sc : FnScope N ps (defScope st)) (hn : n = ps.length)
    (bd : ∀ (f : Addr) (fd : FuncData), Fun K x x st f fd → ∀ (s : Shared) (ws : List Value), (pickL ix ws).length = ps.length → ws.length = ks.length → BindsTo s fd ⟨[], ks.zip ws⟩ (ps.zip (pickL ix ws)))
    (body : Bdy P w K mg base k x st N S wb) : CalPG P w K mg base (k + 1) x ks ix (spW S n (wFn N.length wb)) := by
  obtain ⟨f, fd, F, hm⟩ := DD.ex
  exact ⟨f, fd, ps, Fun_okG F sc (fun vs H Q E h => by rw [← hn]; exact spW_len vs H Q E h) (fun cdv A outer s H vs Q E hr hq h => ⟨_, body f cdv A outer s H E hr hq, fnT h⟩), hm, F.kp, fun s ws _ => bd f fd F s ws⟩
end
/-! ### loops -/
section
variable {g : WG} {b : WS} {D : EndD} {e : Er → Prop} {c : WT}
theorem forL_by (I : Nat → De → Prop) {items : List Dt} {δ : De} (h0 : I 0 δ)
    (step : ∀ (i : Nat) (d : Dt) (δ : De) (K : De → Prop), items[i]? = some d → I i δ → (∀ δ', I (i + 1) δ' → K δ') → g d δ fun δ' => b { nx := K, rt := D.rt, bk := D.nx, ct := K, rf := D.rf } δ' e)
    (fin : ∀ δ, I items.length δ → D.nx δ) : forL g b D e items δ := by
  have key : ∀ (l : List Dt) (i : Nat) (δ : De), items.drop i = l → i ≤ items.length → I i δ → forL g b D e l δ := by
    intro l
    induction l with
    | nil =>
      intro i δ el hi h
      have : i = items.length := by
        have := congrArg List.length el
        rw [List.length_drop] at this
        simp at this
        omega
      subst this
      exact fin _ h
    | cons d l ih =>
      intro i δ el hi h
      have lt : i < items.length := by
        have := congrArg List.length el
        rw [List.length_drop] at this
        simp at this
        omega
      rw [List.drop_eq_getElem_cons lt] at el
      injection el with e1 e2
      exact step i d δ _ (by rw [List.getElem?_eq_getElem lt, e1]) h fun δ' h' => ih (i + 1) δ' e2 lt h'
  exact key items 0 δ rfl (Nat.zero_le _) h0
variable {f : Dt → (Option Dt → Prop) → Prop} {k : List Dt → Prop}
theorem lcL_by (I : Nat → List Dt → Prop) {items : List Dt} {acc : List Dt} (h0 : I 0 acc)
    (step : ∀ (i : Nat) (d : Dt) (acc : List Dt) (K : Option Dt → Prop), items[i]? = some d → I i acc → (∀ o, I (i + 1) (match o with | some y => acc ++ [y] | none => acc) → K o) → f d K)
    (fin : ∀ acc, I items.length acc → k acc) : lcL f items acc k := by
  have key : ∀ (l : List Dt) (i : Nat) (acc : List Dt), items.drop i = l → i ≤ items.length → I i acc → lcL f l acc k := by
    intro l
    induction l with
    | nil =>
      intro i acc el hi h
      have : i = items.length := by
        have := congrArg List.length el
        rw [List.length_drop] at this
        simp at this
        omega
      subst this
      exact fin _ h
    | cons d l ih =>
      intro i acc el hi h
      have lt : i < items.length := by
        have := congrArg List.length el
        rw [List.length_drop] at this
        simp at this
        omega
      rw [List.drop_eq_getElem_cons lt] at el
      injection el with e1 e2
      exact step i d acc _ (by rw [List.getElem?_eq_getElem lt, e1]) h fun o h' => ih (i + 1) _ e2 lt h'
  exact key items 0 acc rfl (Nat.zero_le _) h0
/-- one value of each -/
theorem lcL_rel (R : Nat → Dt → Dt → Prop) {items : List Dt} (step : ∀ (i : Nat) (d : Dt) (K : Option Dt → Prop), items[i]? = some d → (∀ y, R i d y → K (some y)) → f d K)
    (fin : ∀ out : List Dt, out.length = items.length → (∀ (i : Nat) (d y : Dt), items[i]? = some d → out[i]? = some y → R i d y) → k out) : lcL f items [] k := by
  refine lcL_by (fun i acc => acc.length = i ∧ ∀ (j : Nat) (d y : Dt), items[j]? = some d → acc[j]? = some y → R j d y) ⟨rfl, fun j d y _ h => by simp at h⟩ (fun i d acc K hd hI hK => step i d K hd fun y hy => hK _ ⟨by rw [List.length_append, hI.1]; rfl, fun j d' y' h1 h2 => ?_⟩) fun acc h => fin acc h.1 h.2
  rcases Nat.lt_or_ge j acc.length with z | z
  · rw [List.getElem?_append_left z] at h2
    exact hI.2 j d' y' h1 h2
  · rw [List.getElem?_append_right z] at h2
    cases q : j - acc.length with
    | zero =>
      rw [q] at h2
      cases h2
      have : j = i := by have := hI.1; omega
      subst this
      rw [hd] at h1
      cases h1
      exact hy
    | succ n => rw [q] at h2; simp at h2
/-- the one value of each -/
theorem lcL_map (h : Dt → Dt) {items : List Dt} (step : ∀ (d : Dt) (K : Option Dt → Prop), d ∈ items → K (some (h d)) → f d K) (fin : k (items.map h)) : lcL f items [] k := by
  refine lcL_rel (fun _ d y => y = h d) (fun i d K hd hK => step d K (List.mem_of_getElem? hd) (hK _ rfl)) fun out hl ho => ?_
  have : out = items.map h := by
    refine List.ext_getElem (by rw [hl, List.length_map]) fun i h1 h2 => ?_
    rw [List.getElem_map]
    exact ho i _ _ (List.getElem?_eq_getElem (by rw [← hl]; exact h1)) (List.getElem?_eq_getElem h1)
  rw [this]
  exact fin
end
theorem shapedN (i : Int) : SeqAt.shaped (.int i) = true := by simp [SeqAt.shaped, PyData.canLay0, PyData.depth]
theorem shapedX {i : Str} (h : PyData.strOk i = true) : SeqAt.shaped (.str i) = true := by simp [SeqAt.shaped, PyData.canLay0, PyData.depth, h]
theorem gEq_of {x y : Dt} {p q : PyData} (e1 : toPy x = some p) (e2 : toPy y = some q) (s1 : SeqAt.shaped p = true) (s2 : SeqAt.shaped q = true) (k : Dt → Prop) : gEq x y k = k (.bl (PyData.eqv p q)) := by
  apply propext
  constructor
  · rintro ⟨b, ⟨p', q', a1, a2, _, _, rfl⟩, h⟩
    cases e1.symm.trans a1
    cases e2.symm.trans a2
    exact h
  · intro h
    exact ⟨_, ⟨p, q, e1, e2, s1, s2, rfl⟩, h⟩
theorem gNe_of {x y : Dt} {p q : PyData} (e1 : toPy x = some p) (e2 : toPy y = some q) (s1 : SeqAt.shaped p = true) (s2 : SeqAt.shaped q = true) (k : Dt → Prop) : gNe x y k = k (.bl (!PyData.eqv p q)) := by
  apply propext
  constructor
  · rintro ⟨b, ⟨p', q', a1, a2, _, _, rfl⟩, h⟩
    cases e1.symm.trans a1
    cases e2.symm.trans a2
    exact h
  · intro h
    exact ⟨_, ⟨p, q, e1, e2, s1, s2, rfl⟩, h⟩
theorem eqv_int (i j : Int) : PyData.eqv (.int i) (.int j) = decide (i = j) := by
  rw [PyData.eqv]
  exact Bool.eq_iff_iff.mpr (by simp)
theorem eqv_str (i j : Str) : PyData.eqv (.str i) (.str j) = decide (i = j) := by
  rw [PyData.eqv]
  exact Bool.eq_iff_iff.mpr (by simp)
theorem gEq_int (i j : Int) (k : Dt → Prop) : gEq (.int i) (.int j) k = k (.bl (decide (i = j))) := by rw [gEq_of (p := .int i) (q := .int j) rfl rfl (shapedN _) (shapedN _), eqv_int]
theorem gNe_int (i j : Int) (k : Dt → Prop) : gNe (.int i) (.int j) k = k (.bl (!decide (i = j))) := by rw [gNe_of (p := .int i) (q := .int j) rfl rfl (shapedN _) (shapedN _), eqv_int]
theorem gEq_str {i j : Str} (h : PyData.strOk i = true) (h2 : PyData.strOk j = true) (k : Dt → Prop) : gEq (.str i) (.str j) k = k (.bl (decide (i = j))) := by rw [gEq_of (p := .str i) (q := .str j) rfl rfl (shapedX h) (shapedX h2), eqv_str]
theorem gNe_str {i j : Str} (h : PyData.strOk i = true) (h2 : PyData.strOk j = true) (k : Dt → Prop) : gNe (.str i) (.str j) k = k (.bl (!decide (i = j))) := by rw [gNe_of (p := .str i) (q := .str j) rfl rfl (shapedX h) (shapedX h2), eqv_str]
theorem gIsi_of {d : Dt} {n t : String} {b : Bool} (h : tyD d = some t) (e : kitB t n = some b) (k : Dt → Prop) : gIsi [d, .ty n] k = k (.bl b) := by
  apply propext
  constructor
  · rintro ⟨t', b', h', e', hk⟩
    cases h.symm.trans h'
    cases e.symm.trans e'
    exact hk
  · exact fun hk => ⟨t, b, h, e, hk⟩
/-- the items that a walk meets -/
def itK (d : Dt) (k : List Dt → Prop) : Prop := match d with | .lst l => k l | .tup l => k l | .str x => k (signs x) | _ => False
theorem wIt_eq (w : WE) : wIt w = fun δ k e => w δ (fun d => itK d k) e := rfl
theorem itK_lst (l : List Dt) (k : List Dt → Prop) : itK (.lst l) k = k l := Eq.trans rfl rfl
theorem itK_tup (l : List Dt) (k : List Dt → Prop) : itK (.tup l) k = k l := Eq.trans rfl rfl
theorem itK_str (l : Str) (k : List Dt → Prop) : itK (.str l) k = k (signs l) := Eq.trans rfl rfl
theorem seqD_lst (l : List Dt) : seqD (.lst l) = some l := rfl
theorem seqD_tup (l : List Dt) : seqD (.tup l) = some l := rfl
section
variable (i j : Int) (a b : List Dt) (x y : Str) (k : Dt → Prop)
theorem gAdd_i : gAdd (.int i) (.int j) k = k (.int (i + j)) := Eq.trans rfl rfl
theorem gAdd_s : gAdd (.str x) (.str y) k = (x.length + y.length ≤ sizeLine ∧ k (.str (x ++ y))) := Eq.trans rfl rfl
theorem gAdd_l : gAdd (.lst a) (.lst b) k = (a.length + b.length ≤ sizeLine ∧ k (.lst (a ++ b))) := Eq.trans rfl rfl
theorem gAdd_t : gAdd (.tup a) (.tup b) k = (a.length + b.length ≤ sizeLine ∧ k (.tup (a ++ b))) := Eq.trans rfl rfl
theorem gCat_l : gCat (.lst a) (.lst b) k = (a.length + b.length ≤ sizeLine ∧ k (.lst (a ++ b))) := Eq.trans rfl rfl
theorem gSub_i : gSub (.int i) (.int j) k = k (.int (i - j)) := Eq.trans rfl rfl
theorem gMul_i : gMul (.int i) (.int j) k = (CMulW i j ∧ k (.int (i * j))) := Eq.trans rfl rfl
theorem gMul_l : gMul (.lst a) (.int j) k = (a.length ≤ 1000 ∧ -1000 ≤ j ∧ j ≤ 1000 ∧ k (.lst (List.replicate j.toNat a).flatten)) := Eq.trans rfl rfl
theorem gMul_t : gMul (.tup a) (.int j) k = (a ≠ [] ∧ a.length ≤ 1000 ∧ 2 ≤ j ∧ j ≤ 1000 ∧ k (.tup (List.replicate j.toNat a).flatten)) := Eq.trans rfl rfl
theorem gFdiv_i : gFdiv (.int i) (.int j) k = (CDivW i j ∧ k (.int (i / j))) := Eq.trans rfl rfl
theorem gMod_i : gMod (.int i) (.int j) k = (0 < j ∧ k (.int (i % j))) := Eq.trans rfl rfl
theorem gPow_i : gPow (.int i) (.int j) k = (CPow i j ∧ k (.int (i ^ j.toNat))) := Eq.trans rfl rfl
theorem gLt_i : gLt (.int i) (.int j) k = k (.bl (decide (i < j))) := Eq.trans rfl rfl
theorem gLe_i : gLe (.int i) (.int j) k = k (.bl (decide (i ≤ j))) := Eq.trans rfl rfl
theorem gGt_i : gGt (.int i) (.int j) k = k (.bl (decide (j < i))) := Eq.trans rfl rfl
theorem gGe_i : gGe (.int i) (.int j) k = k (.bl (decide (j ≤ i))) := Eq.trans rfl rfl
theorem gLen_l : gLen [.lst a] k = k (.int a.length) := Eq.trans rfl rfl
theorem gLen_t : gLen [.tup a] k = k (.int a.length) := Eq.trans rfl rfl
theorem gLen_s : gLen [.str x] k = (x.length ≤ sizeLine ∧ k (.int x.length)) := Eq.trans rfl rfl
theorem gAbs_i : gAbs [.int i] k = k (.int (if i < 0 then -i else i)) := Eq.trans rfl rfl
theorem gToInt_i : gToInt [.int i] k = k (.int i) := Eq.trans rfl rfl
theorem gToInt_b (c : Bool) : gToInt [.bl c] k = k (.int (if c then 1 else 0)) := Eq.trans rfl rfl
theorem gToBl_i : gToBl [.int i] k = k (.bl (i != 0)) := Eq.trans rfl rfl
theorem gToBl_b (c : Bool) : gToBl [.bl c] k = k (.bl c) := Eq.trans rfl rfl
theorem gToTup_l : gToTup [.lst a] k = k (.tup a) := Eq.trans rfl rfl
theorem gToTup_t : gToTup [.tup a] k = k (.tup a) := Eq.trans rfl rfl
theorem gToLst_l : gToLst [.lst a] k = k (.lst a) := Eq.trans rfl rfl
theorem gToLst_t : gToLst [.tup a] k = k (.lst a) := Eq.trans rfl rfl
theorem gMax2_i : gMax2 [.int i, .int j] k = k (.int (if j > i then j else i)) := Eq.trans rfl rfl
theorem gMin2_i : gMin2 [.int i, .int j] k = k (.int (if j < i then j else i)) := Eq.trans rfl rfl
theorem gNeg_i : gNeg (.int i) k = k (.int (-i)) := Eq.trans rfl rfl
theorem gSl_l (lo hi : Option Int) : gSl (.lst a) lo hi k = k (.lst (cutL a lo hi)) := Eq.trans rfl rfl
theorem gSl_t (lo hi : Option Int) : gSl (.tup a) lo hi k = (¬ (HT.sIx a.length 0 lo = 0 ∧ HT.sIx a.length a.length hi = a.length) ∧ k (.tup (cutL a lo hi))) := Eq.trans rfl rfl
theorem gSl_s (lo hi : Option Int) : gSl (.str x) lo hi k = (x.length ≤ sizeLine ∧ k (.str (Txt.slice x lo hi))) := Eq.trans rfl rfl
theorem gSlL_l (lo hi : Option Int) : gSlL (.lst a) lo hi k = k (.lst (cutL a lo hi)) := Eq.trans rfl rfl
theorem gRevL_l : gRevL (.lst a) k = k (.lst a.reverse) := Eq.trans rfl rfl
end
theorem rgI_len (lo : Int) (n : Nat) : (rgI lo n).length = n := by simp [rgI]
theorem rgI_at {lo : Int} {n i : Nat} {d : Dt} (h : (rgI lo n)[i]? = some d) : i < n ∧ d = .int (lo + (i : Nat)) := by
  unfold rgI at h
  obtain ⟨j, e, rfl⟩ := some_map h
  have hi : i < n := by
    have := (List.getElem?_eq_some_iff.mp e).1
    rwa [List.length_range] at this
  rw [List.getElem?_range hi] at e
  cases e
  exact ⟨hi, rfl⟩
theorem mem_ints {l : List Int} {d : Dt} (h : d ∈ l.map Dt.int) : ∃ i ∈ l, d = .int i := by
  obtain ⟨i, hi, e⟩ := List.mem_map.mp h
  exact ⟨i, hi, e.symm⟩
theorem map_of {α : Type} (f : α → Dt) {P : α → Prop} : ∀ {out : List Dt}, (∀ y ∈ out, ∃ z, y = f z ∧ P z) → ∃ zs : List α, out = zs.map f ∧ zs.length = out.length ∧ ∀ z ∈ zs, P z
  | [], _ => ⟨[], rfl, rfl, by simp⟩
  | y :: out, h => by
    obtain ⟨zs, e, l, hz⟩ := map_of f (out := out) fun y hy => h y (List.mem_cons_of_mem _ hy)
    obtain ⟨z, rfl, hp⟩ := h y List.mem_cons_self
    refine ⟨z :: zs, by rw [e, List.map_cons], by rw [List.length_cons, List.length_cons, l], fun x hx => ?_⟩
    rcases List.mem_cons.mp hx
          with rfl | hx
    · exact hp
    · exact hz x hx
/-- what each is told, place by place -/
theorem rel_mem {items out : List Dt} {R : Dt → Dt → Prop} (hl : out.length = items.length) (h : ∀ (i : Nat) (d y : Dt), items[i]? = some d → out[i]? = some y → R d y) : ∀ y ∈ out, ∃ d ∈ items, R d y := fun y hy => by
  obtain ⟨i, hi⟩ := List.getElem?_of_mem hy
  have lt := (List.getElem?_eq_some_iff.mp hi).1
  rw [hl] at lt
  exact ⟨items[i], List.getElem_mem lt, h i _ _ (List.getElem?_eq_getElem lt) hi⟩
theorem a_itK (w : WE) (δ : De) (k : List Dt → Prop) (e : Er → Prop) : wIt w δ k e = w δ (fun d => itK d k) e := by rw [wIt_eq]
theorem gIsN_n (k : Dt → Prop) : gIsN .non .non k = k (.bl true) := Eq.trans rfl rfl
theorem gIsN_b (b : Bool) (k : Dt → Prop) : gIsN (.bl b) .non k = k (.bl false) := Eq.trans rfl rfl
theorem gIsN_i (b : Int) (k : Dt → Prop) : gIsN (.int b) .non k = k (.bl false) := Eq.trans rfl rfl
theorem gIsN_s (b : Str) (k : Dt → Prop) : gIsN (.str b) .non k = k (.bl false) := Eq.trans rfl rfl
theorem gIsN_l (b : List Dt) (k : Dt → Prop) : gIsN (.lst b) .non k = k (.bl false) := Eq.trans rfl rfl
theorem gIsN_t (b : List Dt) (k : Dt → Prop) : gIsN (.tup b) .non k = k (.bl false) := Eq.trans rfl rfl
theorem gNotN_n (k : Dt → Prop) : gNotN .non .non k = k (.bl false) := Eq.trans rfl rfl
theorem gNotN_b (b : Bool) (k : Dt → Prop) : gNotN (.bl b) .non k = k (.bl true) := Eq.trans rfl rfl
theorem gNotN_i (b : Int) (k : Dt → Prop) : gNotN (.int b) .non k = k (.bl true) := Eq.trans rfl rfl
theorem gNotN_s (b : Str) (k : Dt → Prop) : gNotN (.str b) .non k = k (.bl true) := Eq.trans rfl rfl
theorem gNotN_l (b : List Dt) (k : Dt → Prop) : gNotN (.lst b) .non k = k (.bl true) := Eq.trans rfl rfl
theorem gNotN_t (b : List Dt) (k : Dt → Prop) : gNotN (.tup b) .non k = k (.bl true) := Eq.trans rfl rfl
end LW
set_option Elab.async false
set_option linter.all false
set_option maxRecDepth 100000
set_option maxHeartbeats 4000100
/-! a table of code objects as a changing thing -/
namespace LW
open L2 PySem.Spec PyProof.Rows PySem
def TabO (q : Str) (H : Hp) (o : HO) : Prop := ∃ ps : Array Value, o = .tbl ps ∧ TriplesOk ps.toList ∧ ∀ (pos : Pos) (cv : Value), codeAmong pos ps.toList = some cv → ∃ c, cv = .ref c ∧ H c = some (LamX.CodeO c q)
theorem TabO.mono {q : Str} {H H' : Hp} {o : HO} (s : ∀ b u, H b = some u → (∀ l, u ≠ .lst l) → (∀ l, u ≠ .tbl l) → (∀ C dx fs, u ≠ .ins C dx fs) → H' b = some u) (h : TabO q H o) : TabO q H' o := by
  obtain ⟨ps, e, t, a⟩ := h
  refine ⟨ps, e, t, fun pos cv hc => ?_⟩
  obtain ⟨c, e1, e2⟩ := a pos cv hc
  exact ⟨c, e1, s _ _ e2 (fun l z => by unfold LamX.CodeO at z; cases z) (fun l z => by unfold LamX.CodeO at z; cases z) fun C dx fs z => by unfold LamX.CodeO at z; cases z⟩
theorem TabO.of {q : Str} {H : Hp} {p : Addr} (h : LamX.TabS H p q) : ∃ o, H p = some o ∧ TabO q H o := by
  obtain ⟨ps, e, t, a⟩ := h
  exact ⟨_, e, ps, rfl, t, a⟩
end LW
set_option Elab.async false
set_option linter.all false
set_option maxRecDepth 100000
set_option maxHeartbeats 4000100
/-! g(lambda: body): only the one table changes -/
set_option Elab.async false
set_option linter.all false
set_option maxRecDepth 100000
set_option maxHeartbeats 4000100
/-! g(lambda: body), where nothing is being shown: the body's own context is quiet too -/
set_option Elab.async false
set_option linter.all false
set_option maxRecDepth 100000
set_option maxHeartbeats 4000100
/-! what data shows as: that it may be shown, how long it is, which signs it has -/
namespace LW
open L2 PySem.Spec PyProof.Rows PySem
def okS (x : Str) : Prop := ∀ c ∈ x.cps.toList, c < 0x110000
theorem okS.ok {x : Str} (h : okS x) : PyData.strOk x = true := by
  unfold PyData.strOk
  rw [Array.all_eq_true_iff_forall_mem]
  intro c hc
  exact decide_eq_true (h c (Array.mem_toList_iff.mpr hc))
theorem okS.of {x : Str} (h : PyData.strOk x = true) : okS x := fun c hc => by
  have := (Array.all_eq_true_iff_forall_mem.mp h) c (Array.mem_toList_iff.mp hc)
  simpa using this
theorem okS_char (c : Char) : c.toNat < 0x110000 := by
  have h := c.valid
  unfold UInt32.isValidChar Nat.isValidChar at h
  show c.val.toNat < _
  omega
theorem okS_s (s : String) : okS (Str.ofString s) := fun c hc => by
  rw [Str.ofString_eq_toList] at hc
  obtain ⟨x, _, rfl⟩ := List.mem_map.mp (by simpa using hc : c ∈ s.toList.map Char.toNat)
  exact okS_char x
theorem okS.app {x y : Str} (h : okS x) (g : okS y) : okS (x ++ y) := fun c hc => by
  have : c ∈ x.cps.toList ++ y.cps.toList := by
    have e : (x ++ y).cps = x.cps ++ y.cps := rfl
    rw [e, Array.toList_append] at hc
    exact hc
  rcases List.mem_append.mp this with z | z
  · exact h c z
  · exact g c z
theorem okS_nil : okS Str.empty := fun c hc => by simp [Str.empty] at hc
theorem okS_join {s : Str} (hs : okS s) : ∀ {l : List Str}, (∀ x ∈ l, okS x) → okS (Str.join s l)
  | [], _ => okS_nil
  | [x], h => h x (by simp)
  | x :: y :: r, h => ((h x (by simp)).app hs).app (okS_join hs (l := y :: r) fun z hz => h z (List.mem_cons_of_mem _ hz))
theorem okS_text : ∀ {l : List Str} {k : Nat} {acc : Str}, okS acc → (∀ x ∈ l, okS x) → okS (textFrom k acc l)
  | [], _, _, h, _ => h
  | x :: r, k, acc, h, g => okS_text (l := r) ((h.app (by split <;> exact okS_s _)).app (g x (by simp))) fun z hz => g z (List.mem_cons_of_mem _ hz)
theorem okS_list {l : List Str} (h : ∀ x ∈ l, okS x) : okS (listText l) := (okS_text (okS_s _) h).app (okS_s _)
theorem okS_tup {l : List Str} (h : ∀ x ∈ l, okS x) : okS (tupleText l) := ((okS_s _).app (okS_join (okS_s _) h)).app (by split <;> exact okS_s _)
theorem okC_repr {q c : Nat} (hc : c < 0x110000) : ∀ x ∈ Builtin.Str.reprChar q c, x < 0x110000 := by
  intro x hx
  have hex : ∀ n : Nat, ∀ y ∈ List.replicate (n - ((Nat.toDigits 16 c).map Char.toNat).length) 48 ++ (Nat.toDigits 16 c).map Char.toNat, y < 0x110000 := fun n y hy => by
    rcases List.mem_append.mp hy with z | z
    · rw [(List.mem_replicate.mp z).2]; decide
    · obtain ⟨d, _, rfl⟩ := List.mem_map.mp z
      exact okS_char d
  unfold Builtin.Str.reprChar at hx
  split at hx
  · simp at hx; omega
  split at hx
  · simp at hx; omega
  split at hx
  · simp at hx; omega
  split at hx
  · simp at hx; omega
  split at hx
  · simp at hx; omega
  split at hx
  · rcases List.mem_append.mp hx with z | z
    · simp at z; omega
    · exact hex 2 x z
  split at hx
  · rcases List.mem_append.mp hx with z | z
    · simp at z; omega
    · exact hex 4 x z
  · rcases List.mem_append.mp hx with z | z
    · simp at z; omega
    · exact hex 8 x z
theorem okS_repr {x : Str} (h : okS x) : okS (reprText x) := by
  have hq : reprQuote x < 0x110000 := by unfold reprQuote; split <;> decide
  have key : ∀ (l : List Nat) (acc : Array Nat), (∀ c ∈ l, c < 0x110000) → (∀ c ∈ acc.toList, c < 0x110000) → ∀ c ∈ (l.foldl (fun out c => out ++ (Builtin.Str.reprChar (reprQuote x) c).toArray) acc).toList, c < 0x110000 := by
    intro l
    induction l with
    | nil => intro acc _ h2 c hc; exact h2 c hc
    | cons a l ih =>
      intro acc h1 h2 c hc
      refine ih _ (fun c hc => h1 c (List.mem_cons_of_mem _ hc)) (fun c hc => ?_) c hc
      rw [Array.toList_append] at hc
      rcases List.mem_append.mp hc with z | z
      · exact h2 c z
      · exact okC_repr (h1 a (by simp)) c (by simpa using z)
  intro c hc
  unfold reprText at hc
  simp only [Array.toList_push, List.mem_append, List.mem_singleton] at hc
  rcases hc with hc | hc
  · rw [← Array.foldl_toList] at hc
    exact key _ _ h (fun c hc => by simp at hc; omega) c hc
  · omega
mutual
/-- data that may be shown: ints not too long, texts of signs, no dicts -/
def tame (B : Nat) : PyData → Bool
  | .none | .bool _ => true
  | .int i => decide (i.natAbs.log2 + 3 ≤ B)
  | .str x => PyData.strOk x
  | .list xs | .tuple xs => tames B xs
  | .dict _ => false
def tames (B : Nat) : List PyData → Bool
  | [] => true
  | x :: xs => tame B x && tames B xs
end
theorem int_lenB {i : Int} {B : Nat} (h : i.natAbs.log2 + 3 ≤ B) : (PyData.shown (.int i)).length ≤ B := by
  have h2 : i.natAbs < 2 ^ (i.natAbs.log2 + 1) := Nat.lt_log2_self
  show (Str.ofString (toString i)).length ≤ B
  have e := int_text_length_le (a := i) (k := i.natAbs.log2 + 1) (by omega) (Nat.lt_succ_self _)
  rw [PySem.ofString_length]
  omega
variable {B : Nat}
mutual
theorem tame_all (hB : B ≤ 1900) : ∀ {d : PyData}, tame B d = true → PyData.showable d = true ∧ d.hasDict = false ∧ d.canLay0 = true ∧ d.leavesShort B = true ∧ okS d.shown
  | .none, _ => ⟨rfl, rfl, rfl, rfl, okS_s _⟩
  | .bool b, _ => ⟨rfl, rfl, rfl, rfl, by cases b <;> exact okS_s _⟩
  | .int i, h => by
    have h := of_decide_eq_true (show decide (i.natAbs.log2 + 3 ≤ B) = true by simpa [tame] using h)
    exact ⟨decide_eq_true (by omega), rfl, rfl, decide_eq_true (int_lenB h), okS_s _⟩
  | .str x, h => ⟨rfl, rfl, h, by
      have h1 := okS.of h
      simp only [PyData.leavesShort, List.all_eq_true, decide_eq_true_eq]
      exact fun c hc => Nat.lt_trans (h1 c hc) (by decide), okS_repr (okS.of h)⟩
  | .list xs, h => by
    obtain ⟨a, b, c, d, e⟩ := tames_all hB (xs := xs) (by simpa [tame] using h)
    refine ⟨by simpa [PyData.showable] using a, by simpa [PyData.hasDict] using b, by simpa [PyData.canLay0] using c, by simpa [PyData.leavesShort] using d, ?_⟩
    rw [PyData.shown]
    exact okS_list e
  | .tuple xs, h => by
    obtain ⟨a, b, c, d, e⟩ := tames_all hB (xs := xs) (by simpa [tame] using h)
    refine ⟨by simpa [PyData.showable] using a, by simpa [PyData.hasDict] using b, by simpa [PyData.canLay0] using c, by simpa [PyData.leavesShort] using d, ?_⟩
    rw [PyData.shown]
    exact okS_tup e
  | .dict _, h => by simp [tame] at h
theorem tames_all (hB : B ≤ 1900) : ∀ {xs : List PyData}, tames B xs = true → PyData.showableAll xs = true ∧ PyData.hasDictAll xs = false ∧ PyData.canLayAll0 xs = true ∧ PyData.leavesShortAll B xs = true ∧ ∀ x ∈ PyData.shownAll xs, okS x
  | [], _ => ⟨rfl, rfl, rfl, rfl, fun x hx => by simp [PyData.shownAll] at hx⟩
  | x :: xs, h => by
    simp only [tames, Bool.and_eq_true] at h
    obtain ⟨a, b, c, d, e⟩ := tame_all hB (d := x) h.1
    obtain ⟨a2, b2, c2, d2, e2⟩ := tames_all hB (xs := xs) h.2
    refine ⟨by simp [PyData.showableAll, a, a2], by simp [PyData.hasDictAll, b, b2], by simp [PyData.canLayAll0, c, c2], by simp [PyData.leavesShortAll, d, d2], fun z hz => ?_⟩
    rw [PyData.shownAll] at hz
    rcases List.mem_cons.mp hz
          with rfl | hz
    · exact e
    · exact e2 z hz
end
theorem tame_fit (h8 : 8 ≤ B) (hB : B ≤ 1900) {d : PyData} (h : tame B d = true) (hw : (B + 2) * d.weight + B ≤ 16777216) : d.shown.length ≤ sizeLine := by
  have := PyData.shown_le B h8 d (tame_all hB h).2.2.2.1
  rw [sizeLine_eq]
  omega
/-- what plain data shows as -/
structure Shw (d : Dt) (p : PyData) : Prop where
  py : toPy d = some p
  ex : ∃ B, 8 ≤ B ∧ B ≤ 1900 ∧ tame B p = true ∧ (B + 2) * p.weight + B ≤ 16777216
  dep : p.depth ≤ 60
theorem gRepr_of {d : Dt} {p : PyData} (h : Shw d p) (k : Dt → Prop) : gRepr [d] k = k (.str p.shown) := by
  obtain ⟨B, h8, hB, ht, hw⟩ := h.ex
  obtain ⟨a, b, _⟩ := tame_all hB ht
  apply propext
  constructor
  · rintro ⟨q, e, _, _, _, _, hk⟩
    cases h.py.symm.trans e
    exact hk
  · intro hk
    exact ⟨p, h.py, a, b, h.dep, tame_fit h8 hB ht hw, hk⟩
theorem Shw.ok {d : Dt} {p : PyData} (h : Shw d p) : okS p.shown := by
  obtain ⟨B, h8, hB, ht, hw⟩ := h.ex
  exact (tame_all hB ht).2.2.2.2
theorem Shw.shaped {d : Dt} {p : PyData} (h : Shw d p) : SeqAt.shaped p = true := by
  obtain ⟨B, h8, hB, ht, hw⟩ := h.ex
  exact Bool.and_eq_true_iff.mpr ⟨(tame_all hB ht).2.2.1, decide_eq_true (Nat.le_trans h.dep (by decide))⟩
theorem Shw.dct {d : Dt} {p : PyData} (h : Shw d p) : p.hasDict = false := by
  obtain ⟨B, h8, hB, ht, hw⟩ := h.ex
  exact (tame_all hB ht).2.1
/-- what plain data shows as, by its parts: what it is made of, how much it is, how deep -/
def Shn (B W D : Nat) (d : Dt) : Prop := ∃ p, toPy d = some p ∧ tame B p = true ∧ p.weight ≤ W ∧ p.depth ≤ D
theorem Shn.shw {W D : Nat} {d : Dt} (h : Shn B W D d) (h8 : 8 ≤ B) (hB : B ≤ 1900) (hw : (B + 2) * W + B ≤ 16777216) (hD : D ≤ 60) : ∃ p, Shw d p := by
  obtain ⟨p, e, t, w, q⟩ := h
  exact ⟨p, e, ⟨B, h8, hB, t, Nat.le_trans (Nat.add_le_add_right (Nat.mul_le_mul_left _ w) _) hw⟩, Nat.le_trans q hD⟩
theorem Shn.mono {W D W' D' : Nat} {d : Dt} (h : Shn B W D d) (h1 : W ≤ W') (h2 : D ≤ D') : Shn B W' D' d := by
  obtain ⟨p, e, t, w, q⟩ := h
  exact ⟨p, e, t, Nat.le_trans w h1, Nat.le_trans q h2⟩
theorem Shn.non : Shn B 0 0 .non := ⟨.none, rfl, by simp [tame], Nat.le_refl _, Nat.le_refl _⟩
theorem Shn.bl (b : Bool) : Shn B 0 0 (.bl b) := ⟨.bool b, rfl, by simp [tame], Nat.le_refl _, Nat.le_refl _⟩
theorem Shn.int {i : Int} {k : Nat} (h : i.natAbs < 2 ^ k) (hk : k + 3 ≤ B) : Shn B (k + 1) 0 (.int i) := by
  have l : i.natAbs.log2 ≤ k := by
    by_cases z : i.natAbs = 0
    · rw [z]; simp
    · exact Nat.le_of_lt ((Nat.log2_lt z).mpr h)
  refine ⟨.int i, rfl, ?_, ?_, Nat.le_refl _⟩
  · simp only [tame, decide_eq_true_eq]
    omega
  · rw [PyData.weight]
    split <;> omega
theorem Shn.str {x : Str} (h : okS x) : Shn B x.cps.size 0 (.str x) := ⟨.str x, rfl, by simpa [tame] using h.ok, by rw [PyData.weight]; exact Nat.le_refl _, Nat.le_refl _⟩
theorem Shn.all {W D : Nat} : ∀ {l : List Dt}, (∀ d ∈ l, Shn B W D d) → ∃ ps, toPys l = some ps ∧ tames B ps = true ∧ PyData.weightAll ps ≤ l.length * (W + 1) ∧ PyData.depthAll ps ≤ D
  | [], _ => ⟨[], by rw [toPys], by rw [tames], by rw [PyData.weightAll]; exact Nat.zero_le _, by rw [PyData.depthAll]; exact Nat.zero_le _⟩
  | d :: l, h => by
    obtain ⟨p, e, t, w, q⟩ := h d (by simp)
    obtain ⟨ps, e2, t2, w2, q2⟩ := Shn.all fun x hx => h x (List.mem_cons_of_mem _ hx)
    refine ⟨p :: ps, by rw [toPys, e, e2], by rw [tames, t, t2]; rfl, ?_, ?_⟩
    · rw [PyData.weightAll, List.length_cons, Nat.succ_mul]
      omega
    · rw [PyData.depthAll]
      omega
theorem Shn.tup {W D : Nat} {l : List Dt} (h : ∀ d ∈ l, Shn B W D d) : Shn B (l.length * (W + 1)) (D + 1) (.tup l) := by
  obtain ⟨ps, e, t, w, q⟩ := Shn.all h
  exact ⟨.tuple ps, by rw [toPy, e]; rfl, by rw [tame]; exact t, by rw [PyData.weight]; exact w, by rw [PyData.depth]; omega⟩
theorem Shn.lst {W D : Nat} {l : List Dt} (h : ∀ d ∈ l, Shn B W D d) : Shn B (l.length * (W + 1)) (D + 1) (.lst l) := by
  obtain ⟨ps, e, t, w, q⟩ := Shn.all h
  exact ⟨.list ps, by rw [toPy, e]; rfl, by rw [tame]; exact t, by rw [PyData.weight]; exact w, by rw [PyData.depth]; omega⟩
/-- two texts that are the same -/
theorem gNe_strs {x : Str} (h : okS x) (k : Dt → Prop) : gNe (.str x) (.str x) k = k (.bl false) := by rw [gNe_str h.ok h.ok, decide_eq_true rfl]; rfl
theorem gEq_strs {x : Str} (h : okS x) (k : Dt → Prop) : gEq (.str x) (.str x) k = k (.bl true) := by rw [gEq_str h.ok h.ok, decide_eq_true rfl]
end LW
set_option Elab.async false
set_option linter.all false
set_option maxRecDepth 100000
set_option maxHeartbeats 4000100
/-! set(xs) of a tuple of tuples of ints -/
set_option Elab.async false
set_option linter.all false
set_option maxRecDepth 100000
set_option maxHeartbeats 4000100
/-! sorted(set(xs)), xs tuples of ints; xs[i], xs[j] = a, b -/
namespace LW
open L2 PySem.Spec PyProof.Rows PySem
/-! ### x in a tuple, min of one -/
theorem depth_ints : ∀ ns : List Int, PyData.depthAll (ns.map PyData.int) = 0
  | [] => rfl
  | n :: r => by rw [List.map_cons, PyData.depthAll, PyData.depth, depth_ints r, Nat.max_self]
theorem dall_ints {K : PySem.W.Frag} {H : Hp} : ∀ ns : List Int, DAll K H (ns.map V.int) (ns.map PyData.int)
  | [] => DAll.nil
  | n :: ns => DAll.cons (.int n) (dall_ints ns)
/-! ### tuples of tuples of ints as data -/
end LW
set_option Elab.async false
set_option linter.all false
set_option maxRecDepth 100000
set_option maxHeartbeats 4000100
/-! sorted(xs) of a tuple of tuples of ints -/
set_option Elab.async false
set_option linter.all false
set_option maxRecDepth 100000
set_option maxHeartbeats 4000100
/-! t[::-1], t a tuple -/
set_option Elab.async false
set_option linter.all false
set_option maxRecDepth 100000
set_option maxHeartbeats 4000100
/-! sorted(xs) of tuples of ints, t[::-1], x not in t -/
set_option Elab.async false
set_option linter.all false
set_option maxRecDepth 100000
set_option maxHeartbeats 4000100
/-! a law's def that calls a lambda, told of plain data -/
namespace LW
open L2 PySem.Spec PyProof.Rows PySem
/-! ### raise C(x) -/
/-! ### defs that may raise -/
structure CalXG (P : Program) (w : World) (K : PySem.W.Frag) (mg : Str → Option Value) (base : Heap) (k : Nat) (x : Str) (sp : Sp) : Prop where
  ex : ∃ (f : Addr) (fd : FuncData) (ps : List Str), FnG P w K mg base (L2.CX P w) k f fd ps sp ∧ mg x = some (.ref f) ∧ PySem.W.keepIn K (.ref f) = true ∧ Binds K fd ps []
section
variable {P : Program} {w : World} {K : PySem.W.Frag} {mg : Str
      → Option Value} {base : Heap}
theorem CalXG.imp {k : Nat} {x : Str} {sp sp' : Sp} (c : CalXG P w K mg base k x sp) (h : ∀ vs H Q E, sp' vs H Q E → sp vs H Q E) : CalXG P w K mg base k x sp' := by
  obtain ⟨f, fd, ps, F, r⟩ := c.ex
  exact ⟨f, fd, ps, F.imp h, r⟩
end
/-! ### such a def, called where it does not raise -/
section
variable {P : Program} {w : World} {K : PySem.W.Frag} {mg : Str
      → Option Value} {base : Heap}
theorem cx_never {outer : List Env} {H : Hp} {s s' : Shared} {u : Value} (h : L2.CX P w outer H s E0' u s') : False := by
  obtain ⟨_, _, _, _, _, _, _, _, _,
        _, _, _, z⟩ := h
  exact z
theorem FnG.noX {S : Su} {k n : Nat} {f : Addr} {fd : FuncData} {ps : List Str} {g : SpF} (F : FnG P w K mg base (L2.CX P w) k f fd ps (spW S n g)) : FnG P w K mg base CX0 k f fd ps (spW S n (noX g)) := by
  have key : ∀ vs H Q E, spW S n (LW.noX g) vs H Q E → spW S n g vs H Q E0' := fun vs H Q E ⟨M, A, ds, k, e, ln, hd, mA, m, hv, hw, a, _⟩ => ⟨M, A, ds, k, nE, ln, hd, mA, m, hv, hw, a, afx0⟩
  refine ⟨fun vs H Q E h => F.args vs H Q _ (key _ _ _ _ h), fun A outer s H given us vs Q E hr hq he hb hv hs => codeAny_mono (F.runs A outer s H given us vs Q _ hr hq he hb hv (key _ _ _ _ hs)) fun r s' h => ?_⟩
  match r, h with
  | .error e, h => exact (cx_never h).elim
  | .ok (.ret u), h => exact h
  | .ok .next, h => exact h
  | .ok .brk, h => exact h
  | .ok .cont, h => exact h
theorem CalXG.g {S : Su} {k n : Nat} {x : Str} {f : SpF} (c : CalXG P w K mg base k x (spW S n f)) : CalG P w K mg base k x (spW S n (noX f)) [] := by
  obtain ⟨g, fd, ps, F, hm, kp, b⟩ := c.ex
  exact ⟨g, fd, ps, [], F.noX, hm, kp, b, .nil⟩
end
end LW
set_option Elab.async false
set_option linter.all false
set_option maxRecDepth 100000
set_option maxHeartbeats 4000100
/-! several clauses 'except C as n', one after the other -/
set_option Elab.async false
set_option linter.all false
set_option maxRecDepth 100000
set_option maxHeartbeats 4000100
/-! the law's own call, where a def of the text makes a lambda: tables of code objects are tracked -/
set_option Elab.async false
set_option linter.all false
set_option maxRecDepth 100000
set_option maxHeartbeats 4000100
/-! defs that make lambdas, told of plain data; a law's def that calls one and tells the error -/
namespace LW
open L2 PySem.Spec PyProof.Rows PySem
/-- a def and its code object -/
structure FunC (K : PySem.W.Frag) (x qual : Str) (st : Stmt) (f : Addr) (fd : FuncData) (cdv : Value) : Prop where
  ex : ∃ (oc : Value) (od : Option Addr) (kV doc pm : Value) (an : Option Addr) (ct : Value) (osl : Array (Option Value)),
    fd = PySem.W.fnOf x qual (defArgs st) (defBody st) (defScope st) .none kV doc pm an cdv ct ∧ K.lookup f = some
          ⟨oc, od, .func fd, osl⟩ ∧ PySem.W.codeIn K cdv qual = true
  kp : PySem.W.keepIn K
        (.ref f) = true
theorem FunC.fn {K : PySem.W.Frag} {x qual : Str} {st : Stmt} {f : Addr} {fd : FuncData} {cdv : Value} (F : FunC K x qual st f fd cdv) : Fun K x qual st f fd := by
  obtain ⟨oc, od, kV, doc, pm, an, ct, osl, e, lk, hc⟩ := F.ex
  exact ⟨⟨oc, od, kV, doc, pm, an, cdv, ct, osl, e, lk, hc⟩, F.kp⟩
/-! ### what a call gives or raises, as a law's def tells it -/
/-! ### several defs that make lambdas -/
end LW
set_option Elab.async false
set_option linter.all false
set_option maxRecDepth 100000
set_option maxHeartbeats 4000100
/-! a < b < c < d -/
set_option Elab.async false
set_option linter.all false
set_option maxRecDepth 100000
set_option maxHeartbeats 4000100
/-! None not in a list of numbers and None -/
set_option Elab.async false
set_option linter.all false
set_option maxRecDepth 100000
set_option maxHeartbeats 4000100
/-! zip(*rows) over any number of lists: begun -/
namespace LW
open L2 PySem.Spec PyProof.Rows PySem
/-- a loop of the model whose body always goes on with the same state -/
theorem forIn_steps {prog : Program} {w : World} {A : Around} {α β : Type} (body : α → β → Sem (ForInStep β)) (b0 : β) (I : Nat → Shared → Prop) {Q : β → Shared → Prop} {E : Value → Shared → Prop} :
    ∀ (l : List α) (k : Nat) (s : Shared), I k s →
    (∀ j a s, l[j]? = some a → I (k + j) s → wpAny (model prog w) A (body a b0) (fun r s' => r = .yield b0 ∧ I (k + j + 1) s') E s) →
    (∀ s, I (k + l.length) s → Q b0 s) → wpAny (model prog w) A (forIn l b0 body) Q E s
  | [], k, s, h0, _, fin => by
    simp only [List.forIn_nil]
    exact wpAny_pure (fin s h0)
  | a :: l, k, s, h0, step, fin => by
    simp only [List.forIn_cons]
    refine wpAny_bind (thn (step 0 a s rfl h0) fun r s1 ⟨e, h1⟩ => ?_)
    subst e
    refine forIn_steps body b0 I l (k + 1) s1 h1 (fun j a' s' e h => ?_) fun s' h => ?_
    · have := step (j + 1) a' s' e (by rw [show k + (j + 1) = k + 1 + j by omega]; exact h)
      rw [show k + (j + 1) + 1 = k + 1 + j + 1 by omega] at this
      exact this
    · exact fin s' (by rw [List.length_cons, show k + (l.length + 1) = k + 1 + l.length by omega]; exact h)
/-- .. and one whose state changes -/
theorem forIn_to {prog : Program} {w : World} {A : Around} {α β : Type} (body : α → β → Sem (ForInStep β)) (I : Nat → β → Shared → Prop) {Q : β → Shared → Prop} {E : Value → Shared → Prop} :
    ∀ (l : List α) (k : Nat) (b : β) (s : Shared), I k b s →
    (∀ j a b s, l[j]? = some a → I (k + j) b s → wpAny (model prog w) A (body a b) (fun r s' => ∃ b', r = .yield b' ∧ I (k + j + 1) b' s') E s) →
    (∀ b s, I (k + l.length) b s → Q b s) → wpAny (model prog w) A (forIn l b body) Q E s
  | [], k, b, s, h0, _, fin => by
    simp only [List.forIn_nil]
    exact wpAny_pure (fin b s h0)
  | a :: l, k, b, s, h0, step, fin => by
    simp only [List.forIn_cons]
    refine wpAny_bind (thn (step 0 a b s rfl h0) fun r s1 ⟨b1, e, h1⟩ => ?_)
    subst e
    refine forIn_to body I l (k + 1) b1 s1 h1 (fun j a' b' s' e h => ?_) fun b' s' h => ?_
    · have := step (j + 1) a' b' s' e (by rw [show k + (j + 1) = k + 1 + j by omega]; exact h)
      rw [show k + (j + 1) + 1 = k + 1 + j + 1 by omega] at this
      exact this
    · exact fin b' s' (by rw [List.length_cons, show k + (l.length + 1) = k + 1 + l.length by omega]; exact h)
/-- the cells of a zip over n lists lie apart -/
structure SepN (n : Nat) (z TI TO : Addr) (it l : Nat → Addr) : Prop where
  TIz : TI ≠ z
  TOz : TO ≠ z
  TITO : TI ≠ TO
  iTI : ∀ j, j < n → it j ≠ TI
  iz : ∀ j, j < n → it j ≠ z
  iTO : ∀ j, j < n → it j ≠ TO
  lz : ∀ j, j < n → l j ≠ z
  lTO : ∀ j, j < n → l j ≠ TO
  il : ∀ j k, j < n → k < n → it j ≠ l k
  ii : ∀ j k, j < n → k < n → j ≠ k → it j ≠ it k
abbrev IsTupA (h : Heap) (T : Addr) (a : Array Value) : Prop := h.get? T = some { cls := .type "tuple", data := .seq a }
theorem updateSeq_A {prog : Program} {w : World} {A : Around} {E : Value → Shared → Prop} {s : Shared} {T : Addr} {a : Array Value} {x : Value} {k : Nat} {Q : Unit → Shared → Prop} (hT : IsTupA s.heap T a) (sz : a.size ≤ sizeLine)
    (h : ∀ h', IsTupA h' T (a.setIfInBounds k x) → Heap.SameBut T s.heap h' → Q () { s with heap := h' }) :
    wpAny (model prog w) A (updateSeq T (·.setIfInBounds
          k x)) Q E s := by
  refine wpAny_updateSeq hT rfl (h _ ?_ (Heap.SameBut.update ..)) (hz := sz) (_hz' := by rw [Array.size_setIfInBounds]; omega)
  show Heap.get? _ T = _
  rw [Heap.get?_update_self
        _ hT rfl]
  simp [Obj.mapSeq]
/-- the iterators of a zip -/
abbrev itsN (n : Nat) (it : Nat → Addr) : List Value := (List.range n).map fun j => Value.ref (it j)
/-! ### zip(*lists) begins -/
abbrev liO (l : Addr) : Obj := { cls := .type "list_iterator", data := .fields #[.ref l, .int 0 0] }
/-- a heap with the iterators of lists laid behind it -/
def layI (h : Heap) : List Addr → Heap
  | [] => h
  | l :: r => layI (h.push (liO l)) r
theorem layI_size : ∀ (ls : List Addr) (h : Heap), (layI h ls).objs.size = h.objs.size + ls.length
  | [], h => rfl
  | l :: r, h => by
    show (layI (h.push (liO l)) r).objs.size = _
    rw [layI_size r, Heap.size_push, List.length_cons]
    omega
theorem layI_old : ∀ (ls : List Addr) (h : Heap) (c : Addr) (o : Obj), h.get? c = some o → (layI h ls).get? c = some o
  | [], h, c, o, e => e
  | l :: r, h, c, o, e => layI_old r _ c o (Heap.get?_push_of_some _ e)
theorem layI_at : ∀ (ls : List Addr) (h : Heap) (j : Nat) (l : Addr), ls[j]? = some l → (layI h ls).get? (h.objs.size + j) = some (liO l)
  | [], h, j, l, e => by simp at e
  | a :: r, h, 0, l, e => by
    cases e
    exact layI_old r _ _ _ (Heap.get?_push_size _ rfl)
  | a :: r, h, j + 1, l, e => by
    have := layI_at r (h.push (liO a)) j l e
    rw [Heap.size_push] at this
    rw [show h.objs.size + (j + 1) = h.objs.size + 1 + j by omega]
    exact this
def refsFrom (k n : Nat) : List Value := (List.range n).map fun j => Value.ref (k + j)
theorem refs_succ (k n : Nat) : refsFrom k (n + 1) = .ref k :: refsFrom (k + 1) n := by
  unfold refsFrom
  rw [List.range_succ_eq_map, List.map_cons,
        List.map_map]
  congr 1
  refine List.map_congr_left fun j _ => ?_
  show Value.ref (k + (j + 1)) = Value.ref (k + 1 + j)
  rw [show k + (j + 1) = k + 1 + j by omega]
theorem iterGo {prog : Program} {w : World} {A : Around} {E : Value → Shared → Prop} {Q : Array Value → Shared → Prop} : ∀ (ls : List Addr) (acc : Array Value) (s : Shared), (∀ l ∈ ls, ∃ items, s.heap.IsList l items) →
    (Q (acc ++ (refsFrom s.heap.objs.size ls.length).toArray) { s with heap := layI s.heap ls }) →
    wpAny (model prog w) A (forIn (ls.map Value.ref) acc fun x its => do
      let v ← holding its.toList (pyIter x)
      pure (ForInStep.yield (its.push v))) Q E s
  | [], acc, s, _, q => by
    simp only [List.map_nil, List.forIn_nil]
    refine wpAny_pure ?_
    have e : acc ++ (refsFrom s.heap.objs.size 0).toArray = acc := by simp [refsFrom]
    rw [List.length_nil, e] at q
    exact q
  | l :: r, acc, s, hl, q => by
    simp only [List.map_cons, List.forIn_cons]
    obtain ⟨items, h1⟩ := hl l (by simp)
    refine wpAny_bind (wpAny_bind (wpAny_holding (wpAny_pyIter_list h1 (wpAny_pure ?_))))
    refine iterGo r _ _ (fun l' hl' => ?_) ?_
    · obtain ⟨it', h2⟩ := hl l' (List.mem_cons_of_mem _ hl')
      exact ⟨it', h2.at fun o e => Heap.get?_push_of_some _ e⟩
    · rw [List.length_cons, refs_succ] at q
      have e : acc.push (.ref s.heap.objs.size) ++ (refsFrom (s.heap.push (liO l)).objs.size r.length).toArray = acc ++ (Value.ref s.heap.objs.size :: refsFrom (s.heap.objs.size + 1) r.length).toArray := by
        rw [Heap.size_push]
        simp
      rw [← e] at q
      exact q
theorem iterAll_lists {prog : Program} {w : World} {A : Around} {E : Value → Shared → Prop} {Q : List Value → Shared → Prop} (ls : List Addr) (s : Shared) (hl : ∀ l ∈ ls, ∃ items, s.heap.IsList l items)
    (q : Q (refsFrom s.heap.objs.size ls.length) { s with heap := layI s.heap ls }) : wpAny (model prog w) A (Builtin.SmallTypes.iterAll (ls.map Value.ref)) Q E s := by
  (unfold Builtin.SmallTypes.iterAll)
  refine wpAny_bind (iterGo ls #[] s hl (wpAny_pure ?_))
  simpa using q
abbrev zT (h : Heap) (ls : List Addr) : Heap := (layI h ls).push { cls := .type "tuple", data := .seq (refsFrom h.objs.size ls.length).toArray }
abbrev zO (h : Heap) (ls : List Addr) : Heap := (zT h ls).push { cls := .type "tuple", data := .seq ((refsFrom h.objs.size ls.length).map fun _ => Value.none).toArray }
abbrev zZ (h : Heap) (ls : List Addr) : Heap := (zO h ls).push { cls := .type "zip", data := .fields #[.none, .bool false, .bool false, .ref (layI h ls).objs.size, .ref (zT h ls).objs.size] }
theorem typeCall_zipN (us : List Value) : checkTypeCall "zip" ⟨us, []⟩ = pure () := by kernel_rfl
theorem newCall_zipN : ∀ us : List Value, us.length ≤ 10 → checkBuiltinCall "zip.__new__" ⟨.type "zip" :: us, []⟩ = pure ()
  | [], _ => by kernel_rfl
  | [a0], _ => by kernel_rfl
  | [a0, a1], _ => by kernel_rfl
  | [a0, a1, a2], _ => by kernel_rfl
  | [a0, a1, a2, a3], _ => by kernel_rfl
  | [a0, a1, a2, a3, a4], _ => by kernel_rfl
  | [a0, a1, a2, a3, a4, a5], _ => by kernel_rfl
  | [a0, a1, a2, a3, a4, a5, a6], _ => by kernel_rfl
  | [a0, a1, a2, a3, a4, a5, a6, a7], _ => by kernel_rfl
  | [a0, a1, a2, a3, a4, a5, a6, a7, a8], _ => by kernel_rfl
  | [a0, a1, a2, a3, a4, a5, a6, a7, a8, a9], _ => by kernel_rfl
  | _ :: _ :: _ :: _ :: _ :: _ :: _ :: _ :: _ :: _ :: _ :: r, h => by simp only [List.length_cons] at h; omega
theorem args_initN (obj : Value) (us : List Value) : argsOk "object.__init__" ⟨obj :: us, []⟩ := by unfold argsOk; kernel_rfl
theorem meets_zip_newN (ls : List Addr) (n1000 : ls.length ≤ 1000) :
    Meets (Builtin.«zip.__new__» ⟨.type "zip" :: ls.map Value.ref, []⟩) (fun _ R s => (∀ l ∈ ls, ∃ items, s.heap.IsList l items) ∧
      R (.ok (.ret (.ref (zO s.heap ls).objs.size))) { s with heap := zZ s.heap ls }) :=
  .of_wp fun prog w A
        R s h => by
    obtain ⟨hp, g, d, tk,
          os⟩ := s
    obtain ⟨h1, h⟩ := h
    have hsub := sub_zip
    have q1 : ∀ {A' : Around} {E : Value → Shared → Prop} {Q : List Value → Shared → Prop}, Q (refsFrom hp.objs.size ls.length) ⟨layI hp ls, g, d, tk, os⟩ → wpAny (model prog w) A' (Builtin.SmallTypes.iterAll (ls.map Value.ref)) Q E ⟨hp, g, d, tk, os⟩ :=
      fun q => iterAll_lists ls ⟨hp, g, d, tk, os⟩ h1 q
    have sz : ls.length ≤ sizeLine := by rw [sizeLine_eq]; omega
    have rl : (refsFrom hp.objs.size ls.length).length = ls.length := by unfold refsFrom; rw [List.length_map, List.length_range]
    have q2 : ∀ {A' : Around} {E : Value → Shared → Prop} {Q : Value → Shared → Prop}, Q (.ref (layI hp ls).objs.size) ⟨zT hp ls, g, d, tk, os⟩ → wpAny (model prog w) A' (newTuple (refsFrom hp.objs.size ls.length)) Q E ⟨layI hp ls, g, d, tk, os⟩ :=
      fun q => wpAny_newTuple (s := ⟨layI hp ls, g, d, tk, os⟩) q (hsz := by rw [rl]; exact sz)
    have q3 : ∀ {A' : Around} {E : Value → Shared → Prop} {Q : Value → Shared → Prop}, Q (.ref (zT hp ls).objs.size) ⟨zO hp ls, g, d, tk, os⟩ → wpAny (model prog w) A' (newTuple ((refsFrom hp.objs.size ls.length).map fun _ => Value.none)) Q E ⟨zT hp ls, g, d, tk, os⟩ :=
      fun q => wpAny_newTuple (s := ⟨zT hp ls, g, d, tk, os⟩) q (hsz := by rw [List.length_map, rl]; exact sz)
    wp_walk using q1, q2, q3
    exact ⟨_, rfl, h⟩
/-- zip of n lists: its cells -/
theorem zip_beginsN {prog : Program} {w : World} {A : Around} {E : Value → Shared → Prop} {s : Shared} {Q : Value → Shared → Prop} (ls : List Addr) (n10 : ls.length ≤ 10) (hl : ∀ l ∈ ls, ∃ items, s.heap.IsList l items)
    (h : ∀ h', IsZip h' (s.heap.objs.size + ls.length + 2) (s.heap.objs.size + ls.length) (s.heap.objs.size + ls.length + 1) .none → IsTupA h' (s.heap.objs.size + ls.length) (refsFrom s.heap.objs.size ls.length).toArray →
      (∃ o', IsTupA h' (s.heap.objs.size + ls.length + 1) o' ∧ o'.size = ls.length) → (∀ j l, ls[j]? = some l → h'.get? (s.heap.objs.size + j) = some (liO l)) → h'.objs.size = s.heap.objs.size + ls.length + 3 →
      (∀ c o, s.heap.get? c = some o → h'.get? c = some o) → Q (.ref (s.heap.objs.size + ls.length + 2)) { s with heap := h' }) :
    wpAny (model prog w) A (call (.type "zip") (ls.map Value.ref)) Q E s := by
  refine callType_new F.called_zip (by decide) (typeCall_zipN _) (newCall_zipN _ (by rw [List.length_map]; exact n10)) (fun obj => args_initN obj _) F.entry_zip_new
    (meets_zip_newN ls (by omega)) ⟨hl, ?_⟩
  have z1 := layI_size ls s.heap
  have zt : (zT s.heap ls).objs.size = s.heap.objs.size + ls.length + 1 := by rw [Heap.size_push, z1]
  have zo : (zO s.heap ls).objs.size = s.heap.objs.size + ls.length + 2 := by rw [Heap.size_push, zt]
  have zz : (zZ s.heap ls).objs.size = s.heap.objs.size + ls.length + 3 := by rw [Heap.size_push, zo]
  have gZ : (zZ s.heap ls).get? (zO s.heap ls).objs.size = some { cls := .type "zip", data := .fields #[.none, .bool false, .bool false, .ref (layI s.heap ls).objs.size, .ref (zT s.heap ls).objs.size] } := Heap.get?_push_size _ rfl
  have gO : (zZ s.heap ls).get? (zT s.heap ls).objs.size = some { cls := .type "tuple", data := .seq ((refsFrom s.heap.objs.size ls.length).map fun _ => Value.none).toArray } := Heap.get?_push_of_some _ (Heap.get?_push_size _ rfl)
  have gT : (zZ s.heap ls).get? (layI s.heap ls).objs.size = some { cls := .type "tuple", data := .seq (refsFrom s.heap.objs.size ls.length).toArray } := Heap.get?_push_of_some _ (Heap.get?_push_of_some _ (Heap.get?_push_size _ rfl))
  rw [zo, zt, z1] at gZ
  rw [zt] at gO
  rw [z1] at gT
  show _ ∧ _
  rw [zo]
  refine ⟨⟨_, gZ, rfl⟩, h _ gZ gT ⟨_, gO, by simp [refsFrom]⟩ (fun j l e => ?_) zz fun c o e => ?_⟩
  · exact Heap.get?_push_of_some _ (Heap.get?_push_of_some _ (Heap.get?_push_of_some _ (layI_at ls s.heap j l e)))
  · exact Heap.get?_push_of_some _ (Heap.get?_push_of_some _ (Heap.get?_push_of_some _ (layI_old ls s.heap c o e)))
/-- a zip's own record, whatever tuple it has handed out -/
abbrev ZipR (h : Heap) (z : Addr) (v0 : Value) (f : Bool) (TI TO : Addr) : Prop :=
  h.get? z = some { cls := .type "zip", dict := none, data := .fields #[v0, .bool f, .bool false, .ref TI, .ref TO], slots := #[] }
theorem alive_any {prog : Program} {w : World} {A : Around} {E : Value → Shared → Prop} {s : Shared} {a : Addr} {Q : Option Obj → Shared → Prop} (h : Q (s.heap.get? a) s) : wpAny (model prog w) A (loadIfAlive a) Q E s := fun _ _ _ => h
theorem zipN_any {prog : Program} {w : World} {A : Around} {E : Value → Shared → Prop} {s : Shared} {n : Nat} {z TI TO : Addr} {it l : Nat → Addr} {xs : Nat → Array Value} {i : Nat} {old : Array Value} {v0 : Value} {f : Bool} {Q : Value → Shared → Prop}
    (S : SepN n z TI TO it l) (n1 : 0 < n) (nz : n ≤ 1000) (hh : A.handled = none)
    (hz : ZipR s.heap z v0 f TI TO) (hv : v0 = .none ∨ ∃ T : Nat, v0 = rawInt T) (hTI : IsTupA s.heap TI (itsN n it).toArray) (hTO : IsTupA s.heap TO old) (os : old.size = n)
    (h1 : ∀ j, j < n → s.heap.IsListIter (it j) (l j) i) (hl : ∀ j, j < n → s.heap.IsList (l j) (xs j)) (lt : ∀ j, j < n → i < (xs j).size)
    (hQ : ∀ h' tk, (∃ v f, ZipR h' z v f TI TO ∧ (v = .none ∨ ∃ T : Nat, v = rawInt T)) → (∃ o', IsTupA h' TO o' ∧ o'.size = n) → (∀ j, j < n → h'.IsListIter (it j) (l j) (i + 1)) → IsTupA h' s.heap.objs.size ((List.range n).map fun j => ((xs j)[i]?).getD .none).toArray → h'.objs.size = s.heap.objs.size + 1 →
      (∀ c o, c ≠ z → c ≠ TO → (∀ j, j < n → c ≠ it j) → s.heap.get? c = some o → h'.get? c = some o) → Q (.ref s.heap.objs.size) { s with heap := h', toks := tk }) :
    wpAny (model prog w) A (Builtin.«zip.__next__» ⟨[.ref z], []⟩) (fun fin s' => ∃ v,
          fin = .done (.ret v) ∧ Q v s') E s := by
  obtain ⟨hp, g, d, tk0, os'⟩ := s
  show wpAny _ _ (field (.ref z)
        2 >>= _) _ _ _
  refine wpAny_bind (wpAny_field hz rfl (x :=
        .bool false) rfl ?_)
  show wpAny _ _ (field (.ref z)
        3 >>= _) _ _ _
  refine wpAny_bind (wpAny_field hz rfl (x
        := .ref TI) rfl ?_)
  refine wpAny_bind (wpAny_seqItems
        hTI rfl ?_)
  have ne : (itsN n it).toArray.isEmpty = false := by
    rw [Array.isEmpty_eq_false_iff]
    intro e
    have := congrArg Array.size e
    simp at this
    omega
  simp only [ne, Bool.false_eq_true, if_false]
  show wpAny _ _ (Builtin.SmallTypes.ownedTupleIsFree
        (.ref z) >>= _) _ _ _
  refine wpAny_bind ?_
  have two : ∀ {Q' : Bool → Shared → Prop}, Q' true ⟨hp, g, d, tk0, os'⟩ → (∀ h', (∃ v f, ZipR h' z v f TI TO ∧ (v = .none ∨ ∃ T : Nat, v = rawInt T)) → Heap.SameBut z hp h' → Q' false ⟨h', g, d, tk0, os'⟩) → wpAny (model prog w) A (Builtin.SmallTypes.ownedTupleIsFree (.ref z)) Q' E ⟨hp, g, d, tk0, os'⟩ := fun {Q'} qt qf => by
    (unfold Builtin.SmallTypes.ownedTupleIsFree)
    refine wpAny_bind (wpAny_field hz rfl (x := v0) rfl ?_)
    rcases hv with rfl | ⟨T, rfl⟩
    · exact wpAny_pure qt
    · show wpAny _ _ (loadIfAlive ((T : Int).toNat) >>= _) _ _ _
      refine wpAny_bind (alive_any ?_)
      cases hp.get? ((T : Int).toNat) with
      | none =>
        simp only [Option.isNone_none,
              if_true]
        exact wpAny_pure qt
      | some o =>
        simp only [Option.isNone_some,
              Bool.false_eq_true, if_false]
        refine wpAny_bind (wpAny_field hz rfl (x
              := .bool f) rfl ?_)
        cases f with
        | true =>
          rw [if_neg (show ¬ ((Value.bool true != Value.bool true) =
                true) from Bool.false_ne_true)]
          exact wpAny_pure (qf hp ⟨_, _, hz, .inr ⟨T, rfl⟩⟩ (Heap.SameBut.refl _ _))
        | false =>
          rw [if_pos (show (Value.bool false != Value.bool
                true) = true from rfl)]
          exact wpAny_bind (wpAny_setField_rec hz (by simp) fun h₁ hz₁ hs₁ => wpAny_pure (qf h₁ ⟨_, _, hz₁, .inr ⟨T, rfl⟩⟩ hs₁))
  refine two ?_ fun h₁ hz₁ hs₁ => ?_
  · simp only [if_true]
    refine wpAny_bind
          (wpAny_rule ?_)
    refine wpAny_bind (wpAny_field hz rfl (x
          := .ref TO) rfl ?_)
    refine wpAny_bind (wpAny_setField_rec hz (by simp)
          fun g0 hz0 hs0 => ?_)
    replace hz0 : ZipR g0 z .ellipsis f TI TO := hz0
    replace hs0 : Heap.SameBut
          z hp g0 := hs0
    refine wpAny_bind ?_
    let J : Nat → Shared → Prop := fun k s' => ∃ (h : Heap) (tk : Nat) (cur : Array Value), s' = ⟨h, g, d, tk, os'⟩ ∧ ZipR h z .ellipsis f TI TO ∧ IsTupA h TO cur ∧ cur.size = n ∧ (∀ j, j < k → cur[j]? = some (((xs j)[i]?).getD .none)) ∧
      (∀ j, j < n → h.IsListIter (it j) (l j) (if j < k then i + 1 else i)) ∧ (∀ j, j < n → h.IsList (l j) (xs j)) ∧ h.objs.size = hp.objs.size ∧
      ∀ c o, c ≠ z → c ≠ TO → (∀ j, j < n → c ≠ it j) → hp.get? c = some o → h.get? c = some o
    refine forIn_steps _ _ J _ 0 _ ?_ (fun j a s' ej hJ => ?_) (fun s' hJ => ?_)
    · refine ⟨g0, tk0, old, rfl, hz0, hs0.extBut _ _ S.TOz hTO, os, fun j hj => by omega, fun j hj => ?_, fun j hj => ?_, hs0.1, fun c o cz _ _ e => hs0.extBut _ _ cz e⟩
      · rw [if_neg (by omega)]
        exact (h1 j hj).extBut hs0.extBut (S.iz j hj)
      · exact (hl j hj).extBut hs0.extBut (S.lz j hj)
    · obtain ⟨h, tk, cur, rfl, hz1, hT1, cs, cp, ci, cl, csz, ck⟩ := hJ
      rw [Nat.zero_add] at *
      obtain ⟨hj, rfl⟩ : j < n ∧ a = (Value.ref (it j), j) := by
        have e : ((itsN n it).zipIdx)[j]? = some a := ej
        rw [List.getElem?_zipIdx] at e
        obtain ⟨v, ev, rfl⟩ := Option.map_eq_some_iff.mp e
        unfold itsN at ev
        rw [List.getElem?_map] at ev
        obtain ⟨q, eq, rfl⟩ := Option.map_eq_some_iff.mp ev
        have hj : j < n := by
          have := (List.getElem?_eq_some_iff.mp eq).1
          rwa [List.length_range] at this
        rw [List.getElem?_range hj] at eq
        cases eq
        exact ⟨hj, by rw [Nat.zero_add]⟩
      have ij := ci j hj
      rw [if_neg (Nat.lt_irrefl _)] at ij
      refine wpAny_bind (wpAny_onRaise ?_)
      show wpAny _ _ (Builtin.SmallTypes.nextOf (.ref (it j)) >>= _) _ _ ⟨h, g, d, tk, os'⟩
      have D := Draws.list (prog := prog) (w := w) (A := A) hh (it j) (l j) (fun e => S.il j j hj hj e.symm) (xs j)
      refine wpAny_bind (D.item i _ _ _ (lt j hj) ⟨ij, cl j hj⟩ fun x1 p1 tk1 hx1 sn1 hp1 => wpAny_pure ?_)
      replace hp1 : Heap.SameBut (it j) h p1 := hp1
      have hU : IsTupA p1 TO cur := hp1.extBut _ _ (S.iTO j hj).symm hT1
      refine wpAny_bind (wpAny_seqItems (s := ⟨p1, g, d, tk1, os'⟩) hU rfl ?_)
      refine wpAny_bind (updateSeq_A (s := ⟨p1, g, d, tk1, os'⟩) hU (by rw [cs, sizeLine_eq]; omega) fun g1 hT2 hs1 => ?_)
      replace hs1 : Heap.SameBut TO
            p1 g1 := hs1
      refine wpAny_bind (wpAny_letGo
            (wpAny_pure ?_))
      refine ⟨rfl, g1, tk1, cur.setIfInBounds j x1, rfl, hs1.extBut _ _ S.TOz.symm (hp1.extBut _ _ (S.iz j hj).symm hz1), hT2, by rw [Array.size_setIfInBounds]; exact cs, fun q hq => ?_, fun q hq => ?_, fun q hq => ?_, by rw [hs1.1, hp1.1]; exact csz, fun c o cz cT cI e => hs1.extBut _ _ cT (hp1.extBut _ _ (cI j hj) (ck c o cz cT cI e))⟩
      · rcases Nat.lt_succ_iff_lt_or_eq.mp hq with e | e
        · rw [Array.getElem?_setIfInBounds_ne (by omega)]
          exact cp q e
        · subst e
          rw [Array.getElem?_setIfInBounds_self_of_lt (by omega)]
          have hx1 : (xs q)[i]? = some x1 := hx1
          rw [hx1]
          rfl
      · by_cases e : q = j
        · subst e
          rw [if_pos (by omega)]
          exact sn1.1.extBut hs1.extBut (S.iTO q hq)
        · have w1 : (if q < j + 1 then i + 1 else i) = (if q < j then i + 1 else i) := by
            by_cases z : q < j
            · rw [if_pos z, if_pos (by omega)]
            · rw [if_neg z, if_neg (by omega)]
          rw [w1]
          exact ((ci q hq).extBut hp1.extBut (S.ii q j hq hj e)).extBut hs1.extBut (S.iTO q hq)
      · exact ((cl q hq).extBut hp1.extBut fun e => S.il j q hj hq e.symm).extBut hs1.extBut (S.lTO q hq)
    · obtain ⟨h, tk, cur, rfl, hz1, hT1, cs, cp, ci, cl, csz, ck⟩ := hJ
      rw [Nat.zero_add, List.length_zipIdx] at *
      refine wpAny_bind (wpAny_seqItems (s := ⟨h, g, d, tk, os'⟩) hT1 rfl ?_)
      have ln : (itsN n it).length = n := by unfold itsN; rw [List.length_map, List.length_range]
      rw [ln] at cp ci
      have ec : cur.toList = (List.range n).map fun j => ((xs j)[i]?).getD .none := by
        refine List.ext_getElem?
              fun j => ?_
        rw [Array.getElem?_toList, List.getElem?_map]
        rcases Nat.lt_or_ge j n with z | z
        · rw [cp j z, List.getElem?_range z]
          rfl
        · rw [Array.getElem?_eq_none (by omega), List.getElem?_eq_none (by rw [List.length_range]; exact z)]
          rfl
      have lc : cur.toList.length ≤ sizeLine := by rw [Array.length_toList, cs, sizeLine_eq]; omega
      refine wpAny_bind (wpAny_newTuple (hsz := lc) ?_)
      rw [ec]
      have hzlt : z < h.objs.size := Heap.lt_size hz1
      refine wpAny_bind ?_
      (unfold Builtin.SmallTypes.ownedTupleHandOut)
      have hz₆ : ZipR (h.push { cls := .type "tuple", data := .seq ((List.range n).map fun j => ((xs j)[i]?).getD .none).toArray }) z .ellipsis f TI TO := Heap.get?_push_of_some _ hz1
      refine wpAny_bind (wpAny_setField_rec hz₆ (by
            simp) fun h₇ hz₇ hs₇ => ?_)
      replace hz₇ : ZipR h₇ z (rawInt h.objs.size) f TI TO := hz₇
      refine wpAny_setField_rec hz₇ (by simp)
            fun h₈ hz₈ hs₈ => ?_
      replace hz₈ : ZipR h₈ z (rawInt h.objs.size) false TI TO := hz₈
      replace hs₇ : Heap.SameBut z (h.push { cls := .type "tuple", data := .seq ((List.range n).map fun j => ((xs j)[i]?).getD .none).toArray }) h₇ := hs₇
      replace hs₈ : Heap.SameBut
            z h₇ h₈ := hs₈
      have up : ∀ c o, c ≠ z → h.get? c = some o → h₈.get? c = some o := fun c o c1 e => hs₈.extBut _ _ c1 (hs₇.extBut _ _ c1 (Heap.get?_push_of_some _ e))
      have hT₈ : IsTupA h₈ h.objs.size ((List.range n).map fun j => ((xs j)[i]?).getD .none).toArray := hs₈.extBut _ _ (Nat.ne_of_gt hzlt) (hs₇.extBut _ _ (Nat.ne_of_gt hzlt) (Heap.get?_push_size _ rfl))
      have hz8 : h₈.objs.size = h.objs.size + 1 := by rw [hs₈.1, hs₇.1, Heap.size_push]
      rw [csz] at hz₈ hT₈ hz8
      refine wpAny_pure ⟨_,
            rfl, ?_⟩
      show Q (.ref h.objs.size) ⟨h₈, g, d, tk, os'⟩
      rw [csz]
      refine hQ h₈ tk ⟨_, _, hz₈, .inr ⟨_, rfl⟩⟩ ⟨cur, up _ _ S.TOz hT1, cs⟩ (fun j hj => ?_) hT₈ hz8 fun c o cz cT cI e => up c o cz (ck c o cz cT cI e)
      have := ci j hj
      rw [if_pos hj] at this
      exact this.at fun o e => up _ o (S.iz j hj) e
  · simp only [Bool.false_eq_true,
        if_false]
    refine wpAny_bind ?_
    rw [← Array.forIn_toList]
    let J : Nat → (Option PySem.Fin × Array Value) → Shared → Prop := fun k b s' => ∃ (h : Heap) (tk : Nat) (arr : Array Value), s' = ⟨h, g, d, tk, os'⟩ ∧ b = (none, arr) ∧ arr.size = k ∧ (∀ j, j < k → arr[j]? = some (((xs j)[i]?).getD .none)) ∧
      (∃ v f, ZipR h z v f TI TO ∧ (v = .none ∨ ∃ T : Nat, v = rawInt T)) ∧ IsTupA h TO old ∧
      (∀ j, j < n → h.IsListIter (it j) (l j) (if j < k then i + 1 else i)) ∧ (∀ j, j < n → h.IsList (l j) (xs j)) ∧ h.objs.size = hp.objs.size ∧
      ∀ c o, c ≠ z → c ≠ TO → (∀ j, j < n → c ≠ it j) → hp.get? c = some o → h.get? c = some o
    refine forIn_to _ J _ 0 _ _ ?_ (fun j a b s' ej hJ => ?_) (fun b s' hJ => ?_)
    · refine ⟨h₁, tk0, #[], rfl, rfl, rfl, fun j hj => by omega, hz₁, hs₁.extBut _ _ S.TOz hTO, fun j hj => ?_, fun j hj => ?_, hs₁.1, fun c o cz _ _ e => hs₁.extBut _ _ cz e⟩
      · rw [if_neg (by omega)]
        exact (h1 j hj).extBut hs₁.extBut (S.iz j hj)
      · exact (hl j hj).extBut hs₁.extBut (S.lz j hj)
    · obtain ⟨h, tk, arr, rfl, rfl, as, ap, hz2, hT1, ci, cl, csz, ck⟩ := hJ
      rw [Nat.zero_add] at *
      obtain ⟨hj, rfl⟩ : j < n ∧ a = Value.ref (it j) := by
        have e : (itsN n it)[j]? = some a := ej
        unfold itsN at e
        rw [List.getElem?_map] at e
        obtain ⟨q, eq, rfl⟩ := Option.map_eq_some_iff.mp e
        have hj : j < n := by
          have := (List.getElem?_eq_some_iff.mp eq).1
          rwa [List.length_range] at this
        rw [List.getElem?_range hj] at eq
        cases eq
        exact ⟨hj, rfl⟩
      have ij := ci j hj
      rw [if_neg (Nat.lt_irrefl _)] at ij
      refine wpAny_bind
            (wpAny_holding ?_)
      show wpAny _ _ (Builtin.SmallTypes.nextOf (.ref (it j)) >>= _) _ _ ⟨h, g, d, tk, os'⟩
      have D := Draws.list (prog := prog) (w := w) (A := A) hh (it j) (l j) (fun e => S.il j j hj hj e.symm) (xs j)
      refine wpAny_bind (D.item i _ _ _ (lt j hj) ⟨ij, cl j hj⟩ fun x1 p1 tk1 hx1 sn1 hp1 => wpAny_pure ?_)
      replace hp1 : Heap.SameBut (it j) h p1 := hp1
      have hx1 : (xs j)[i]? = some x1 := hx1
      obtain ⟨v, f', hz3, hv3⟩ := hz2
      refine wpAny_pure ⟨_, rfl, p1, tk1, arr.push x1, rfl, rfl, by rw [Array.size_push, as], fun q hq => ?_, ⟨v, f', hp1.extBut _ _ (S.iz j hj).symm hz3, hv3⟩, hp1.extBut _ _ (S.iTO j hj).symm hT1, fun q hq => ?_, fun q hq => ?_, by rw [hp1.1]; exact csz, fun c o cz cT cI e => hp1.extBut _ _ (cI j hj) (ck c o cz cT cI e)⟩
      · rcases Nat.lt_succ_iff_lt_or_eq.mp hq with e | e
        · rw [Array.getElem?_push_lt (by omega), ← Array.getElem?_eq_getElem (by omega)]
          exact ap q e
        · subst e
          rw [← as, Array.getElem?_push_size, as, hx1]
          rfl
      · by_cases e : q = j
        · subst e
          rw [if_pos (by omega)]
          exact sn1.1
        · have w1 : (if q < j + 1 then i + 1 else i) = (if q < j then i + 1 else i) := by
            by_cases z : q < j
            · rw [if_pos z, if_pos (by omega)]
            · rw [if_neg z, if_neg (by omega)]
          rw [w1]
          exact (ci q hq).extBut hp1.extBut (S.ii q j hq hj e)
      · exact (cl q hq).extBut hp1.extBut fun e => S.il j q hj hq e.symm
    · obtain ⟨h, tk, arr, rfl, rfl, as, ap, hz2, hT1, ci, cl, csz, ck⟩ := hJ
      have ln : (itsN n it).length = n := by unfold itsN; rw [List.length_map, List.length_range]
      have ln2 : 0 + (itsN n it).toArray.toList.length = n := by rw [Nat.zero_add]; exact ln
      rw [ln2] at as ap ci
      have ec : arr.toList = (List.range n).map fun j => ((xs j)[i]?).getD .none := by
        refine List.ext_getElem?
              fun j => ?_
        rw [Array.getElem?_toList, List.getElem?_map]
        rcases Nat.lt_or_ge j n with z | z
        · rw [ap j z, List.getElem?_range z]
          rfl
        · rw [Array.getElem?_eq_none (by omega), List.getElem?_eq_none (by rw [List.length_range]; exact z)]
          rfl
      have lc : arr.toList.length ≤ sizeLine := by rw [Array.length_toList, as, sizeLine_eq]; omega
      refine wpAny_bind (wpAny_newTuple (hsz := lc) ?_)
      rw [ec]
      obtain ⟨v, f', hz3, hv3⟩ := hz2
      refine wpAny_pure ⟨_,
            rfl, ?_⟩
      show Q (.ref h.objs.size) ⟨h.push { cls := .type "tuple", data := .seq ((List.range n).map fun j => ((xs j)[i]?).getD .none).toArray }, g, d, tk, os'⟩
      have gT := Heap.get?_push_size h (o := { cls := .type "tuple", data := .seq ((List.range n).map fun j => ((xs j)[i]?).getD .none).toArray }) rfl
      have gs := Heap.size_push h { cls := .type "tuple", data := .seq ((List.range n).map fun j => ((xs j)[i]?).getD .none).toArray }
      rw [csz] at gT gs ⊢
      refine hQ _ tk ⟨v, f', Heap.get?_push_of_some _ hz3, hv3⟩ ⟨old, Heap.get?_push_of_some _ hT1, os⟩ (fun j hj => ?_) gT gs fun c o cz cT cI e => Heap.get?_push_of_some _ (ck c o cz cT cI e)
      have := ci j hj
      rw [if_pos hj] at this
      exact this.at fun o e => Heap.get?_push_of_some _ e
theorem zipN_stop {prog : Program} {w : World} {A : Around} {E : Value → Shared → Prop} {s : Shared} {n : Nat} {z TI TO : Addr} {it l : Nat → Addr} {xs : Nat → Array Value} {i : Nat} {old : Array Value} {v0 : Value} {f : Bool} {Q : PySem.Fin → Shared → Prop}
    (S : SepN n z TI TO it l) (n1 : 0 < n) (hh : A.handled = none)
    (hz : ZipR s.heap z v0 f TI TO) (hv : v0 = .none ∨ ∃ T : Nat, v0 = rawInt T) (hTI : IsTupA s.heap TI (itsN n it).toArray) (hTO : IsTupA s.heap TO old)
    (h1 : ∀ j, j < n → s.heap.IsListIter (it j) (l j) i) (hl : ∀ j, j < n → s.heap.IsList (l j) (xs j)) (hend : (xs 0).size = i)
    (hE : ∀ h' tk e, (∀ c o, c ≠ z → c ≠ TO → (∀ j, j < n → c ≠ it j) → s.heap.get? c = some o → h'.get? c = some o) → (∃ o, h'.get? e = some o ∧ o.cls = .type "StopIteration") → E (.ref e) { s with heap := h', toks := tk }) :
    wpAny (model prog w) A (Builtin.«zip.__next__»
          ⟨[.ref z], []⟩) Q E s := by
  obtain ⟨hp, g, d, tk0, os'⟩ := s
  show wpAny _ _ (field (.ref z)
        2 >>= _) _ _ _
  refine wpAny_bind (wpAny_field hz rfl (x :=
        .bool false) rfl ?_)
  show wpAny _ _ (field (.ref z)
        3 >>= _) _ _ _
  refine wpAny_bind (wpAny_field hz rfl (x
        := .ref TI) rfl ?_)
  refine wpAny_bind (wpAny_seqItems
        hTI rfl ?_)
  have ne : (itsN n it).toArray.isEmpty = false := by
    rw [Array.isEmpty_eq_false_iff]
    intro e
    have := congrArg Array.size e
    simp at this
    omega
  simp only [ne, Bool.false_eq_true, if_false]
  show wpAny _ _ (Builtin.SmallTypes.ownedTupleIsFree
        (.ref z) >>= _) _ _ _
  refine wpAny_bind ?_
  have two : ∀ {Q' : Bool → Shared → Prop}, Q' true ⟨hp, g, d, tk0, os'⟩ → (∀ h', (∃ v f, ZipR h' z v f TI TO ∧ (v = .none ∨ ∃ T : Nat, v = rawInt T)) → Heap.SameBut z hp h' → Q' false ⟨h', g, d, tk0, os'⟩) → wpAny (model prog w) A (Builtin.SmallTypes.ownedTupleIsFree (.ref z)) Q' E ⟨hp, g, d, tk0, os'⟩ := fun {Q'} qt qf => by
    (unfold Builtin.SmallTypes.ownedTupleIsFree)
    refine wpAny_bind (wpAny_field hz rfl (x := v0) rfl ?_)
    rcases hv with rfl | ⟨T, rfl⟩
    · exact wpAny_pure qt
    · show wpAny _ _ (loadIfAlive ((T : Int).toNat) >>= _) _ _ _
      refine wpAny_bind (alive_any ?_)
      cases hp.get? ((T : Int).toNat) with
      | none =>
        simp only [Option.isNone_none,
              if_true]
        exact wpAny_pure qt
      | some o =>
        simp only [Option.isNone_some,
              Bool.false_eq_true, if_false]
        refine wpAny_bind (wpAny_field hz rfl (x
              := .bool f) rfl ?_)
        cases f with
        | true =>
          rw [if_neg (show ¬ ((Value.bool true != Value.bool true) =
                true) from Bool.false_ne_true)]
          exact wpAny_pure (qf hp ⟨_, _, hz, .inr ⟨T, rfl⟩⟩ (Heap.SameBut.refl _ _))
        | false =>
          rw [if_pos (show (Value.bool false != Value.bool
                true) = true from rfl)]
          exact wpAny_bind (wpAny_setField_rec hz (by simp) fun h₁ hz₁ hs₁ => wpAny_pure (qf h₁ ⟨_, _, hz₁, .inr ⟨T, rfl⟩⟩ hs₁))
  obtain ⟨rest, er⟩ : ∃ rest, itsN n it = .ref (it 0) :: rest := by
    obtain ⟨m, rfl⟩ : ∃ m, n = m + 1 :=
          ⟨n - 1, by omega⟩
    unfold itsN
    rw [List.range_succ_eq_map, List.map_cons]
    exact ⟨_, rfl⟩
  have D := Draws.list (prog := prog) (w := w) (A := A) hh (it 0) (l 0) (fun e => S.il 0 0 n1 n1 e.symm) (xs 0)
  refine two ?_ fun h₁ hz₁ hs₁ => ?_
  · simp only [if_true]
    refine wpAny_bind
          (wpAny_rule ?_)
    refine wpAny_bind (wpAny_field hz rfl (x
          := .ref TO) rfl ?_)
    refine wpAny_bind (wpAny_setField_rec hz (by simp)
          fun g0 hz0 hs0 => ?_)
    replace hz0 : ZipR g0 z .ellipsis f TI TO := hz0
    replace hs0 : Heap.SameBut
          z hp g0 := hs0
    refine wpAny_bind ?_
    simp only [er, List.zipIdx_cons, List.forIn_cons]
    refine wpAny_bind (wpAny_bind
          (wpAny_onRaise ?_))
    show wpAny _ _ (Builtin.SmallTypes.nextOf (.ref (it 0)) >>= _) _ _ ⟨g0, g, d, tk0, os'⟩
    refine wpAny_bind (D.done ⟨g0, g, d, tk0, os'⟩ _ _ ⟨by rw [hend]; exact (h1 0 n1).extBut hs0.extBut (S.iz 0 n1), (hl 0 n1).extBut hs0.extBut (S.lz 0 n1)⟩ fun q e hq he => ?_)
    replace hq : Heap.ExtBut (it 0) g0 q := hq
    obtain ⟨oe, hoe, hce⟩ := he
    replace hoe : q.get? e =
          some oe := hoe
    have hzq : ZipR q z .ellipsis f TI TO := hq _ _ (S.iz 0 n1).symm hz0
    have hez : e ≠ z := fun x => by
          subst x; rw [hzq] at hoe; cases hoe; simp at hce
    refine wpAny_setField_rec (s := ⟨q, g, d, tk0, os'⟩) hzq (by simp) fun q' _ hq' => ?_
    replace hq' : Heap.SameBut
          z q q' := hq'
    exact hE q' tk0 e (fun c o cz cT cI x => hq'.extBut _ _ cz (hq _ _ (cI 0 n1) (hs0.extBut _ _ cz x))) ⟨oe, hq'.extBut _ _ hez hoe, hce⟩
  · simp only [Bool.false_eq_true,
        if_false]
    refine wpAny_bind ?_
    rw [← Array.forIn_toList]
    simp only [er, List.forIn_cons]
    refine wpAny_bind (wpAny_bind
          (wpAny_holding ?_))
    show wpAny _ _ (Builtin.SmallTypes.nextOf (.ref (it 0)) >>= _) _ _ ⟨h₁, g, d, tk0, os'⟩
    refine wpAny_bind (D.done ⟨h₁, g, d, tk0, os'⟩ _ _ ⟨by rw [hend]; exact (h1 0 n1).extBut hs₁.extBut (S.iz 0 n1), (hl 0 n1).extBut hs₁.extBut (S.lz 0 n1)⟩ fun q e hq he => ?_)
    replace hq : Heap.ExtBut (it 0) h₁ q := hq
    exact hE q tk0 e (fun c o cz cT cI x => hq _ _ (cI 0 n1) (hs₁.extBut _ _ cz x)) he
theorem next_zipN_any {prog : Program} {w : World} {A : Around} {E : Value → Shared → Prop} {s : Shared} {n : Nat} {z TI TO : Addr} {it l : Nat → Addr} {xs : Nat → Array Value} {i : Nat} {old : Array Value} {v0 : Value} {f : Bool} {Q : Option Value → Shared → Prop}
    (S : SepN n z TI TO it l) (n1 : 0 < n) (nz : n ≤ 1000) (hh : A.in1.handled = none)
    (hz : ZipR s.heap z v0 f TI TO) (hv : v0 = .none ∨ ∃ T : Nat, v0 = rawInt T) (hTI : IsTupA s.heap TI (itsN n it).toArray) (hTO : IsTupA s.heap TO old) (os : old.size = n)
    (h1 : ∀ j, j < n → s.heap.IsListIter (it j) (l j) i) (hl : ∀ j, j < n → s.heap.IsList (l j) (xs j)) (lt : ∀ j, j < n → i < (xs j).size)
    (hQ : ∀ h' tk, (∃ v f, ZipR h' z v f TI TO ∧ (v = .none ∨ ∃ T : Nat, v = rawInt T)) → (∃ o', IsTupA h' TO o' ∧ o'.size = n) → (∀ j, j < n → h'.IsListIter (it j) (l j) (i + 1)) → IsTupA h' s.heap.objs.size ((List.range n).map fun j => ((xs j)[i]?).getD .none).toArray → h'.objs.size = s.heap.objs.size + 1 →
      (∀ c o, c ≠ z → c ≠ TO → (∀ j, j < n → c ≠ it j) → s.heap.get? c = some o → h'.get? c = some o) → Q (some (.ref s.heap.objs.size)) { s with heap := h', toks := tk }) :
    wpAny (model prog w) A (pyNext (.ref
          z)) Q E s := by
  have hT : s.TypeIs (.ref z) "zip"
        := ⟨_, hz, rfl⟩
  unfold pyNext
  exact wpAny_bind (wpAny_attempt (wpAny_callSpecial?_slot (name := Str.ofString
        "__next__") hT F.slot_zip_next
    (wpAny_call_entry F.slot_zip_next hT
          F.entry_zip_next
      (zipN_any S n1 nz hh hz hv hTI hTO os h1 hl lt fun h' tk b1 b2 d1 b5 b6 b7 => wpAny_pure (hQ h' tk b1 b2 d1 b5 b6 b7)) (F.args_zip_next_1 _))))
theorem next_zipN_stop {prog : Program} {w : World} {A : Around} {E : Value → Shared → Prop} {s : Shared} {n : Nat} {z TI TO : Addr} {it l : Nat → Addr} {xs : Nat → Array Value} {i : Nat} {old : Array Value} {v0 : Value} {f : Bool} {Q : Option Value → Shared → Prop}
    (S : SepN n z TI TO it l) (n1 : 0 < n) (hh : A.in1.handled = none)
    (hz : ZipR s.heap z v0 f TI TO) (hv : v0 = .none ∨ ∃ T : Nat, v0 = rawInt T) (hTI : IsTupA s.heap TI (itsN n it).toArray) (hTO : IsTupA s.heap TO old)
    (h1 : ∀ j, j < n → s.heap.IsListIter (it j) (l j) i) (hl : ∀ j, j < n → s.heap.IsList (l j) (xs j)) (hend : (xs 0).size = i)
    (hQ : ∀ h' tk, (∀ c o, c ≠ z → c ≠ TO → (∀ j, j < n → c ≠ it j) → s.heap.get? c = some o → h'.get? c = some o) → Q none { s with heap := h', toks := tk }) : wpAny (model prog w) A (pyNext (.ref z)) Q E s := by
  have hT : s.TypeIs (.ref z) "zip"
        := ⟨_, hz, rfl⟩
  unfold pyNext
  refine wpAny_bind (wpAny_attempt (wpAny_callSpecial?_slot (name := Str.ofString
        "__next__") hT F.slot_zip_next
    (wpAny_call_entry F.slot_zip_next hT F.entry_zip_next (zipN_stop S n1 hh hz hv hTI hTO h1 hl hend fun h' tk e hk he => ?_) (F.args_zip_next_1 _))))
  obtain ⟨o, ho, hc⟩ := he
  refine wpAny_bind (wpAny_isInstance (T := "StopIteration") (b :=
        true) ⟨o, ho, hc⟩ isSubtype_stop ?_)
  exact wpAny_pure (hQ _ _ hk)
/-! ### as a walk -/
def ItzN (K : PySem.W.Frag) (as : List Addr) : It :=
  ⟨fun i H => ∀ a ∈ as, ∃ xs : List V, SqK true K H a xs ∧ i < xs.length,
    fun i H v H' => ∃ T vs, v = .ref T ∧ H T = none ∧ H' = upd H T (.tup vs) ∧ vs.length = as.length ∧ ∀ (j : Nat) (a : Addr) (x : V), as[j]? = some a → vs[j]? = some x → ∀ xs, SqK true K H a xs → xs[i]? = some x,
    fun i H => (∀ a ∈ as, ∃ xs : List V, SqK true K H a xs) ∧ ∃ a xs, as[0]? = some a ∧ SqK true K H a xs ∧ xs.length = i⟩
/-- what is read of n lists at once -/
theorem rows_at {X : Cx} {pins : List (Addr × Obj)} {σ : L2.St} {H : Hp} {s : Shared} (I : Inv X pins σ H s) : ∀ as : List Addr, (∀ a ∈ as, ∃ xs : List V, SqK true X.K H a xs) →
    ∃ (vs : List (List V)) (us : List (List Value)), vs.length = as.length ∧ us.length = as.length ∧ ∀ (j : Nat) (a : Addr), as[j]? = some a → ∃ v u, vs[j]? = some v ∧ us[j]? = some u ∧ Vals v u ∧ s.heap.IsList a u.toArray ∧ SqK true X.K H a v ∧ ∀ ys, SqK true X.K H a ys → ys = v
  | [], _ => ⟨[], [], rfl, rfl, fun j a e => by simp at e⟩
  | a :: as, h => by
    obtain ⟨xs, hx⟩ := h a (by simp)
    obtain ⟨its, rv, p, un⟩ := sq_inv I true hx
    obtain ⟨vs, us, l1, l2, all⟩ := rows_at I as fun b hb => h b (List.mem_cons_of_mem _ hb)
    refine ⟨xs :: vs, its :: us, by rw [List.length_cons, List.length_cons, l1], by rw [List.length_cons, List.length_cons, l2], fun j b e => ?_⟩
    match j, e with
    | 0, e =>
      cases e
      exact ⟨xs, its, rfl, rfl, rv, p, hx, un⟩
    | j + 1, e => exact all j b e
theorem vals_map {f : Nat → V} {g : Nat → Value} : ∀ l : List Nat, (∀ j ∈ l, RelV (f j) (g j)) → Vals (l.map f) (l.map g)
  | [], _ => .nil
  | a :: l, h => .cons (h a (by simp)) (vals_map l fun j hj => h j (List.mem_cons_of_mem _ hj))
theorem turn_zipN {P : Program} {w : World} {K : PySem.W.Frag} {y : Str} {yp : Pos} {as : List Addr} {z TI TO : Addr} {it : Nat → Addr} (S : SepN as.length z TI TO it (fun j => as.getD j 0)) (n1 : 0 < as.length) (nz : as.length ≤ 10) :
    Turn P w K (.Name y yp) (ItzN K as) ([z, TI, TO] ++ (List.range as.length).map it) z (fun i h => (∃ v f, ZipR h z v f TI TO ∧ (v = .none ∨ ∃ T : Nat, v = rawInt T)) ∧ IsTupA h TI (itsN as.length it).toArray ∧ (∃ o, IsTupA h TO o ∧ o.size = as.length) ∧ ∀ j, j < as.length → h.IsListIter (it j) (as.getD j 0) i) where
  mem := by simp
  obj := fun i h st c hc => by
    obtain ⟨⟨v, f, hz, _⟩, hTI, ⟨o, hTO, _⟩, h1⟩ := st
    rcases List.mem_append.mp hc with q | q
    · have e' : c = z ∨ c = TI ∨ c = TO := by simpa using q
      rcases e' with q | q | q
      · rw [q]; exact ⟨_, hz, fun v
            q => nomatch q⟩
      · rw [q]; exact ⟨_, hTI, fun v
            q => nomatch q⟩
      · rw [q]; exact ⟨_, hTO, fun v
            q => nomatch q⟩
    · obtain ⟨j, hj, rfl⟩ := List.mem_map.mp q
      exact itAt_obj (c := true) (h1 j (List.mem_range.mp hj))
  keep := fun i h h' st k => by
    obtain ⟨⟨v, f, hz, hv⟩, hTI, ⟨o, hTO, os⟩, h1⟩ := st
    exact ⟨⟨v, f, k z (by simp) _ hz, hv⟩, k TI (by simp) _ hTI, ⟨o, k TO (by simp) _ hTO, os⟩, fun j hj => itAt_keep (c := true) (h1 j hj) fun o q => k (it j) (List.mem_append_right _ (List.mem_map.mpr ⟨j, List.mem_range.mpr hj, rfl⟩)) o q⟩
  item := by
    intro X hP hw hK hc i pins s σ
          H E I hf st hg
    subst hP hw hK
    obtain ⟨⟨v, f, hz, hv⟩, hTI, ⟨o, hTO, os⟩, h1⟩ := st
    obtain ⟨vs, us, l1, l2, all⟩ := rows_at I as fun a ha => (hg a ha).imp fun _ h => h.1
    have hzl : z < s.heap.objs.size :=
          Heap.lt_size hz
    have hd := I.ok.hd hc
    have ga : ∀ j, j < as.length → ∃ v u, as[j]? = some (as.getD j 0) ∧ vs.getD j [] = v ∧ us.getD j [] = u ∧ Vals v u ∧ s.heap.IsList (as.getD j 0) u.toArray ∧ SqK true X.K H (as.getD j 0) v ∧ (∀ ys, SqK true X.K H (as.getD j 0) ys → ys = v) ∧ i < v.length := fun j hj => by
      have e : as[j]? = some (as.getD j 0) := by rw [List.getD_eq_getElem?_getD, List.getElem?_eq_getElem hj]; rfl
      obtain ⟨v, u, e1, e2, a1, a2, a3, a4⟩ := all j _ e
      obtain ⟨ys, b1, b2⟩ := hg _ (List.mem_of_getElem? e)
      rw [a4 ys b1] at b2
      exact ⟨v, u, e, by rw [List.getD_eq_getElem?_getD, e1]; rfl, by rw [List.getD_eq_getElem?_getD, e2]; rfl, a1, a2, a3, a4, b2⟩
    refine next_zipN_any (xs := fun j => (us.getD j []).toArray) S n1 (by omega) hd hz hv hTI hTO os h1 (fun j hj => ?_) (fun j hj => ?_) fun h' tk hz' hTO' h1' hT hsz hk => ?_
    · obtain ⟨v, u, _, _, e2, _, a2, _⟩ := ga j hj
      show s.heap.IsList (as.getD j 0) (us.getD j []).toArray
      rw [e2]
      exact a2
    · obtain ⟨v, u, _, _, e2, a1, _, _, _, lt⟩ := ga j hj
      show i < (us.getD j []).toArray.size
      rw [e2, List.size_toArray, ← a1.length]
      exact lt
    refine ⟨_, rfl, ?_⟩
    show wpAny _ _ (pure ()) _ _ _
    refine wpAny_pure ?_
    have rv : Vals ((List.range as.length).map fun j => (vs.getD j []).getD i .non) ((List.range as.length).map fun j => ((us.getD j []).toArray[i]?).getD .none) := vals_map _ fun j hj => by
      obtain ⟨v, u, _, e1, e2, a1, _, _, _, lt⟩ := ga j (List.mem_range.mp hj)
      rw [e1, e2]
      obtain ⟨w', hw', rw'⟩ := a1.get (List.getElem?_eq_getElem lt)
      rw [List.getD_eq_getElem?_getD, List.getElem?_eq_getElem lt, List.getElem?_toArray, hw']
      exact rw'
    have new : ObjOk X.prog X.w (upd H s.heap.objs.size (.tup ((List.range as.length).map fun j => (vs.getD j []).getD i .non))) h' s.heap.objs.size (.tup ((List.range as.length).map fun j => (vs.getD j []).getD i .non)) :=
      ⟨by rw [List.length_map, List.length_range, sizeLine_eq]; omega, _, rv, ⟨_, hT, rfl, _, rfl⟩⟩
    have inI : ∀ {c : Addr}, (∀ j, j < as.length → c ≠ it j) ↔ c ∉ (List.range as.length).map it := fun {c} => by
      constructor
      · intro h q
        obtain ⟨j, hj, e⟩ := List.mem_map.mp q
        exact h j (List.mem_range.mp hj) e.symm
      · intro h j hj e
        exact h (List.mem_map.mpr ⟨j, List.mem_range.mpr hj, e.symm⟩)
    have I1 : Inv X pins σ (upd H s.heap.objs.size (.tup ((List.range as.length).map fun j => (vs.getD j []).getD i .non))) { s with heap := h', toks := tk } :=
      I.turnedNew (t' := tk) (ch := [z, TI, TO] ++ (List.range as.length).map it) (fun c o hb q => hk c o (fun q' => hb (by simp [q'])) (fun q' => hb (by simp [q'])) (inI.mpr fun q' => hb (List.mem_append_right _ q')) q) hf (Nat.le_refl _) new
    refine ⟨.ref s.heap.objs.size, _, I1, rfl, ⟨_, _, rfl, I.hok.fresh (Nat.le_refl _), rfl, by rw [List.length_map, List.length_range], fun j a x ea ex xs hx => ?_⟩, ⟨hz', hk _ _ S.TIz S.TITO (fun j hj => (S.iTI j hj).symm) hTI, hTO', h1'⟩, fun c hcm => ?_⟩
    · have hj : j < as.length := (List.getElem?_eq_some_iff.mp ea).1
      obtain ⟨v, u, e0, e1, e2, a1, _, _, un, lt⟩ := ga j hj
      rw [ea] at e0
      have e0 := Option.some.inj e0
      rw [List.getElem?_map, List.getElem?_range hj] at ex
      have ex := Option.some.inj ex
      rw [← ex]
      show xs[i]? = some ((vs.getD j []).getD i V.non)
      rw [e1, un xs (by rw [← e0]; exact hx), List.getD_eq_getElem?_getD, List.getElem?_eq_getElem lt]
      rfl
    · have hlt : c < s.heap.objs.size
          := by
        rcases List.mem_append.mp hcm with q | q
        · have e' : c = z ∨ c = TI ∨ c = TO := by simpa using q
          rcases e' with q | q | q
          · rw [q]; exact hzl
          · rw [q]; exact
                Heap.lt_size hTI
          · rw [q]; exact
                Heap.lt_size hTO
        · obtain ⟨j, hj, rfl⟩ := List.mem_map.mp q
          obtain ⟨_, e1, _⟩ := itAt_obj (c := true) (h1 j (List.mem_range.mp hj))
          exact Heap.lt_size e1
      rw [upd_ne (Nat.ne_of_lt
            hlt)]
      exact (hf c hcm).1
  done := by
    intro X hP hw hK hc i pins s σ
          H E I hf st hg
    subst hP hw hK
    obtain ⟨⟨v, f, hz, hv⟩, hTI, ⟨o, hTO, os⟩, h1⟩ := st
    obtain ⟨vs, us, l1, l2, all⟩ := rows_at I as hg.1
    have hd := I.ok.hd hc
    obtain ⟨a0, xs0, e0, hx0, len0⟩ := hg.2
    have ga : ∀ j, j < as.length → ∃ v u, as[j]? = some (as.getD j 0) ∧ us.getD j [] = u ∧ Vals v u ∧ s.heap.IsList (as.getD j 0) u.toArray ∧ (∀ ys, SqK true X.K H (as.getD j 0) ys → ys = v) := fun j hj => by
      have e : as[j]? = some (as.getD j 0) := by rw [List.getD_eq_getElem?_getD, List.getElem?_eq_getElem hj]; rfl
      obtain ⟨v, u, e1, e2, a1, a2, a3, a4⟩ := all j _ e
      exact ⟨v, u, e, by rw [List.getD_eq_getElem?_getD, e2]; rfl, a1, a2, a4⟩
    refine next_zipN_stop (xs := fun j => (us.getD j []).toArray) S n1 hd hz hv hTI hTO h1 (fun j hj => ?_) ?_ fun h' tk hk => ?_
    · obtain ⟨v, u, _, e2, _, a2, _⟩ := ga j hj
      show s.heap.IsList (as.getD j 0) (us.getD j []).toArray
      rw [e2]
      exact a2
    · obtain ⟨v, u, e, e2, a1, _, un⟩ := ga 0 n1
      show (us.getD 0 []).toArray.size = i
      rw [e0] at e
      have e := Option.some.inj e
      rw [e2, List.size_toArray, ← a1.length, ← un xs0 (by rw [← e]; exact hx0)]
      exact len0
    · refine ⟨rfl, I.turnedL (t' := tk) (ch := [z, TI, TO] ++ (List.range as.length).map it) (fun c o hb q => hk c o (fun q' => hb (by simp [q'])) (fun q' => hb (by simp [q'])) (fun j hj e => hb (List.mem_append_right _ (List.mem_map.mpr ⟨j, List.mem_range.mpr hj, e.symm⟩))) q) hf⟩
  self := fun A i s Q E
        st h => by
    obtain ⟨⟨v, f, hz, hv⟩, _⟩ := st
    have hT : s.TypeIs (.ref z) "zip"
          := ⟨_, hz, rfl⟩
    refine wpAny_pyIter_slot hT F.slot_zip_iter (wpAny_call_entry F.slot_zip_iter hT
          F.entry_zip_iter ?_ (F.args_zip_iter_1 _))
    show wpAny _ _ (ret (.ref
          z)) _ _ s
    exact wpAny_pure ⟨_, rfl, "zip", _, hT,
          F.slot_zip_next.lookup, h⟩
def iZipN (K : PySem.W.Frag) (te : TE) : TI := fun σ H R => te σ H fun v H1 => ∃ (p : Addr) (as : List Addr), v = .ref p ∧ SqL K H1 p (as.map V.ref) ∧ 0 < as.length ∧ as.length ≤ 10 ∧ (∀ a ∈ as, ∃ xs : List V, SqK true K H1 a xs) ∧ R (ItzN K as) H1
theorem vals_refs : ∀ {as : List Addr} {us : List Value}, Vals (as.map V.ref) us → us = as.map Value.ref
  | [], _, h => by cases h; rfl
  | a :: as, _, h => by
    cases h with
    | cons r t =>
      have r : _ = Value.ref a := r
      rw [r, vals_refs t]
      rfl
theorem pi_zipN {X : Cx} {e : Expr} {te : TE} {p p2 pos yp : Pos} {y : Str} (hg : Gl X "zip") (hm : X.mg "zip" = none) (he : PE X e te)
    (hst : starEach [.Starred e p2] X.env = [(true, eval e X.env)] := by rfl) :
    PI X (.Name y yp) (.Call (.Name "zip" p) [.Starred e p2] [] pos) (iZipN X.K te) := by
  refine ⟨fun pins s σ H
        R I h => ?_⟩
  refine Call_ (ld_blt I hg hm PyProof.Rows.boot_zip ?_)
  rw [hst]
  refine PySem.W.ks_call (P := X.K.In) rfl (fun h _ => ⟨.machine, .inr (.inl rfl), fun A Q E s k q => by unfold keeperOf; exact wpAny_pure q⟩) (PySem.W.ks_lone (thn (he.run pins s σ H _ I h) fun v s1 ⟨x, H1, I1, r1, q1⟩ => ?_))
  obtain ⟨a0, as, rfl, hS, n0, n10, rows, q⟩ := q1
  obtain rfl : v = Value.ref a0 := r1
  refine StX.star_any I1 (.inr hS) fun us s2 I2 rv => ⟨I2.kIn, ?_⟩
  rw [List.nil_append, vals_refs rv]
  have lists : ∀ a ∈ as, ∃ items, s2.heap.IsList a items := fun a ha => by
    obtain ⟨xs, hx⟩ := rows a ha
    obtain ⟨its, _, p1, _⟩ := sq_inv I2 true hx
    exact ⟨_, p1⟩
  have lt : ∀ j, j < as.length → as.getD j 0 < s2.heap.objs.size := fun j hj => by
    have e : as[j]? = some (as.getD j 0) := by rw [List.getD_eq_getElem?_getD, List.getElem?_eq_getElem hj]; rfl
    obtain ⟨its, p1⟩ := lists _ (List.mem_of_getElem? e)
    exact sq_lt (c := true) p1
  refine zip_beginsN as n10 lists fun h' hz hTI hTO hit hsz hk => wpAny_pyIter_zip hz ?_
  have I3 : Inv X pins σ H1 { s2 with heap := h' } := I2.kept (t' := s2.toks) hk
  have S : SepN as.length (s2.heap.objs.size + as.length + 2) (s2.heap.objs.size + as.length) (s2.heap.objs.size + as.length + 1) (fun j => s2.heap.objs.size + j) (fun j => as.getD j 0) := by
    have nq : ∀ {x y : Nat}, x < y ∨ y < x → ¬ (x : Addr) = y := fun {x y} h e => by
      have e' : (x : Nat) = y := e
      omega
    refine ⟨nq (by omega), nq (by omega), nq (by omega), fun j hj => nq ?_, fun j hj => nq ?_, fun j hj => nq ?_, fun j hj => nq ?_, fun j hj => nq ?_, fun j k hj hk => nq ?_, fun j k hj hk n => nq ?_⟩
    · exact .inl (show s2.heap.objs.size + j < _ by omega)
    · exact .inl (show s2.heap.objs.size + j < _ by omega)
    · exact .inl (show s2.heap.objs.size + j < _ by omega)
    · exact .inl (Nat.lt_of_lt_of_le (lt j hj) (by omega))
    · exact .inl (Nat.lt_of_lt_of_le (lt j hj) (by omega))
    · exact .inr (Nat.lt_of_lt_of_le (lt k hk) (show s2.heap.objs.size ≤ s2.heap.objs.size + j by omega))
    · rcases Nat.lt_or_gt_of_ne n with q | q
      · exact .inl (show s2.heap.objs.size + j < s2.heap.objs.size + k by omega)
      · exact .inr (show s2.heap.objs.size + k < s2.heap.objs.size + j by omega)
  have fresh : ∀ c, c ∈ [s2.heap.objs.size + as.length + 2, s2.heap.objs.size + as.length, s2.heap.objs.size + as.length + 1] ++ (List.range as.length).map (fun j => s2.heap.objs.size + j) → FpOk X pins H1 c := fun c hcm => by
    have hle : s2.heap.objs.size ≤ c := by
      rcases List.mem_append.mp hcm with q | q
      · simp only [List.mem_cons, List.not_mem_nil, or_false] at q
        omega
      · obtain ⟨j, _, rfl⟩ := List.mem_map.mp q
        omega
    exact I2.fpOk hle (I2.hok.fresh hle)
  exact ⟨_, _, _, _, H1, rfl, I3, turn_zipN S n0 n10, ⟨⟨_, _, hz, .inl rfl⟩, hTI, hTO, fun j hj => itAt_new (c := true) (hit j _ (by rw [List.getD_eq_getElem?_getD, List.getElem?_eq_getElem hj]; rfl))⟩, fresh, q⟩
end LW
set_option Elab.async false
set_option linter.all false
set_option maxRecDepth 100000
set_option maxHeartbeats 4000100
/-! for x in zip(*rows), in plain data -/
namespace LW
open L2 PySem.Spec PyProof.Rows PySem
def columns (rows : List (List Dt)) (L : Nat) : List Dt := (List.range L).map fun i => Dt.tup (rows.map fun r => r.getD i .non)
/-- rows of one length -/
def wZipS (w : WE) : WI := fun δ k e => w δ (fun x => ∃ (rows : List (List Dt)) (L : Nat), x = .lst (rows.map Dt.lst) ∧ 0 < rows.length ∧ rows.length ≤ 10 ∧ (∀ r ∈ rows, r.length = L) ∧ k (columns rows L)) e
theorem a_wZipS (w : WE) (δ : De) (k : List Dt → Prop) (e : Er → Prop) : wZipS w δ k e = w δ (fun x => ∃ (rows : List (List Dt)) (L : Nat), x = .lst (rows.map Dt.lst) ∧ 0 < rows.length ∧ rows.length ≤ 10 ∧ (∀ r ∈ rows, r.length = L) ∧ k (columns rows L)) e := Eq.trans rfl rfl
section
variable {S : Su} {M : Mu}
theorem das_map {H : Hp} {f : Nat → V} {g : Nat → Dt} : ∀ l : List Nat, (∀ j ∈ l, Da S M H (f j) (g j)) → Das S M H (l.map f) (l.map g)
  | [], _ => .nil
  | a :: l, h => .cons (h a (by simp)) (das_map l fun j hj => h j (List.mem_cons_of_mem _ hj))
theorem rows_of {H : Hp} : ∀ {rows : List (List Dt)} {vs : List V}, Das S M H vs (rows.map Dt.lst) → ∃ as : List Addr, vs = as.map V.ref ∧ as.length = rows.length ∧ ∀ (j : Nat) (a : Addr) (r : List Dt), as[j]? = some a → rows[j]? = some r → ∃ ws, SqK true S.K H a ws ∧ Das S M H ws r
  | [], vs, h => ⟨[], by rw [h.of_nil]; rfl, rfl, fun j a r e => by simp at e⟩
  | r :: rows, vs, h => by
    obtain ⟨v, vr, rfl, hv, hr⟩ := h.of_cons
    obtain ⟨p, ws, rfl, e1, q⟩ := hv.list
    obtain ⟨as, rfl, ln, all⟩ := rows_of hr
    refine ⟨p :: as, rfl, by rw [List.length_cons, List.length_cons, ln], fun j a r' ea er => ?_⟩
    match j, ea, er with
    | 0, ea, er =>
      cases ea
      cases er
      exact ⟨ws, .inl (.inl e1), q⟩
    | j + 1, ea, er => exact all j a r' ea er
theorem itS_zipN {as : List Addr} {rows : List (List Dt)} {L : Nat} (ln : as.length = rows.length) (n1 : 0 < rows.length) (all : ∀ r ∈ rows, r.length = L) :
    ItS S M (ItzN S.K as) (columns rows L) (fun B H => ∀ (j : Nat) (a : Addr) (r : List Dt), as[j]? = some a → rows[j]? = some r → ∃ ws, SqK true S.K (hv B H) a ws ∧ Das S M (hv B H) ws r) := by
  have cl : (columns rows L).length = L := by unfold columns; rw [List.length_map, List.length_range]
  have at_ : ∀ {B : List Addr} {H : Hp}, (∀ (j : Nat) (a : Addr) (r : List Dt), as[j]? = some a → rows[j]? = some r → ∃ ws, SqK true S.K (hv B H) a ws ∧ Das S M (hv B H) ws r) → ∀ a ∈ as, ∃ ws, SqK true S.K H a ws ∧ ws.length = L := fun {B H} h a ha => by
    obtain ⟨j, hj⟩ := List.getElem?_of_mem ha
    have lj := (List.getElem?_eq_some_iff.mp hj).1
    have er : rows[j]? = some rows[j] := List.getElem?_eq_getElem (by omega)
    obtain ⟨ws, x, y⟩ := h j a _ hj er
    exact ⟨ws, sqK_full x, by rw [y.len]; exact all _ (List.mem_of_getElem? er)⟩
  refine ⟨fun B B' H H' s h j a r ea er => (h j a r ea er).imp fun ws ⟨x, y⟩ => ⟨sqK_same s x, y.same s⟩, fun i B H hi h a ha => ?_, fun B H h => ?_, fun i B H x H' d e h hd y => ?_⟩
  · rw [cl] at hi
    obtain ⟨ws, x, l⟩ := at_ h a ha
    exact ⟨ws, x, by omega⟩
  · rw [cl]
    refine ⟨fun a ha => (at_ h a ha).imp fun _ z => z.1, ?_⟩
    have e0 : as[0]? = some as[0] := List.getElem?_eq_getElem (by omega)
    obtain ⟨ws, x, l⟩ := at_ h _ (List.mem_of_getElem? e0)
    exact ⟨_, ws, e0, x, l⟩
  · obtain ⟨T, vs, rfl, nT, rfl, vl, ys⟩ := y
    have hi : i < L := by
      have := (List.getElem?_eq_some_iff.mp e).1
      rwa [cl] at this
    have ed : d = .tup (rows.map fun r => r.getD i .non) := by
      unfold columns at e
      rw [List.getElem?_map, List.getElem?_range hi] at e
      exact (Option.some.inj e).symm
    subst ed
    have nB : T ∉ B := fun z => hd T z nT
    have hs : Same (hv B H) (hv B (upd H T (.tup vs))) := Go.hv (Go.of (same_new nT))
    refine ⟨same_new nT, .tup' (.inl (.inl (by rw [hv_out nB]; exact upd_same))) ?_⟩
    have each : ∀ j, j < rows.length → Da S M (hv B (upd H T (.tup vs))) (vs.getD j .non) ((rows.getD j []).getD i .non) := fun j hj => by
      have ea : as[j]? = some as[j] := List.getElem?_eq_getElem (by omega)
      have er : rows[j]? = some rows[j] := List.getElem?_eq_getElem hj
      have ev : vs[j]? = some vs[j] := List.getElem?_eq_getElem (by omega)
      obtain ⟨ws, x, q⟩ := h j _ _ ea er
      have ex := ys j _ _ ea ev ws (sqK_full x)
      have lr := all _ (List.mem_of_getElem? er)
      rw [List.getD_eq_getElem?_getD, ev, List.getD_eq_getElem?_getD, List.getD_eq_getElem?_getD, er]
      show Da S M _ vs[j] ((rows[j][i]?).getD .non)
      rw [List.getElem?_eq_getElem (by omega)]
      exact (q.all i _ _ ex (List.getElem?_eq_getElem (by omega))).same hs
    have e1 : vs = (List.range rows.length).map fun j => vs.getD j .non := by
      refine List.ext_getElem?
            fun j => ?_
      rw [List.getElem?_map]
      rcases Nat.lt_or_ge j rows.length with z | z
      · rw [List.getElem?_range z, List.getElem?_eq_getElem (by omega), Option.map_some, List.getD_eq_getElem?_getD, List.getElem?_eq_getElem (by omega)]
        rfl
      · rw [List.getElem?_eq_none (by omega), List.getElem?_eq_none (by rw [List.length_range]; exact z)]
        rfl
    have e2 : (rows.map fun r => r.getD i .non) = (List.range rows.length).map fun j => (rows.getD j []).getD i .non := by
      refine List.ext_getElem?
            fun j => ?_
      rw [List.getElem?_map,
            List.getElem?_map]
      rcases Nat.lt_or_ge j rows.length with z | z
      · have er : rows.getD j [] = rows[j] := by
          rw [List.getD_eq_getElem?_getD, List.getElem?_eq_getElem z]
          rfl
        rw [List.getElem?_range z, List.getElem?_eq_getElem z, Option.map_some, Option.map_some]
        show some (rows[j].getD i .non) = some ((rows.getD j []).getD i .non)
        rw [er]
      · rw [List.getElem?_eq_none z, List.getElem?_eq_none (by rw [List.length_range]; exact z)]
        rfl
    have dd := das_map (S := S) (M := M) (H := hv B (upd H T (.tup vs))) (f := fun j => vs.getD j .non) (g := fun j => (rows.getD j []).getD i .non) (List.range rows.length) fun j hj => each j (List.mem_range.mp hj)
    rw [← e1, ← e2] at dd
    exact dd
end
section
variable {X : Cx} {S : Su} {E : XK} {x : Expr} {w : WE} {p p2 pos yp : Pos} {y : Str}
theorem xZipS (hg : Gl X "zip") (hm : X.mg "zip" = none) (h : PE X x (tP S E w)) (hst : starEach [.Starred x p2] X.env = [(true, eval x X.env)] := by rfl) (hK : X.K = S.K := by rfl) :
    PI X (.Name y yp) (.Call (.Name "zip" p) [.Starred x p2] [] pos) (tPI S E (wZipS w)) :=
  piTo (pi_zipN hg hm h hst) fun σ H R ⟨M, A, L, δ, k, e, f, hw, a, ax⟩ =>
  ⟨M, A, L, δ, _, e, f, hw, fun v d H1 s1 m1 hv hk => by
    obtain ⟨rows, LL, rfl, n0, n10, all, hk⟩ := hk
    obtain ⟨q, vs, rfl, e1, dq⟩ := hv.list
    obtain ⟨as, rfl, ln, ra⟩ := rows_of dq
    rw [hK]
    refine ⟨q, as, rfl, .inl (.inl (hv_le _ _ e1)), by omega, by omega, fun b hb => ?_, a _ _ _ H1 s1 m1 (itS_zipN ln n0 all) ra hk⟩
    obtain ⟨j, hj⟩ :=
          List.getElem?_of_mem hb
    have lj := (List.getElem?_eq_some_iff.mp hj).1
    obtain ⟨ws, z, _⟩ := ra j b _ hj (List.getElem?_eq_getElem (by omega))
    exact ⟨ws, sqK_full z⟩, ax⟩
end
end LW
set_option Elab.async false
set_option linter.all false
set_option maxRecDepth 100000
set_option maxHeartbeats 4000100
/-! max of a tuple of numbers -/
namespace LW
open L2 PySem.Spec PyProof.Rows PySem
def rMaxT (K : PySem.W.Frag) : List V → Hp → VK → Prop := fun vs H Q => ∃ (a : Addr) (ns : List Int), vs = [V.ref a] ∧ SqT K H a (ns.map V.int) ∧ ns ≠ [] ∧ ∀ m, m ∈ ns → (∀ y ∈ ns, y ≤ m) → Q (.int m) H
theorem fold_most : ∀ (ns : List Int) (n : Int), ns.foldl max n ∈ n :: ns ∧ ∀ y ∈ n :: ns, y ≤ ns.foldl max n
  | [], n => ⟨by simp, fun y h => by rw [List.mem_singleton.mp h]; exact Int.le_refl _⟩
  | a :: ns, n => by
    obtain ⟨h1, h2⟩ := fold_most ns (max n a)
    rw [List.foldl_cons]
    refine ⟨?_, fun y hy => ?_⟩
    · rcases List.mem_cons.mp h1 with z | z
      · rw [z]
        by_cases q : n ≤ a
        · rw [Int.max_eq_right q]; simp
        · rw [Int.max_eq_left (by omega)]; simp
      · simp [z]
    · have h3 := h2 (max n a) (by simp)
      have i1 : n ≤ max n a := Int.le_max_left _ _
      have i2 : a ≤ max n a := Int.le_max_right _ _
      simp only [List.mem_cons] at hy
      rcases hy with rfl | rfl | hy
      · omega
      · omega
      · exact h2 y (List.mem_cons_of_mem _ hy)
section
variable {X : Cx}
theorem cr_maxT (hc : X.calm = true) {k : Nat} (hr : Room k X.A) : CallR X (.builtin "max") (rMaxT X.K) := by
  intro pins s σ H vs
        us Q I r h
  obtain ⟨a, ns, rfl, hs, ne, q⟩ := h
  obtain ⟨its, rv, ht, _⟩ := I.tuple hs
  rw [Vals.ref1 r]
  have un := hr.un
  obtain ⟨n, ns, rfl⟩ := List.exists_cons_of_ne_nil ne
  have hd : DAll X.K H ((n :: ns).map V.int) ((n :: ns).map PyData.int) := dall_ints _
  obtain ⟨as, ra, _⟩ := readsAll_of (P := fun _ => True) (h := s.heap) (us := its) (ds := (n :: ns).map PyData.int) trivial (fun _ _ _ _ => trivial) (by rw [← rv.length, List.length_map, List.length_map]) fun i u d h1 h2 => by
    obtain ⟨v, e, rx⟩ := vals_get' rv h1
    obtain ⟨as, z⟩ := D.reads I (hd.all i v d e h2) u rx
    exact ⟨as, z, trivial⟩
  refine PySem.W.max_tuple_data (vs := its.toArray) (I.ok.hd hc) ht ra ?_ ?_ fun i v h' tk bs _ rd hk => ?_
  · have of : ∀ z, z ∈ PyData.int n :: ns.map PyData.int → ∃ x, z = .int x := fun z hz => by
      rcases List.mem_cons.mp hz
            with rfl | hz
      · exact ⟨_, rfl⟩
      · obtain ⟨x, _, rfl⟩ := List.mem_map.mp hz
        exact ⟨_, rfl⟩
    refine ⟨fun a ha b hb => ?_, fun a ha => ?_⟩
    · obtain ⟨x, rfl⟩ := of a ha
      obtain ⟨y, rfl⟩ := of b hb
      rfl
    · obtain ⟨x, rfl⟩ := of a ha
      exact fun z => nomatch z
  · have : PyData.depthAll (.int n :: ns.map PyData.int) = 0 := depth_ints (n :: ns)
    rw [this]
    omega
  · rw [PySem.W.maxD_ints] at rd
    obtain ⟨m1, m2⟩ := fold_most ns n
    cases rd with
    | int _ t => exact ⟨.int _, H, I.kept hk, ⟨_, rfl⟩, q _ m1 m2⟩
end
def gMaxT : GC
  | [.tup l], k => ∃ ns, intsOf l = some ns ∧ ns ≠ [] ∧ ∀ m, m ∈ ns → (∀ y ∈ ns, y ≤ m) → k (.int m)
  | _, _ => False
section
variable {S : Su}
theorem pMaxT : CallP S (rMaxT S.K) gMaxT := by
  intro M L A H xs ds k Q hd m dis hx g a
  unfold gMaxT at g
  split at g
  · obtain ⟨v, rfl, hv⟩ := hx.one
    obtain ⟨ns, e, ne, hk⟩ := g
    obtain ⟨p, vs, rfl, e1, q1⟩ := hv.tuple
    rw [intsOf_eq e] at q1
    rw [q1.of_ints] at e1
    exact ⟨p, ns, rfl, e1, ne, fun mm h1 h2 => a _ _ _ .refl m (.int _) (hk mm h1 h2)⟩
  · exact g.elim
end
end LW
set_option Elab.async false
set_option linter.all false
set_option maxRecDepth 100000
set_option maxHeartbeats 4000100
/-! divisions by what is due first: which of them are fair -/
namespace LW
/-- one more for each that is chosen -/
def plusL (cs : List Int) (T : List Nat) : List Int := cs.zipIdx.map fun p => if p.2 ∈ T then p.1 + 1 else p.1
theorem plusL_at {cs : List Int} {T : List Nat} {i : Nat} {c : Int} (h : cs[i]? = some c) : (plusL cs T)[i]? = some (if i ∈ T then c + 1 else c) := by
  unfold plusL
  rw [List.getElem?_map, List.getElem?_zipIdx, h]
  simp
theorem plusL_out {cs : List Int} {T : List Nat} {i : Nat} (h : cs[i]? = none) : (plusL cs T)[i]? = none := by
  unfold plusL
  rw [List.getElem?_map, List.getElem?_zipIdx, h]
  rfl
/-! ### choices -/
/-! ### what is due first -/
/-- all that was given was due before all that comes next -/
def CutD (D : Nat → Int → Int) (cs : List Int) : Prop := ∀ (i j : Nat) (a b k : Int), cs[i]? = some a → cs[j]? = some b → 0 ≤ k → k < a → D i k < D j b
def UpD (D : Nat → Int → Int) : Prop := ∀ (i : Nat) (k : Int), 0 ≤ k → D i k < D i (k + 1)
theorem UpD.le {D : Nat → Int → Int} (u : UpD D) {i : Nat} {a b : Int} (h0 : 0 ≤ a) (h : a ≤ b) : D i a ≤ D i b := by
  obtain ⟨n, rfl⟩ := Int.le.dest h
  induction n with
  | zero => simp
  | succ n ih =>
    have h1 := ih (by omega)
    have h2 := u i (a + n) (by omega)
    rw [show a + ((n + 1 : Nat) : Int) = a + n + 1 by omega]
    omega
variable {D : Nat → Int → Int} {cs : List Int} {T : List Nat} {t : Int}
/-- who is due first, and when -/
structure DueT (D : Nat → Int → Int) (cs : List Int) (T : List Nat) (t : Int) : Prop where
  le : ∀ (j : Nat) (b : Int), cs[j]? = some b → t ≤ D j b
  mem : ∀ j, j ∈ T ↔ ∃ b, cs[j]? = some b ∧ D j b = t
  asc : T.Pairwise (· < ·)
  ne : T ≠ []
/-- those who are due get one more -/
theorem CutD.next (u : UpD D) (nn : ∀ c ∈ cs, 0 ≤ c) (c : CutD D cs) (d : DueT D cs T t) : CutD D (plusL cs T) := by
  intro i j a b k h1 h2 k0 ka
  have get : ∀ (i : Nat) (a : Int), (plusL cs T)[i]? = some a → ∃ z, cs[i]? = some z ∧ a = if i ∈ T then z + 1 else z := fun i a h => by
    cases q : cs[i]? with
    | none => rw [plusL_out q] at h; cases h
    | some z => rw [plusL_at q] at h; cases h; exact ⟨z, rfl, rfl⟩
  obtain ⟨x, e1, rfl⟩ := get i a h1
  obtain ⟨y, e2, rfl⟩ := get j b h2
  have y0 := nn y (List.mem_of_getElem? e2)
  -- what was given is due by t
  have le : D i k ≤ t := by
    by_cases m : i ∈ T
    · rw [if_pos m] at ka
      obtain ⟨x', e1', dx⟩ := (d.mem i).mp m
      rw [e1] at e1'
      cases e1'
      rw [← dx]
      exact u.le k0 (by omega)
    · rw [if_neg m] at ka
      obtain ⟨z, hz⟩ := List.exists_mem_of_ne_nil T d.ne
      obtain ⟨b, eb, db⟩ := (d.mem z).mp hz
      have := c i z x b k e1 eb k0 ka
      omega
  -- what comes next is due later
  have lt : t < D j (if j ∈ T then y + 1 else y) := by
    by_cases m : j ∈ T
    · rw [if_pos m]
      obtain ⟨y', e2', dy⟩ := (d.mem j).mp m
      rw [e2] at e2'
      cases e2'
      have := u j y y0
      omega
    · rw [if_neg m]
      have := d.le j y e2
      have : D j y ≠ t := fun z => m ((d.mem j).mpr ⟨y, e2, z⟩)
      omega
  omega
end LW
set_option Elab.async false
set_option linter.all false
set_option maxRecDepth 100000
set_option maxHeartbeats 4000100
/-! the greatest sum of gains over all splits of items: mathematics of splits.py -/
namespace LW
/-- the gain of a count: none behind the list -/
def gn (g : List Int) (k : Nat) : Int := g.getD k 0
def gsum (g : List Int) (ks : List Nat) : Int := (ks.map (gn g)).sum
/-- the greatest sum of gains in a split of t items among c claimants -/
structure Best (g : List Int) (c t : Nat) (m : Int) : Prop where
  ex : ∃ ks : List Nat, ks.length = c ∧ ks.sum = t ∧ gsum g ks = m
  up : ∀ ks : List Nat, ks.length = c → ks.sum = t → gsum g ks ≤ m
theorem gsum_cons (g : List Int) (k : Nat) (ks : List Nat) : gsum g (k :: ks) = gn g k + gsum g ks := by
  unfold gsum
  rw [List.map_cons,
        List.sum_cons]
theorem gn_in {g : List Int} {k : Nat} (h : k ≤ g.length) : (g ++ [0]).getD k 0 = gn g k := by
  unfold gn
  rw [List.getD_eq_getElem?_getD, List.getD_eq_getElem?_getD]
  rcases Nat.lt_or_eq_of_le h with z | z
  · rw [List.getElem?_append_left z]
  · subst z
    rw [List.getElem?_append_right (Nat.le_refl _), Nat.sub_self, List.getElem?_eq_none (Nat.le_refl _)]
    rfl
theorem gn_behind {g : List Int} {k : Nat} (h : g.length ≤ k) : gn g k = 0 := by
  unfold gn
  rw [List.getD_eq_getElem?_getD, List.getElem?_eq_none h]
  rfl
theorem gsum_perm {g : List Int} {a b : List Nat} (p : a.Perm b) : gsum g a = gsum g b := by
  unfold gsum
  induction p with
  | nil => rfl
  | cons x _ ih => rw [List.map_cons, List.map_cons, List.sum_cons, List.sum_cons, ih]
  | swap x y l => rw [List.map_cons, List.map_cons, List.map_cons, List.map_cons, List.sum_cons, List.sum_cons, List.sum_cons, List.sum_cons]; omega
  | trans _ _ h1 h2 => rw [h1, h2]
theorem nsum_perm {a b : List Nat} (p : a.Perm b) : a.sum = b.sum := by
  induction p with
  | nil => rfl
  | cons x _ ih => rw [List.sum_cons, List.sum_cons, ih]
  | swap x y l => rw [List.sum_cons, List.sum_cons, List.sum_cons, List.sum_cons]; omega
  | trans _ _ h1 h2 => rw [h1, h2]
/-- one of the counts first -/
theorem first_of {ks : List Nat} {k : Nat} (h : k ∈ ks) : ∃ r, ks.Perm (k :: r) := ⟨_, List.perm_cons_erase h⟩
theorem gsum_zero {g : List Int} {ks : List Nat} (h : ∀ k ∈ ks, g.length ≤ k) : gsum g ks = 0 := by
  induction ks with
  | nil => rfl
  | cons k ks ih =>
    rw [gsum_cons, gn_behind (h k (by simp)), ih fun x hx => h x (List.mem_cons_of_mem _ hx)]
    rfl
theorem gsum_le {g : List Int} {M : Int} (hM : ∀ k, gn g k ≤ M) (ks : List Nat) : gsum g ks ≤ (ks.length : Int) * M := by
  induction ks with
  | nil => simp [gsum]
  | cons k ks ih =>
    rw [gsum_cons, List.length_cons]
    have := hM k
    have e : ((ks.length + 1 : Nat) : Int) * M = (ks.length : Int) * M + M := by
      rw [Int.natCast_add, Int.add_mul]
      omega
    omega
/-- one claimant -/
theorem best_one (g : List Int) (t : Nat) : Best g 1 t (gn g t) := by
  refine ⟨⟨[t], rfl, by simp, by rw [gsum_cons]; simp [gsum]⟩, fun ks h1 h2 => ?_⟩
  match ks, h1 with
  | [k], _ =>
    have : k = t := by simpa using h2
    rw [this, gsum_cons]
    simp [gsum]
/-- what the row of a count has at a total -/
def rowAt (g sums : List Int) (filler : Int) (t count : Nat) : Int := if t < count then filler else sums.getD (t - count) 0 + (g ++ [0]).getD count 0
/-- another claimant -/
theorem best_step {g sums : List Int} {c : Nat} (c1 : 1 ≤ c) (h : ∀ t, t < sums.length → Best g c t (sums.getD t 0)) {filler : Int} {t : Nat} (ht : t < sums.length)
    (fil : filler ≤ rowAt g sums filler t 0) {m : Int} (mem : ∃ count, count ≤ g.length ∧ rowAt g sums filler t count = m) (up : ∀ count, count ≤ g.length → rowAt g sums filler t count ≤ m) : Best g (c + 1) t m := by
  have real : ∀ count, count ≤ g.length → count ≤ t → rowAt g sums filler t count = m → ∃ ks : List Nat, ks.length = c + 1 ∧ ks.sum = t ∧ gsum g ks = m := fun count hc hl e => by
    obtain ⟨ks, l1, l2, l3⟩ := (h (t - count) (by omega)).ex
    refine ⟨count :: ks, by rw [List.length_cons, l1], by rw [List.sum_cons, l2]; omega, ?_⟩
    rw [gsum_cons, l3, ← e]
    unfold rowAt
    rw [if_neg (by omega), gn_in hc]
    omega
  refine ⟨?_, fun ks h1 h2 => ?_⟩
  · obtain ⟨count, hc, e⟩ := mem
    by_cases hl : count ≤ t
    · exact real count hc hl e
    · refine real 0 (Nat.zero_le _) (Nat.zero_le _) (Int.le_antisymm (up 0 (Nat.zero_le _)) ?_)
      unfold rowAt at e
      rw [if_pos (by omega)] at e
      omega
  · by_cases x : ∃ k ∈ ks, k < g.length
    · obtain ⟨k, hk, kl⟩ := x
      obtain ⟨r, p⟩ := first_of hk
      have s := nsum_perm p
      have l := p.length_eq
      rw [List.sum_cons] at s
      rw [List.length_cons] at l
      rw [gsum_perm p, gsum_cons]
      have b := (h (t - k) (by omega)).up r (by omega) (by omega)
      have u := up k (by omega)
      unfold rowAt at u
      rw [if_neg (by omega), gn_in (by omega)] at u
      omega
    · have all : ∀ k ∈ ks, g.length ≤ k := fun k hk => Nat.not_lt.mp fun z => x ⟨k, hk, z⟩
      rw [gsum_zero all]
      match ks, h1 with
      | [], h1 => simp at h1
      | [a], h1 => simp at h1; omega
      | a :: b :: r, h1 =>
        have ha := all a (by simp)
        have hb := all b (by simp)
        rw [List.sum_cons, List.sum_cons] at h2
        have lr : r.length + 1 = c := by simpa using h1
        have w := (h (t - g.length) (by omega)).up ((b + a - g.length) :: r) (by rw [List.length_cons]; exact lr) (by rw [List.sum_cons]; omega)
        rw [gsum_zero (fun k hk => by
          rcases List.mem_cons.mp hk with z | z
          · omega
          · exact all k (by simp [z]))] at w
        have u := up g.length (Nat.le_refl _)
        unfold rowAt at u
        rw [if_neg (by omega), gn_in (Nat.le_refl _), gn_behind (Nat.le_refl _)] at u
        omega
/-- so many items that one count stands behind the list -/
theorem best_many {g : List Int} {c t : Nat} (c1 : 1 ≤ c) (ht : g.length * c ≤ t) {M : Int} (mem : M = 0 ∨ M ∈ g) (up : 0 ≤ M ∧ ∀ x ∈ g, x ≤ M) : Best g c t (((c - 1 : Nat) : Int) * M) := by
  have hM : ∀ k, gn g k ≤ M := fun k => by
    unfold gn
    rw [ List.getD_eq_getElem?_getD ]
    cases e : g[k]? with
    | none => exact up.1
    | some x => exact up.2 x (List.mem_of_getElem? e)
  obtain ⟨k, kl, ek⟩ : ∃ k, k ≤ g.length ∧ gn g k = M := by
    rcases mem with z | z
    · exact ⟨g.length, Nat.le_refl _, by rw [gn_behind (Nat.le_refl _), z]⟩
    · obtain ⟨k, hk⟩ := List.getElem?_of_mem z
      refine ⟨k, Nat.le_of_lt (List.getElem?_eq_some_iff.mp hk).1, ?_⟩
      unfold gn
      rw [List.getD_eq_getElem?_getD, hk]
      rfl
  refine ⟨?_, fun ks h1 h2 => ?_⟩
  · have rs : ∀ n : Nat, (List.replicate n k).sum = n * k := fun n => by
      induction n with
      | zero => simp
      | succ n ih => rw [List.replicate_succ, List.sum_cons, ih, Nat.add_mul]; omega
    have rg : ∀ n : Nat, gsum g (List.replicate n k) = (n : Int) * M := fun n => by
      induction n with
      | zero => simp [gsum]
      | succ n ih =>
        rw [List.replicate_succ, gsum_cons, ih, ek, Int.natCast_add, Int.add_mul]
        omega
    have bound : (c - 1) * k ≤ (c - 1) * g.length := Nat.mul_le_mul_left _ kl
    have e : g.length * c = (c - 1) * g.length + g.length := by
      obtain ⟨d, rfl⟩ : ∃ d, c = d + 1 := ⟨c - 1, by omega⟩
      rw [Nat.add_sub_cancel, Nat.mul_comm, Nat.add_mul]
      omega
    refine ⟨(t - (c - 1) * k) :: List.replicate (c - 1) k, by rw [List.length_cons, List.length_replicate]; omega, by rw [List.sum_cons, rs]; omega, ?_⟩
    rw [gsum_cons, rg, gn_behind (by omega)]
    omega
  · have ex : ∃ k ∈ ks, g.length ≤ k := by
      refine Classical.byContradiction fun no => ?_
      have all : ∀ k ∈ ks, k < g.length := fun k hk => Nat.not_le.mp fun z => no ⟨k, hk, z⟩
      have s : ∀ l : List Nat, (∀ k ∈ l, k < g.length) → l.sum + l.length ≤ g.length * l.length := fun l => by
        induction l with
        | nil => intro _; simp
        | cons a l ih =>
          intro h
          have := ih fun k hk => h k (List.mem_cons_of_mem _ hk)
          have := h a (by simp)
          rw [List.sum_cons, List.length_cons, Nat.mul_add, Nat.mul_one]
          omega
      have := s ks all
      rw [h1, h2] at this
      omega
    obtain ⟨k, hk, kl⟩ := ex
    obtain ⟨r, p⟩ := first_of hk
    have l := p.length_eq
    rw [List.length_cons] at l
    rw [gsum_perm p, gsum_cons, gn_behind kl]
    have := gsum_le hM r
    have e : r.length = c - 1 := by omega
    rw [e] at this
    omega
/-- the values themselves: those of the list, and start + k * step behind it -/
def valAt (vs : List Int) (start step : Int) (k : Nat) : Int := if k < vs.length then vs.getD k 0 else start + (k : Int) * step
def gains (vs : List Int) (start step : Int) : List Int := (List.range vs.length).map fun k => vs.getD k 0 - start - (k : Int) * step
theorem val_gain (vs : List Int) (start step : Int) (k : Nat) : valAt vs start step k = start + (k : Int) * step + gn (gains vs start step) k := by
  have gl : (gains vs start step).length = vs.length := by unfold gains; rw [List.length_map, List.length_range]
  unfold valAt
  by_cases h : k < vs.length
  · rw [if_pos h]
    have : gn (gains vs start step) k = vs.getD k 0 - start - (k : Int) * step := by
      unfold gn gains
      rw [List.getD_eq_getElem?_getD, List.getElem?_map,
            List.getElem?_range h]
      rfl
    omega
  · rw [if_neg h, gn_behind (by omega)]
    omega
theorem val_sum (vs : List Int) (start step : Int) (ks : List Nat) : (ks.map (valAt vs start step)).sum = start * (ks.length : Int) + (ks.sum : Int) * step + gsum (gains vs start step) ks := by
  induction ks with
  | nil => simp [gsum]
  | cons k ks ih =>
    rw [List.map_cons, List.sum_cons, ih, val_gain, gsum_cons, List.length_cons, List.sum_cons, Int.natCast_add, Int.natCast_add, Int.mul_add, Int.add_mul]
    omega
/-- the greatest sum of values -/
theorem best_val {vs : List Int} {start step : Int} {c t : Nat} {m : Int} (b : Best (gains vs start step) c t m) :
    (∃ ks : List Nat, ks.length = c ∧ ks.sum = t ∧ (ks.map (valAt vs start step)).sum = start * (c : Int) + (t : Int) * step + m) ∧
    ∀ ks : List Nat, ks.length = c → ks.sum = t → (ks.map (valAt vs start step)).sum ≤ start * (c : Int) + (t : Int) * step + m := by
  constructor
  · obtain ⟨ks, h1, h2, h3⟩ := b.ex
    exact ⟨ks, h1, h2, by rw [val_sum, h1, h2, h3]⟩
  · intro ks h1 h2
    have := b.up ks h1 h2
    rw [val_sum, h1, h2]
    omega
end LW
set_option Elab.async false
set_option linter.all false
set_option maxRecDepth 100000
set_option maxHeartbeats 4000100
/-! defs with one default, called with all they take -/
namespace LW
open L2 PySem.Spec PyProof.Rows PySem
structure OwnDefD (K : PySem.W.Frag) (mg : Str → Option Value) (x : Str) (st : Stmt) (dv : V) : Prop where
  ex : ∃ (f : Addr) (fd : FuncData), FunD K x x (defArgs st) (defBody st) (defScope st) [dv] [] f fd ∧ mg x = some (.ref f)
theorem own_mkD {K : PySem.W.Frag} {h : Heap} {mg : Str → Option Value} {x : Str} {st : Stmt} {f T : Addr} {oc kV dc pm cd ct : Value} {od an : Option Addr} {sl : Array (Option Value)} {o : Obj} {i : Int} {t : Tok} {n : Nat} (X : K.In h) (G : h.Ns mainGlobals mg)
    (a : PySem.W.nsIn K mainGlobals x = some (some (.ref f)))
    (l : K.lookup f = some ⟨oc, od, .func (PySem.W.fnOf x x (defArgs st) (defBody st) (defScope st) (.ref T) kV dc pm an cd ct), sl⟩)
    (co : PySem.W.codeIn K cd x = true) (k : PySem.W.keepIn K (.ref f) = true) (lT : K.lookup T = some o) (oT : o.data = .seq [Value.int i t].toArray n) : OwnDefD K mg x st (.int i) :=
  ⟨f, _, ⟨⟨oc, od, .ref T, kV, dc, pm, an, cd, ct, sl, rfl, l, co, .inr ⟨by simp, T, o, [Value.int i t], n, rfl, lT, oT, .cons ⟨t, rfl⟩ .nil⟩, .inl rfl⟩, k⟩, PySem.W.mg_of X G a⟩
section
variable {P : Program} {w : World} {K : PySem.W.Frag} {mg : Str
      → Option Value} {base : Heap}
theorem calGD_by {S : Su} {x : Str} {st : Stmt} {N ps : List Str} {wb : WS} {k n : Nat} {dv : V} (DD : OwnDefD K mg x st dv) (sc : FnScope N ps (defScope st)) (hn : n = ps.length)
    (bd : ∀ (f : Addr) (fd : FuncData), FunD K x x (defArgs st) (defBody st) (defScope st) [dv] [] f fd → Binds K fd ps []) (body : Bdy P w K mg base k x st N S wb) : CalG P w K mg base (k + 1) x (spW S n (wFn N.length wb)) [] := by
  obtain ⟨f, fd, F, hm⟩ := DD.ex
  have b := bd f fd F
  have kp := F.kp
  obtain ⟨oc, od, dV, kV, doc, pm, an, cdv, ct, osl,
        rfl, lk, hcd, _, _⟩ := F.ex
  refine ⟨f, _, ps, [], fnG_of lk hcd sc (fun vs H Q E h => by rw [← hn]; exact spW_len vs H Q E h) ?_, hm, kp, b, .nil⟩
  intro A outer s H vs Q E room quiet want
  exact ⟨_, (body f cdv A outer s H E room quiet).nox, fnT want⟩
theorem bindsD2 {x : Str} {st : Stmt} {f : Addr} {fd : FuncData} {dv : V} {p1 p2 : Str} (F : FunD K x x (defArgs st) (defBody st) (defScope st) [dv] [] f fd)
    (h : ∀ (T : Addr) (kV doc pm : Value) (an : Option Addr) (cdv ct : Value) (u1 u2 i : Value), ∃ k, bindArgs (PySem.W.fnOf x x (defArgs st) (defBody st) (defScope st) (.ref T) kV doc pm an cdv ct) ⟨[u1, u2], []⟩ = seqItems? (.ref T) >>= k ∧ k (some #[i]) = pure [(p1, u1), (p2, u2)]) : Binds K fd [p1, p2] [] := by
  obtain ⟨ds, r, b⟩ := F.binds1 (ps := [p1, p2]) 2 1 (by simp) rfl fun T kV doc pm an cdv ct us its h1 h2 => match us, its, h1, h2 with
    | [u1, u2], [i], _, _ => h T kV doc pm an cdv ct u1 u2 i
  cases r
  exact b
end
end LW
set_option Elab.async false
set_option linter.all false
set_option maxRecDepth 100000
set_option maxHeartbeats 4000100
/-! [x] * n as a list that nothing else knows -/
set_option Elab.async false
set_option linter.all false
namespace LW
open PySem PySem.Spec PyProof.Rows L2 StX
section
variable {X : Cx} {S : Su} {E : XK} {x y z : Expr} {pos : Pos} {wt : WT} {wa wb : WE}
/-- one of two new lists -/
theorem xIfF (hc : PT X z (tPT S E wt)) (ha : PE X x (tPF S E wa)) (hb : PE X y (tPF S E wb)) : PE X (.IfExp z x y pos) (tPF S E (wIf wt wa wb)) := peTo (pe_ifExp hc ha hb) fun σ H Q ⟨M, A, L, δ, k, e, f, hw, a, ax⟩ =>
  ⟨M, A, L, δ, _, e, f, hw, fun b H1 s1 m1 hk => by
    cases b with
    | true => exact ⟨M, A, L, δ, k, e, f.step s1 m1, hk, a.step s1 m1, ax.step s1 m1⟩
    | false => exact ⟨M, A, L, δ, k, e, f.step s1 m1, hk, a.step s1 m1, ax.step s1 m1⟩, ax⟩
end
end LW
set_option Elab.async false
set_option linter.all false
set_option maxRecDepth 100000
set_option maxHeartbeats 4000100
/-! x, y, z = a, b, c in plain data -/
namespace LW
open L2 PySem.Spec PyProof.Rows PySem
def wPar3 (i j l : Nat) (wa : WA) : WS := fun D δ e => wa δ (fun r => match r with | [a, b, c] => D.nx (((δ.set i (some (.val a))).set j (some (.val b))).set l (some (.val c))) | _ => False) e
theorem a_wPar3 (i j l : Nat) (wa : WA) (D : EndD) (δ : De) (e : Er → Prop) : wPar3 i j l wa D δ e = wa δ (fun r => match r with | [a, b, c] => D.nx (((δ.set i (some (.val a))).set j (some (.val b))).set l (some (.val c))) | _ => False) e := Eq.trans rfl rfl
section
variable {X : Cx} {S : Su} {E : XK} {wp : WA} {x y z : Expr} {i j l : Nat} {pos : Pos} {nx ny nz : Str} {px py pz pt : Pos} {kt k2 : Nat} {pt2 : Pos}
theorem xsPar3 (hc : X.calm = true) (hN : X.N.Nodup) (hi : X.N[i]? = some nx) (hj : X.N[j]? = some ny) (hl : X.N[l]? = some nz) (hij : i ≠ j) (hil : i ≠ l) (hjl : j ≠ l)
    (hx : X.env.scope.names.lookup nx = some .local) (hy : X.env.scope.names.lookup ny = some .local) (hz : X.env.scope.names.lookup nz = some .local) (ha : PA X [x, y, z] (tPA S E wp))
    (hw : swappedStores [.Tuple [.Name nx px, .Name ny py, .Name nz pz] kt pt] (.Tuple [x, y, z] k2 pt2) X.env = pure (some [nx, ny, nz]))
    (hs : swapsWithSole [.Tuple [.Name nx px, .Name ny py, .Name nz pz] kt pt] (.Tuple [x, y, z] k2 pt2) pos.line X.env = pure false := by rfl) :
    PS X (.Assign [.Tuple [.Name nx px, .Name ny py, .Name nz pz] kt pt] (.Tuple [x, y, z] k2 pt2) pos) (tPS S E (wPar3 i j l wp)) := psTo (ps_par3 hc hN hi hj hl hij hil hjl hx hy hz ha hw hs) fun D σ H ⟨M, A, L, δ, DP, e, f, hw, a⟩ =>
  ⟨M, A, L, δ, _, e, f, hw, fun vs ds H1 s m hv hk => by
    match ds, hk with
    | [p, q, r], hk =>
      obtain ⟨v, ws, rfl, h1, r1⟩ := hv.of_cons
      obtain ⟨u, us, rfl, h2, r2⟩ := r1.of_cons
      obtain ⟨t, ts, rfl, h3, r3⟩ := r2.of_cons
      rw [r3.of_nil]
      exact ⟨v, u, t, rfl, a.nx L _ _ H1 s.wide ((((f.step s m).set i h1).set j h2).set l h3) hk⟩, a.ex.x⟩
end
end LW
set_option Elab.async false
set_option linter.all false
set_option maxRecDepth 100000
set_option maxHeartbeats 4000100
namespace LW
open L2 PySem.Spec PyProof.Rows PySem
/-! ### a def without parameters, called -/
structure CalG0 (P : Program) (w : World) (K : PySem.W.Frag) (mg : Str → Option Value) (base : Heap) (k : Nat) (x : Str) (sp : Sp) : Prop where
  ex : ∃ (f : Addr) (fd : FuncData), FnG P w K mg base CX0 k f fd [] sp ∧ mg x = some (.ref f) ∧ PySem.W.keepIn K (.ref f) = true ∧ ∀ s : Shared, K.In s.heap → BindsTo s fd ⟨[], []⟩ []
def tCall0 (sp : Sp) (E : XK) : TE := fun _ H Q => sp [] H Q E
section
variable {X : Cx} {k j : Nat} {x : Str} {sp : Sp} {p pos : Pos}
theorem pe_c0G (quiet : X.A.guards = some []) (cl : CalG0 X.prog X.w X.K X.mg X.base k x sp) (hr : Room j X.A) (hk : k ≤ j) (hg : Gl X x) (hdb : (x == ("__debug__" : Str)) = false := by decide) :
    PE X (.Call (.Name x p) [] [] pos) (tCall0 sp E0) := by
  obtain ⟨f, fd, F, m, kp, b⟩ := cl.ex
  constructor
  intro pins s σ H Q I h
  refine wpAny_Call_Name_kw (ld_glob I hg m ?_ hdb)
  refine PySem.W.callWith_KW0 (first := []) (kws := []) (h₀ := X.base) I.ok.mod.kin kp rfl (thn (pk_nil.run pos pins s σ H (fun vs H1 => vs = [] ∧ sp [] H1 Q E0) I ⟨rfl, h⟩) ?_) rfl
  rintro ws s2 ⟨zs, H2, I2, rz, e, q2⟩
  subst e
  cases rz
  refine ⟨I2.kIn, ?_⟩
  refine wpAny_call (codeAny_mono (F.runs X.A X.stack s2 H2 ⟨[], []⟩ [] [] Q E0 (hr.mono hk) quiet I2.env0 (b s2 I2.kIn) .nil q2) ?_)
  intro res s' fin
  match res, fin with
  | .error er, fin => exact pass0 pins σ H2 s2 er s' I2 fin
  | .ok (.ret u), fin => exact I2.after fin
  | .ok .next, fin => exact fin.elim
  | .ok .brk, fin => exact fin.elim
  | .ok .cont, fin => exact fin.elim
end
/-! ### written lists: of pairs of texts, of None and pairs of numbers -/
/-! ### what is shown of such a list -/
end LW
set_option Elab.async false
set_option linter.all false
set_option maxRecDepth 100000
set_option maxHeartbeats 4000100
set_option exponentiation.threshold 9000
namespace LW
open L2 PySem.Spec PyProof.Rows PySem
def topS (i : Nat) : Stmt := PySem.Challenge.pw_wholeshares_k32_least_possible_by_listin.main.body.getD i (.Pass ⟨0, 0, 0, 0⟩)
abbrev s_is_int : Stmt := topS 16
theorem sc_is_int : FnScope ["value"] ["value"] (defScope s_is_int) := ⟨rfl, rfl, rfl, by decide +kernel, rfl, by decide +kernel, by decide +kernel⟩
abbrev s_is_number : Stmt := topS 18
theorem sc_is_number : FnScope ["value"] ["value"] (defScope s_is_number) := ⟨rfl, rfl, rfl, by decide +kernel, rfl, by decide +kernel, by decide +kernel⟩
abbrev s_as_pair : Stmt := topS 19
theorem sc_as_pair : FnScope ["number"] ["number"] (defScope s_as_pair) := ⟨rfl, rfl, rfl, by decide +kernel, rfl, by decide +kernel, by decide +kernel⟩
abbrev s_lowest : Stmt := topS 20
theorem sc_lowest : FnScope ["number", "top", "bottom", "common"] ["number"] (defScope s_lowest) := ⟨rfl, rfl, rfl, by decide +kernel, rfl, by decide +kernel, by decide +kernel⟩
abbrev s__int_text : Stmt := topS 28
theorem sc__int_text : FnScope ["integer", "blocks", "rest"] ["integer"] (defScope s__int_text) := ⟨rfl, rfl, rfl, by decide +kernel, rfl, by decide +kernel, by decide +kernel⟩
abbrev s__read_int : Stmt := topS 29
theorem sc__read_int : FnScope ["digits", "start", "integer", "at"] ["digits"] (defScope s__read_int) := ⟨rfl, rfl, rfl, by decide +kernel, rfl, by decide +kernel, by decide +kernel⟩
abbrev s_is_digits : Stmt := topS 30
theorem sc_is_digits : FnScope ["text"] ["text"] (defScope s_is_digits) := ⟨rfl, rfl, rfl, by decide +kernel, rfl, by decide +kernel, by decide +kernel⟩
abbrev s_number_text : Stmt := topS 31
theorem sc_number_text : FnScope ["pair"] ["pair"] (defScope s_number_text) := ⟨rfl, rfl, rfl, by decide +kernel, rfl, by decide +kernel, by decide +kernel⟩
abbrev s_read_number : Stmt := topS 32
theorem sc_read_number : FnScope ["text", "parts", "part", "number", "pair"] ["text"] (defScope s_read_number) := ⟨rfl, rfl, rfl, by decide +kernel, rfl, by decide +kernel, by decide +kernel⟩
abbrev s_is_less : Stmt := topS 21
theorem sc_is_less : FnScope ["pair", "other_pair"] ["pair", "other_pair"] (defScope s_is_less) := ⟨rfl, rfl, rfl, by decide +kernel, rfl, by decide +kernel, by decide +kernel⟩
abbrev s__plain_mark : Stmt := topS 35
theorem sc__plain_mark : FnScope ["offset", "number"] ["offset", "number"] (defScope s__plain_mark) := ⟨rfl, rfl, rfl, by decide +kernel, rfl, by decide +kernel, by decide +kernel⟩
abbrev s__is_offset : Stmt := topS 34
theorem sc__is_offset : FnScope ["value", "top", "bottom"] ["value"] (defScope s__is_offset) := ⟨rfl, rfl, rfl, by decide +kernel, rfl, by decide +kernel, by decide +kernel⟩
abbrev s__is_next_mark : Stmt := topS 36
theorem sc__is_next_mark : FnScope ["element", "marks", "mark"] ["element", "marks"] (defScope s__is_next_mark) := ⟨rfl, rfl, rfl, by decide +kernel, rfl, by decide +kernel, by decide +kernel⟩
abbrev s_is_count : Stmt := topS 17
theorem sc_is_count : FnScope ["value"] ["value"] (defScope s_is_count) := ⟨rfl, rfl, rfl, by decide +kernel, rfl, by decide +kernel, by decide +kernel⟩
abbrev s__lowest_head : Stmt := topS 37
theorem sc__lowest_head : FnScope ["offset", "head", "marks", "index", "element"] ["offset", "head"] (defScope s__lowest_head) := ⟨rfl, rfl, rfl, by decide +kernel, rfl, by decide +kernel, by decide +kernel⟩
abbrev s_common_bottom : Stmt := topS 22
theorem sc_common_bottom : FnScope ["pairs", "common", "_", "bottom"] ["pairs"] (defScope s_common_bottom) := ⟨rfl, rfl, rfl, by decide +kernel, rfl, by decide +kernel, by decide +kernel⟩
abbrev s_Rule_mark : Stmt := inClass (topS 38) 2
theorem sc_Rule_mark : FnScope ["self", "number"] ["self", "number"] (defScope s_Rule_mark) := ⟨rfl, rfl, rfl, by decide +kernel, rfl, by decide +kernel, by decide +kernel⟩
abbrev s_Rule___init__ : Stmt := inClass (topS 38) 0
theorem sc_Rule___init__ : FnScope ["self", "offset", "head", "top", "bottom", "number"] ["self", "offset", "head"] (defScope s_Rule___init__) := ⟨rfl, rfl, rfl, by decide +kernel, rfl, by decide +kernel, by decide +kernel⟩
abbrev s_Rule_read : Stmt := inClass (topS 38) 1
theorem sc_Rule_read : FnScope ["text", "words", "offset", "head", "word"] ["text"] (defScope s_Rule_read) := ⟨rfl, rfl, rfl, by decide +kernel, rfl, by decide +kernel, by decide +kernel⟩
/-- what the top says of the program's own names -/
structure Tx (K : PySem.W.Frag) (mg : Str → Option Value) (c : Addr) : Prop where
  cl : Cls K c
  nO : NoAttr K c "offset"
  nH : NoAttr K c "head"
  nS : NoAttr K c "_start"
  nU : NoAttr K c "unit"
  nW : NoAttr K c "_whole_head"
  nX : NoAttr K c "whole_offset"
  g_Rule : mg "Rule" = some (.ref c)
  g_gcd : mg "gcd" = some (.builtin "math.gcd")
  g_lcm : mg "lcm" = some (.builtin "math.lcm")
  g_BLOCK : ∃ t, mg "BLOCK" = some (.int (10 ^ 60) t)
  g_BLOCK_DIGITS : ∃ t, mg "BLOCK_DIGITS" = some (.int 60 t)
  g_MOST_HEAD : ∃ t, mg "MOST_HEAD" = some (.int 8 t)
local macro_rules | `(tactic| walk_at "len") => `(tactic| skip)
/-! ### numbers -/
def encQ (q : Int × Int) : PyData := .tuple [.int q.1, .int q.2]
/-- lowest terms -/
def lowQ (t b : Int) : Int × Int := (t / ((Nat.gcd t.natAbs b.natAbs : Nat) : Int), b / ((Nat.gcd t.natAbs b.natAbs : Nat) : Int))
def smallQ (q : Int × Int) : Prop := q.1.natAbs < 2 ^ 8000 ∧ q.2.natAbs < 2 ^ 8000
theorem gcd_pos {t b : Int} (h : 0 < b) : 0 < Nat.gcd t.natAbs b.natAbs := Nat.gcd_pos_of_pos_right _ (by omega)
theorem gcd_le {t b : Int} (h : 0 < b) : Nat.gcd t.natAbs b.natAbs ≤ b.natAbs := Nat.gcd_le_right _ (by omega)
/-! ### numbers and rules as texts -/
open SX in
def qL (q : Int × Int) : List Nat := if q.2 = 1 then TL.numL q.1.toNat else TL.numL q.1.toNat ++ 47 :: TL.numL q.2.toNat
/-- a number whose parts are not negative and not long -/
structure OkW (q : Int × Int) : Prop where
  a : 0 ≤ q.1
  b : 0 < q.2
  a2 : q.1 < 10 ^ 50
  b2 : q.2 < 10 ^ 50
theorem numL_50 {i : Int} (h0 : 0 ≤ i) (h : i < 10 ^ 50) : (TL.numL i.toNat).length ≤ 50 := TL.numL_len (by decide) (by omega)
theorem toS {i : Int} (h : 0 ≤ i) : (Str.ofString (toString i)) = SX.S (TL.numL i.toNat) := by
  have e : i = ((i.toNat : Nat) : Int) := by omega
  rw [← SX.num_S, ← e]
theorem log2_50 {i : Int} (h0 : 0 ≤ i) (h : i < 10 ^ 50) : i.natAbs.log2 < 1920 := by
  have : i.natAbs < 2 ^ 200 := by omega
  exact Nat.lt_of_lt_of_le (PySem.Flt.log2_lt_of (by decide) this) (by decide)
theorem qL_len {q : Int × Int} (h : OkW q) : (qL q).length ≤ 101 := by
  have l1 := numL_50 h.a h.a2
  have l2 := numL_50 (Int.le_of_lt h.b) h.b2
  unfold qL
  split
  · omega
  · rw [List.length_append, List.length_cons]; omega
/-! ### the program: numbers -/
def isNumD : PyData → Bool
  | .int _ => true
  | .tuple [.int _, .int q] => decide (q ≥ 1)
  | _ => false
theorem numD_len : ∀ ds : List PyData, ds.length ≠ 2 → isNumD (.tuple ds) = false
  | [], _ => rfl
  | [.none], _ | [.bool _], _ | [.int _], _ | [.str _], _ | [.list _], _ | [.tuple _], _ | [.dict _], _ => rfl
  | [_, _], h => absurd rfl h
  | x :: y :: z :: r, _ => by
    cases x <;> first | rfl | (cases y <;> rfl)
theorem enc_num {q : Int × Int} (h : 0 < q.2) : isNumD (encQ q) = true := decide_eq_true (show q.2 ≥ 1 by omega)
section
variable {P : Program} {w : World} {K : PySem.W.Frag} {mg : Str → Option Value} {base : Heap} {c : Addr} {TLb : List (Addr × Str)}
def sp_is_int (K : PySem.W.Frag) (c : Addr) : Sp := fun vs H Q _ => ∃ (v : V) (d : PyData), vs = [v] ∧ D K H v d ∧ Q (.bl (isIntD d)) H
theorem cal_is_int (B : Bl mg) (DD : OwnDef K mg "is_int" s_is_int)   : Cal P w K mg base 1 "is_int" (sp_is_int K c) [] := by
  obtain ⟨f, fd, F, hm⟩ := DD.ex
  refine ⟨f, fd, ["value"], [], F.ok sc_is_int (fun vs H Q E h => ?len) (fun cdv A outer s H vs Q E hr h => ?run), hm, F.kp, F.binds (fun _ _ _ _ _ _ us hl => match us, hl with | [_], _ => rfl), .nil⟩
  case len => first | (obtain ⟨_, rfl, _⟩ := h; rfl) | (obtain ⟨_, _, rfl, _⟩ := h; rfl) | (obtain ⟨_, _, _, rfl, _⟩ := h; rfl) | (obtain ⟨_, _, _, _, rfl, _⟩ := h; rfl) | (obtain ⟨_, _, _, _, _, rfl, _⟩ := h; rfl) | (obtain ⟨_, _, _, _, _, _, rfl, _⟩ := h; rfl) | (obtain ⟨_, _, _, _, _, _, _, rfl, _⟩ := h; rfl) | (obtain ⟨_, _, _, _, _, _, _, _, rfl, _⟩ := h; rfl) | (obtain ⟨_, _, _, _, _, _, _, _, _, rfl, _⟩ := h; rfl) | (obtain ⟨_, _, _, _, _, _, _, _, _, _, rfl, _⟩ := h; rfl) | (obtain ⟨_, _, _, _, _, _, _, _, _, _, _, rfl, _⟩ := h; rfl) | (obtain ⟨_, _, _, _, _, _, _, _, _, _, _, _, rfl, _⟩ := h; rfl) | (obtain ⟨_, _, _, _, _, _, _, _, _, _, _, _, _, rfl, _⟩ := h; rfl) | (obtain ⟨_, _, _, _, _, _, _, _, _, _, _, _, _, _, rfl, _⟩ := h; rfl)
  case run =>
    obtain ⟨v, d, rfl, hv, k⟩ := h
    refine ⟨_, (pss_one (ps_ret (pe_and (pe_callB call_isi (by rfl) B.isinstance (by decide +kernel) (pa_cons (pv 0) (pa_cons (pe_bltn (v := .ty "int") (by rfl) B.int (by decide +kernel) rfl) pa_nil))) (pe_one (pe_not (pe_callB call_isi (by rfl) B.isinstance (by decide +kernel) (pa_cons (pv 0) (pa_cons (pe_bltn (v := .ty "bool") (by rfl) B.bool (by decide +kernel) rfl) pa_nil)))))))), ?_⟩
    refine ⟨_, rfl, _, _, _, _, _, rfl, .ty _, hv.ty, kit_ty (kit_int _), _, rfl, ite2 (fun e => ?_) (fun e => ?_)⟩
    · refine ⟨_, rfl, _, _, _, _, _, rfl, .ty _, hv.ty, kit_ty (kit_bool _), _, rfl, ?_⟩
      have z : (!isBoolD d) = isIntD d := by cases d <;> first | rfl | (simp [isIntD, isBoolD] at e)
      rw [z]
      exact k
    · have z : isIntD d = false := by
        cases q : isIntD d with
        | false => rfl
        | true => rw [q] at e; exact absurd rfl e
      rw [z] at k
      exact k
def sp_is_number (K : PySem.W.Frag) (c : Addr) : Sp := fun vs H Q _ => ∃ (v : V) (d : PyData), vs = [v] ∧ D K H v d ∧ Q (.bl (isNumD d)) H
theorem cal_is_number (B : Bl mg) (DD : OwnDef K mg "is_number" s_is_number) (C_is_int : Cal P w K mg base 1 "is_int" (sp_is_int K c) [])  : Cal P w K mg base 2 "is_number" (sp_is_number K c) [] := by
  obtain ⟨f, fd, F, hm⟩ := DD.ex
  refine ⟨f, fd, ["value"], [], F.ok sc_is_number (fun vs H Q E h => ?len) (fun cdv A outer s H vs Q E hr h => ?run), hm, F.kp, F.binds (fun _ _ _ _ _ _ us hl => match us, hl with | [_], _ => rfl), .nil⟩
  case len => first | (obtain ⟨_, rfl, _⟩ := h; rfl) | (obtain ⟨_, _, rfl, _⟩ := h; rfl) | (obtain ⟨_, _, _, rfl, _⟩ := h; rfl) | (obtain ⟨_, _, _, _, rfl, _⟩ := h; rfl) | (obtain ⟨_, _, _, _, _, rfl, _⟩ := h; rfl) | (obtain ⟨_, _, _, _, _, _, rfl, _⟩ := h; rfl) | (obtain ⟨_, _, _, _, _, _, _, rfl, _⟩ := h; rfl) | (obtain ⟨_, _, _, _, _, _, _, _, rfl, _⟩ := h; rfl) | (obtain ⟨_, _, _, _, _, _, _, _, _, rfl, _⟩ := h; rfl) | (obtain ⟨_, _, _, _, _, _, _, _, _, _, rfl, _⟩ := h; rfl) | (obtain ⟨_, _, _, _, _, _, _, _, _, _, _, rfl, _⟩ := h; rfl) | (obtain ⟨_, _, _, _, _, _, _, _, _, _, _, _, rfl, _⟩ := h; rfl) | (obtain ⟨_, _, _, _, _, _, _, _, _, _, _, _, _, rfl, _⟩ := h; rfl) | (obtain ⟨_, _, _, _, _, _, _, _, _, _, _, _, _, _, rfl, _⟩ := h; rfl)
  case run =>
    obtain ⟨v, d, rfl, hv, k⟩ := h
    refine ⟨_, (pss_cons (ps_if (PW.pt (pw_and (pt_val (pe_callB call_isi (by rfl) B.isinstance (by decide +kernel) (pa_cons (pv 0) (pa_cons (pe_bltn (v := .ty "tuple") (by rfl) B.tuple (by decide +kernel) rfl) pa_nil)))) (pw_and1 (pt_cmpR op_eq (pe_callB call_len_seq (by rfl) B.len (by decide +kernel) (pa_cons (pv 0) pa_nil)) pe_int (nomark _))))) (pss_one (ps_ret (pe_and (pe_c C_is_int hr (by decide) (by rfl) (pa_cons (pe_ix ix_seq (pv 0) pe_int (fun _ _ => rfl)) pa_nil)) (pe_and (pe_c C_is_int hr (by decide) (by rfl) (pa_cons (pe_ix ix_seq (pv 0) pe_int (fun _ _ => rfl)) pa_nil)) (pe_one (pe_cmpR op_ge (pe_ix ix_seq (pv 0) pe_int (fun _ _ => rfl)) pe_int (nomark _))))))) pss_nil)
      (pss_one (ps_ret (pe_c C_is_int hr (by decide) (by rfl) (pa_cons (pv 0) pa_nil))))), ?_⟩
    refine ⟨_, rfl, _, _, _, _, _, rfl, .ty _, hv.ty, kit_ty (kit_tup _), _, rfl, ite2 (fun e => ?_) (fun e => ?_)⟩
    · obtain ⟨ds, rfl⟩ : ∃ ds, d = .tuple ds := by
        cases d with
        | tuple ds => exact ⟨ds, rfl⟩
        | _ => cases e
      obtain ⟨a, ws, rfl, sq, all⟩ := hv.tuple
      refine ⟨_, rfl, a, ws, rfl, .inr sq, rfl, _, rfl, ite2 (fun e2 => ?_) (fun e2 => ?_)⟩
      · have e3 : ((ws.length : Nat) : Int) = 2 := V.int.inj (of_decide_eq_true e2)
        have el : ds.length = 2 := by have := all.len; omega
        obtain ⟨x, y, rfl⟩ : ∃ x y, ds = [x, y] := by
          match ds, el with
          | [x, y], _ => exact ⟨x, y, rfl⟩
        refine ⟨_, rfl, ix_dt hv (by decide) rfl fun u hu => ?_⟩
        refine ⟨u, x, rfl, hu, _, rfl, ite2 (fun ex => ?_) (fun ex => ?_)⟩
        · refine ⟨_, rfl, ix_dt hv (by decide) rfl fun u2 hu2 => ?_⟩
          refine ⟨u2, y, rfl, hu2, _, rfl, ite2 (fun ey => ?_) (fun ey => ?_)⟩
          · obtain ⟨i, rfl⟩ : ∃ i, x = .int i := by
              cases x with
              | int i => exact ⟨i, rfl⟩
              | _ => cases ex
            obtain ⟨j, rfl⟩ : ∃ i, y = .int i := by
              cases y with
              | int i => exact ⟨i, rfl⟩
              | _ => cases ey
            exact ⟨_, rfl, ix_di hv (by decide) rfl ⟨_, _, rfl, rfl, k⟩⟩
          · have z : isNumD (.tuple [x, y]) = false := by
              cases y with
              | int i => exact absurd rfl ey
              | _ => cases x <;> rfl
            rw [z] at k
            exact k
        · have z : isNumD (.tuple [x, y]) = false := by
            cases x with
            | int i => exact absurd rfl ex
            | _ => rfl
          rw [z] at k
          exact k
      · have z : isNumD (.tuple ds) = false := numD_len ds fun l => e2 (decide_eq_true (congrArg V.int (by have := all.len; omega)))
        rw [z] at k
        refine ⟨_, rfl, _, _, rfl, hv, ?_⟩
        exact k
    · have z : isNumD d = isIntD d := by
        cases d with
        | tuple ds => exact absurd rfl e
        | _ => rfl
      rw [z] at k
      exact ⟨_, rfl, _, _, rfl, hv, k⟩
def pairD : PyData → Int × Int
  | .int i => (i, 1)
  | .tuple [.int a, .int b] => (a, b)
  | _ => (0, 1)
/-- as_pair(number), of a number -/
def sp_as_pair (K : PySem.W.Frag) (c : Addr) : Sp := fun vs H Q _ => ∃ (v : V) (d : PyData), vs = [v] ∧ D K H v d ∧ isNumD d = true ∧
  ∀ p H', Same H H' → SqT K H' p [.int (pairD d).1, .int (pairD d).2] → Q (.ref p) H'
theorem cal_as_pair (B : Bl mg) (DD : OwnDef K mg "as_pair" s_as_pair)   : Cal P w K mg base 1 "as_pair" (sp_as_pair K c) [] := by
  obtain ⟨f, fd, F, hm⟩ := DD.ex
  refine ⟨f, fd, ["number"], [], F.ok sc_as_pair (fun vs H Q E h => ?len) (fun cdv A outer s H vs Q E hr h => ?run), hm, F.kp, F.binds (fun _ _ _ _ _ _ us hl => match us, hl with | [_], _ => rfl), .nil⟩
  case len => first | (obtain ⟨_, rfl, _⟩ := h; rfl) | (obtain ⟨_, _, rfl, _⟩ := h; rfl) | (obtain ⟨_, _, _, rfl, _⟩ := h; rfl) | (obtain ⟨_, _, _, _, rfl, _⟩ := h; rfl) | (obtain ⟨_, _, _, _, _, rfl, _⟩ := h; rfl) | (obtain ⟨_, _, _, _, _, _, rfl, _⟩ := h; rfl) | (obtain ⟨_, _, _, _, _, _, _, rfl, _⟩ := h; rfl) | (obtain ⟨_, _, _, _, _, _, _, _, rfl, _⟩ := h; rfl) | (obtain ⟨_, _, _, _, _, _, _, _, _, rfl, _⟩ := h; rfl) | (obtain ⟨_, _, _, _, _, _, _, _, _, _, rfl, _⟩ := h; rfl) | (obtain ⟨_, _, _, _, _, _, _, _, _, _, _, rfl, _⟩ := h; rfl) | (obtain ⟨_, _, _, _, _, _, _, _, _, _, _, _, rfl, _⟩ := h; rfl) | (obtain ⟨_, _, _, _, _, _, _, _, _, _, _, _, _, rfl, _⟩ := h; rfl) | (obtain ⟨_, _, _, _, _, _, _, _, _, _, _, _, _, _, rfl, _⟩ := h; rfl)
  case run =>
    obtain ⟨v, d, rfl, hv, hn, k⟩ := h
    refine ⟨_, (pss_one (ps_ret (pe_ifExp (pt_val (pe_callB call_isi (by rfl) B.isinstance (by decide +kernel) (pa_cons (pv 0) (pa_cons (pe_bltn (v := .ty "tuple") (by rfl) B.tuple (by decide +kernel) rfl) pa_nil)))) (pv 0) (pe_tup (pa_cons (pv 0) (pa_cons pe_int pa_nil)))))), ?_⟩
    refine ⟨_, rfl, _, _, _, _, _, rfl, .ty _, hv.ty, kit_ty (kit_tup _), _, rfl, ite2 (fun e => ?_) (fun e => ?_)⟩
    · obtain ⟨x, y, rfl, hy⟩ : ∃ x y, d = encQ (x, y) ∧ y ≥ 1 := by
        match d, hn, e with
        | .tuple [.int x, .int y], hn, _ => exact ⟨x, y, rfl, of_decide_eq_true hn⟩
      obtain ⟨a, ws, rfl, sq, all⟩ := hv.tuple
      obtain ⟨w1, e1, d1⟩ := all.get (i := 0) rfl
      obtain ⟨w2, e2, d2⟩ := all.get (i := 1) rfl
      obtain rfl := d1.int_eq
      obtain rfl := d2.int_eq
      have el : ws = [.int x, .int y] := by
        match ws, all.len, e1, e2 with
        | [p, q], _, e1, e2 =>
          have h1 : p = .int x := Option.some.inj e1
          have h2 : q = .int y := Option.some.inj e2
          rw [h1, h2]
      subst el
      exact ⟨_, rfl, k a H (Same.refl H) sq⟩
    · obtain ⟨x, rfl⟩ : ∃ x, d = .int x := by
        match d, hn, e with
        | .int x, _, _ => exact ⟨x, rfl⟩
        | .tuple _, _, e => exact absurd rfl e
      obtain rfl := hv.int_eq
      exact ⟨_, rfl, by show 2 ≤ sizeLine; decide, fun t nt => k t _ (same_new nt) (.inl (.inl upd_same))⟩
/-- lowest(number), of a number -/
def lowD : PyData → Int × Int
  | .int i => (i, 1)
  | .tuple [.int a, .int b] => lowQ a b
  | _ => (0, 1)
def sp_lowest (K : PySem.W.Frag) (c : Addr) : Sp := fun vs H Q _ => ∃ (v : V) (d : PyData), vs = [v] ∧ D K H v d ∧ isNumD d = true ∧ (∀ a b, d = encQ (a, b) → b.natAbs < 2 ^ 8000) ∧
  ∀ p H', Same H H' → H p = none → H' p = some (.tup [.int (lowD d).1, .int (lowD d).2]) → Q (.ref p) H'
theorem cal_lowest (B : Bl mg) (DD : OwnDef K mg "lowest" s_lowest) (C_as_pair : Cal P w K mg base 1 "as_pair" (sp_as_pair K c) []) (T : Tx K mg c) : Cal P w K mg base 2 "lowest" (sp_lowest K c) [] := by
  obtain ⟨f, fd, F, hm⟩ := DD.ex
  refine ⟨f, fd, ["number"], [], F.ok sc_lowest (fun vs H Q E h => ?len) (fun cdv A outer s H vs Q E hr h => ?run), hm, F.kp, F.binds (fun _ _ _ _ _ _ us hl => match us, hl with | [_], _ => rfl), .nil⟩
  case len => first | (obtain ⟨_, rfl, _⟩ := h; rfl) | (obtain ⟨_, _, rfl, _⟩ := h; rfl) | (obtain ⟨_, _, _, rfl, _⟩ := h; rfl) | (obtain ⟨_, _, _, _, rfl, _⟩ := h; rfl) | (obtain ⟨_, _, _, _, _, rfl, _⟩ := h; rfl) | (obtain ⟨_, _, _, _, _, _, rfl, _⟩ := h; rfl) | (obtain ⟨_, _, _, _, _, _, _, rfl, _⟩ := h; rfl) | (obtain ⟨_, _, _, _, _, _, _, _, rfl, _⟩ := h; rfl) | (obtain ⟨_, _, _, _, _, _, _, _, _, rfl, _⟩ := h; rfl) | (obtain ⟨_, _, _, _, _, _, _, _, _, _, rfl, _⟩ := h; rfl) | (obtain ⟨_, _, _, _, _, _, _, _, _, _, _, rfl, _⟩ := h; rfl) | (obtain ⟨_, _, _, _, _, _, _, _, _, _, _, _, rfl, _⟩ := h; rfl) | (obtain ⟨_, _, _, _, _, _, _, _, _, _, _, _, _, rfl, _⟩ := h; rfl) | (obtain ⟨_, _, _, _, _, _, _, _, _, _, _, _, _, _, rfl, _⟩ := h; rfl)
  case run =>
    obtain ⟨v, d, rfl, hv, hn, hsz, k⟩ := h
    refine ⟨_, (pss_cons (ps_asg (pe_c C_as_pair hr (by decide) (by rfl) (pa_cons (pv 0) pa_nil)) (pg_tup (by rfl) (pgs_cons (pg_name (i := 1) sc_lowest.nd rfl (Or.inl rfl)) (pgs_cons (pg_name (i := 2) sc_lowest.nd rfl (Or.inl rfl)) pgs_nil))))
      (pss_cons (ps_set (i := 3) sc_lowest.nd rfl (Or.inl rfl) (pe_callBfun cr_gcd (by rfl) T.g_gcd (pa_cons (pv 1) (pa_cons (pv 2) pa_nil))))
      (pss_one (ps_ret (pe_tup (pa_cons (pe_op op_fdivW (pv 1) (pv 3)) (pa_cons (pe_op op_fdivW (pv 2) (pv 3)) pa_nil))))))), ?_⟩
    refine ⟨_, rfl, v, d, rfl, hv, hn, fun t H1 sm ht => ?_⟩
    refine ⟨t, _, rfl, ht, rfl, .int (pairD d).1, [.int (pairD d).2], rfl, .int (pairD d).2, [], rfl, rfl, ?_⟩
    obtain ⟨hb0, hb1, hb2⟩ : 0 < (pairD d).2 ∧ (pairD d).2.natAbs < 2 ^ 8000 ∧ lowQ (pairD d).1 (pairD d).2 = lowD d := by
      match d, hn, hsz with
      | .int i, _, _ =>
        refine ⟨by show (0:Int) < 1; decide, by show Int.natAbs 1 < 2 ^ 8000; decide, ?_⟩
        show lowQ i 1 = (i, 1)
        have g1 : Nat.gcd i.natAbs (1 : Int).natAbs = 1 := Nat.gcd_one_right _
        show (i / ((Nat.gcd i.natAbs (1 : Int).natAbs : Nat) : Int), (1:Int) / ((Nat.gcd i.natAbs (1 : Int).natAbs : Nat) : Int)) = (i, 1)
        rw [g1]; exact Prod.ext (Int.ediv_one i) rfl
      | .tuple [.int x, .int y], hn, hsz =>
        have hy : y ≥ 1 := of_decide_eq_true hn
        exact ⟨by show 0 < y; omega, hsz x y rfl, rfl⟩
    rw [← hb2] at k
    generalize (pairD d).1 = x at *
    generalize (pairD d).2 = y at *
    have hg : 0 < Nat.gcd x.natAbs y.natAbs := gcd_pos hb0
    have hg2 : Nat.gcd x.natAbs y.natAbs < 2 ^ 8000 := Nat.lt_of_le_of_lt (gcd_le hb0) hb1
    have hd1 : CDivW x ((Nat.gcd x.natAbs y.natAbs : Nat) : Int) := wide_div (b := 8000) (by omega) (by simpa using hg2) (by decide) (by decide)
    have hd2 : CDivW y ((Nat.gcd x.natAbs y.natAbs : Nat) : Int) := wide_div (b := 8000) (by omega) (by simpa using hg2) (by decide) (by decide)
    refine ⟨_, rfl, _, rfl, x, y, rfl, ?_⟩
    exact ⟨_, rfl, _, rfl, _, _, rfl, rfl, hd1, _, rfl, _, rfl, _, _, rfl, rfl, hd2, by show 2 ≤ sizeLine; decide, fun p np => k p _ (sm.trans (same_new np)) (sm.free np) upd_same⟩
end
/-! ### the program: numbers as texts -/
theorem allD {l : List Nat} (h : NumText.AllDigits l) : l.all (fun c => decide (48 ≤ c) && decide (c ≤ 57)) = true := by
  rw [List.all_eq_true]
  intro c hc
  have := h c hc
  simp [this.1, this.2]
theorem split_join {parts : List (List Nat)} {s : Nat} (hs : s < 256) (hp : parts ≠ []) (h : ∀ p ∈ parts, s ∉ p) : Txt.split (SX.S (TL.joinL [s] parts)) (SX.S [s]) = parts.map SX.S := by
  rw [SX.split_S (by simp) (by simp [hs]), SX.spl_join hp h]
def qParts (q : Int × Int) : List (List Nat) := if q.2 = 1 then [TL.numL q.1.toNat] else [TL.numL q.1.toNat, TL.numL q.2.toNat]
theorem qL_parts (q : Int × Int) : qL q = TL.joinL [47] (qParts q) := by
  unfold qL qParts
  split <;> rfl
theorem qParts_free (q : Int × Int) : ∀ p ∈ qParts q, (47 : Nat) ∉ p := by
  intro p hp
  unfold qParts at hp
  split at hp
  · rw [List.mem_singleton] at hp; subst hp; exact TL.numL_free (.inl (by decide))
  · rcases List.mem_cons.mp hp
        with rfl | hp
    · exact TL.numL_free (.inl (by decide))
    · rw [List.mem_singleton] at hp; subst hp; exact TL.numL_free (.inl (by decide))
theorem qSplit (q : Int × Int) : Txt.split (SX.S (qL q)) (SX.S [47]) = (qParts q).map SX.S := by
  rw [qL_parts]
  exact split_join (by decide) (by unfold qParts; split <;> simp) (qParts_free q)
section
variable {P : Program} {w : World} {K : PySem.W.Frag} {mg : Str → Option Value} {base : Heap} {c : Addr} {TLb : List (Addr × Str)}
def sp__int_text (K : PySem.W.Frag) (c : Addr) : Sp := fun vs H Q _ => ∃ (n : Int), vs = [.int n] ∧ 0 ≤ n ∧ n < 10 ^ 50 ∧ ∀ H', Same H H' → Q (.str (SX.S (TL.numL n.toNat))) H'
theorem cal__int_text (B : Bl mg) (DD : OwnDef K mg "_int_text" s__int_text)  (T : Tx K mg c) : Cal P w K mg base 1 "_int_text" (sp__int_text K c) [] := by
  obtain ⟨f, fd, F, hm⟩ := DD.ex
  refine ⟨f, fd, ["integer"], [], F.ok sc__int_text (fun vs H Q E h => ?len) (fun cdv A outer s H vs Q E hr h => ?run), hm, F.kp, F.binds (fun _ _ _ _ _ _ us hl => match us, hl with | [_], _ => rfl), .nil⟩
  case len => first | (obtain ⟨_, rfl, _⟩ := h; rfl) | (obtain ⟨_, _, rfl, _⟩ := h; rfl) | (obtain ⟨_, _, _, rfl, _⟩ := h; rfl) | (obtain ⟨_, _, _, _, rfl, _⟩ := h; rfl) | (obtain ⟨_, _, _, _, _, rfl, _⟩ := h; rfl) | (obtain ⟨_, _, _, _, _, _, rfl, _⟩ := h; rfl) | (obtain ⟨_, _, _, _, _, _, _, rfl, _⟩ := h; rfl) | (obtain ⟨_, _, _, _, _, _, _, _, rfl, _⟩ := h; rfl) | (obtain ⟨_, _, _, _, _, _, _, _, _, rfl, _⟩ := h; rfl) | (obtain ⟨_, _, _, _, _, _, _, _, _, _, rfl, _⟩ := h; rfl) | (obtain ⟨_, _, _, _, _, _, _, _, _, _, _, rfl, _⟩ := h; rfl) | (obtain ⟨_, _, _, _, _, _, _, _, _, _, _, _, rfl, _⟩ := h; rfl) | (obtain ⟨_, _, _, _, _, _, _, _, _, _, _, _, _, rfl, _⟩ := h; rfl) | (obtain ⟨_, _, _, _, _, _, _, _, _, _, _, _, _, _, rfl, _⟩ := h; rfl)
  case run =>
    obtain ⟨n, rfl, h0, h1, k⟩ := h
    refine ⟨_, (pss_cons (ps_set (i := 1) sc__int_text.nd rfl (Or.inl rfl) (pe_lst pa_nil))
      (pss_cons (ps_while PassesOwn.never (pt_cmpR op_ge (pv 0) (pe_gint (by rfl) T.g_BLOCK) (nomark _)) (pss_cons (ps_asg (pe_callB call_divmodW (by rfl) B.divmod (by decide +kernel) (pa_cons (pv 0) (pa_cons (pe_gint (by rfl) T.g_BLOCK) pa_nil))) (pg_tup (by rfl) (pgs_cons (pg_name (i := 0) sc__int_text.nd rfl (Or.inl rfl)) (pgs_cons (pg_name (i := 2) sc__int_text.nd rfl (Or.inl rfl)) pgs_nil))))
      (pss_one (ps_expr (pe_bm PySem.F.plainAttrs_list PySem.F.slot_list_append PySem.F.type_list_append mt_append (pv 1) (pa_cons (pe_m1 PySem.F.slot_str_zfill PySem.F.type_str_zfill mt_zfill (pe_callTy call_str_int (by rfl) B.str (by decide +kernel) (pa_cons (pv 2) pa_nil)) (pe_gint (by rfl) T.g_BLOCK_DIGITS)) pa_nil))))))
      (pss_cons (ps_expr (pe_bm PySem.F.plainAttrs_list PySem.F.slot_list_append PySem.F.type_list_append mt_append (pv 1) (pa_cons (pe_callTy call_str_int (by rfl) B.str (by decide +kernel) (pa_cons (pv 0) pa_nil)) pa_nil)))
      (pss_one (ps_ret (pe_join pe_str (pe_revL (pv 1)))))))), ?_⟩
    refine ⟨Nat.zero_le _, fun l nl => ?_⟩
    refine while_by (fun σ H2 => σ = [some (.int n), some (.ref l), none] ∧ H2 = upd H l (.lst [])) (fun _ _ => 0) ⟨rfl, rfl⟩ ?_ ?_
    · rintro σ H2 ⟨rfl, rfl⟩
      refine ⟨_, rfl, _, _, rfl, rfl, _, rfl, ite2 (fun e => ?_) (fun e => ?_)⟩
      · have : (10 ^ 60 : Int) ≤ n := of_decide_eq_true e
        omega
      · have hS : ∀ xs, SqL K (upd H l (.lst xs)) l xs := fun xs => .inl (.inl upd_same)
        refine ⟨_, rfl, .inl ⟨rfl, _, .inl (.inl upd_same)⟩, _, rfl, n, rfl, log2_50 h0 h1, l, [], _, rfl, rfl, upd_same, by decide, ?_⟩
        refine ⟨⟨_, rfl⟩, _, rfl, l, [_], rfl, .inl (.inl upd_same), fun p np => ?_⟩
        refine ⟨_, p, [Str.ofString (toString n)], rfl, rfl, .inl (.inl (.inl upd_same)), ?_, ?_⟩
        · have l1 := numL_50 h0 h1
          show (([(Str.ofString (toString n)).length] : List Nat).sum + 1 * _) ≤ 16777216
          have z : ("" : Str).length = 0 := by decide +kernel
          rw [toS h0, SX.S_len, z]
          simp
          omega
        · have e1 : Txt.join ("" : Str) [Str.ofString (toString n)] = SX.S (TL.numL n.toNat) := by
            have z : ("" : Str) = SX.S [] := by decide +kernel
            rw [toS h0, z]
            exact SX.join_S [] [TL.numL n.toNat]
          rw [e1]
          have np1 : (upd H l (.lst [])) l = some (.lst []) := upd_same
          refine k _ fun b o e => ?_
          have hb : b ≠ l := ne_of_none e nl
          have hbp : b ≠ p := fun z => by
            subst z
            rw [upd_ne hb, upd_ne hb] at np
            rw [np] at e
            cases e
          rw [upd_ne hbp, upd_ne hb, upd_ne hb]
          exact e
    · rintro σ H2 Q1 Q2 hQ ⟨v, e, i, j, e1, e2, k, ek, q'⟩
      exact ⟨v, e, i, j, e1, e2, k, ek, hQ _ _ q'⟩
theorem small60 : ∀ n : Nat, n < 60 → Builtin.Range.small ((n : Nat) : Int) ((n : Nat) : Int) 60 = true := by decide +kernel
def sp__read_int (K : PySem.W.Frag) (c : Addr) : Sp := fun vs H Q _ => ∃ (l : List Nat), vs = [.str (SX.S l)] ∧ NumText.AllDigits l ∧ l.length < 60 ∧ Q (.int ((NumText.digitsVal l : Nat) : Int)) H
theorem cal__read_int (B : Bl mg) (DD : OwnDef K mg "_read_int" s__read_int)  (T : Tx K mg c) : Cal P w K mg base 1 "_read_int" (sp__read_int K c) [] := by
  obtain ⟨f, fd, F, hm⟩ := DD.ex
  refine ⟨f, fd, ["digits"], [], F.ok sc__read_int (fun vs H Q E h => ?len) (fun cdv A outer s H vs Q E hr h => ?run), hm, F.kp, F.binds (fun _ _ _ _ _ _ us hl => match us, hl with | [_], _ => rfl), .nil⟩
  case len => first | (obtain ⟨_, rfl, _⟩ := h; rfl) | (obtain ⟨_, _, rfl, _⟩ := h; rfl) | (obtain ⟨_, _, _, rfl, _⟩ := h; rfl) | (obtain ⟨_, _, _, _, rfl, _⟩ := h; rfl) | (obtain ⟨_, _, _, _, _, rfl, _⟩ := h; rfl) | (obtain ⟨_, _, _, _, _, _, rfl, _⟩ := h; rfl) | (obtain ⟨_, _, _, _, _, _, _, rfl, _⟩ := h; rfl) | (obtain ⟨_, _, _, _, _, _, _, _, rfl, _⟩ := h; rfl) | (obtain ⟨_, _, _, _, _, _, _, _, _, rfl, _⟩ := h; rfl) | (obtain ⟨_, _, _, _, _, _, _, _, _, _, rfl, _⟩ := h; rfl) | (obtain ⟨_, _, _, _, _, _, _, _, _, _, _, rfl, _⟩ := h; rfl) | (obtain ⟨_, _, _, _, _, _, _, _, _, _, _, _, rfl, _⟩ := h; rfl) | (obtain ⟨_, _, _, _, _, _, _, _, _, _, _, _, _, rfl, _⟩ := h; rfl) | (obtain ⟨_, _, _, _, _, _, _, _, _, _, _, _, _, _, rfl, _⟩ := h; rfl)
  case run =>
    obtain ⟨l, rfl, hd, hl, k⟩ := h
    refine ⟨_, (pss_cons (ps_set (i := 1) sc__read_int.nd rfl (Or.inl rfl) (pe_op op_mod (pe_callB call_len_str (by rfl) B.len (by decide +kernel) (pa_cons (pv 0) pa_nil)) (pe_gint (by rfl) T.g_BLOCK_DIGITS)))
      (pss_cons (ps_set (i := 2) sc__read_int.nd rfl (Or.inl rfl) (pe_callTy call_int_str (by rfl) B.int (by decide +kernel) (pa_cons (pe_op op_add_str pe_str (pe_slice C8.sl_txt (pv 0) po_none (po_some (pv 1)))) pa_nil)))
      (pss_cons (ps_for PassesOwn.never rfl (pi_range3 (by rfl) B.range (pa_cons (pv 1) (pa_cons (pe_callB call_len_str (by rfl) B.len (by decide +kernel) (pa_cons (pv 0) pa_nil)) (pa_cons (pe_gint (by rfl) T.g_BLOCK_DIGITS) pa_nil)))) (pg_name (i := 3) sc__read_int.nd rfl (Or.inl rfl)) (pss_one (ps_set (i := 2) sc__read_int.nd rfl (Or.inl rfl) (pe_op op_add (pe_op op_mulW (pv 2) (pe_gint (by rfl) T.g_BLOCK)) (pe_callTy call_int_str (by rfl) B.int (by decide +kernel) (pa_cons (pe_slice C8.sl_txt (pv 0) (po_some (pv 3)) (po_some (pe_op op_add (pv 3) (pe_gint (by rfl) T.g_BLOCK_DIGITS)))) pa_nil))))))
      (pss_one (ps_ret (pv 2)))))), ?_⟩
    have sl : sizeLine = 16777216 := sizeLine_eq
    have em : (((SX.S l).length : Nat) : Int) % 60 = ((l.length : Nat) : Int) := by rw [SX.S_len]; omega
    refine ⟨_, rfl, _, rfl, by rw [SX.S_len]; omega, _, _, rfl, rfl, (by show (0 : Int) < 60; decide), ?_⟩
    have e48 : ("0" : Str) = SX.S [48] := by decide +kernel
    refine ⟨_, rfl, _, rfl, _, rfl, _, rfl, by rw [SX.S_len]; omega, ?_⟩
    have ec : Txt.slice (SX.S l) none (some ((((SX.S l).length : Nat) : Int) % 60)) = SX.S l := by
      rw [em, SX.slice_to (by omega)]
      congr 1
      rw [show ((l.length : Nat) : Int).toNat = l.length by omega, List.take_length]
    refine ⟨_, _, rfl, congrArg V.str ec, ?_, ?_⟩
    · rw [e48, SX.S_len, SX.S_len, sl]; simp; omega
    rw [e48, SX.S_cat]
    refine ⟨_, _, rfl, SX.int_S (allD (l := 48 :: l) ?_) (by simp) (by simp; omega), by rw [SX.S_len]; simp; omega, ?_⟩
    · intro d hm
      rcases List.mem_cons.mp hm
            with rfl | hm
      · decide
      · exact hd d hm
    refine ⟨_, rfl, _, rfl, _, rfl, by rw [SX.S_len]; omega, ?_⟩
    refine ⟨((l.length : Nat) : Int), ((l.length : Nat) : Int), 60, 0, ?_, ?_, ?_⟩
    · show [V.int ((((SX.S l).length : Nat) : Int) % 60), V.int (((SX.S l).length : Nat) : Int), V.int 60] = _
      rw [em, SX.S_len]
    · refine ⟨by decide, by decide, ?_, ?_⟩
      · exact small60 _ hl
      · unfold Builtin.Range.rangeSize
        rw [if_pos (by decide), if_neg (by omega)]
        rfl
    refine for_rangeC (n := 0) (fun _ σ H2 => σ = [some (.str (SX.S l)), some (.int ((((SX.S l).length : Nat) : Int) % 60)), some (.int ((NumText.digitsVal l : Nat) : Int)), none] ∧ H2 = H) ⟨rfl, rfl⟩ (fun i _ _ hi => absurd hi (Nat.not_lt_zero i)) ?_
    rintro σ H2 ⟨rfl, rfl⟩
    exact ⟨_, rfl, k⟩
def sp_is_digits (K : PySem.W.Frag) (c : Addr) : Sp := fun vs H Q _ => ∃ (x : Str), vs = [.str x] ∧ Q (.bl (Txt.isascii x && Txt.isdigit x)) H
theorem cal_is_digits (B : Bl mg) (DD : OwnDef K mg "is_digits" s_is_digits)   : Cal P w K mg base 1 "is_digits" (sp_is_digits K c) [] := by
  obtain ⟨f, fd, F, hm⟩ := DD.ex
  refine ⟨f, fd, ["text"], [], F.ok sc_is_digits (fun vs H Q E h => ?len) (fun cdv A outer s H vs Q E hr h => ?run), hm, F.kp, F.binds (fun _ _ _ _ _ _ us hl => match us, hl with | [_], _ => rfl), .nil⟩
  case len => first | (obtain ⟨_, rfl, _⟩ := h; rfl) | (obtain ⟨_, _, rfl, _⟩ := h; rfl) | (obtain ⟨_, _, _, rfl, _⟩ := h; rfl) | (obtain ⟨_, _, _, _, rfl, _⟩ := h; rfl) | (obtain ⟨_, _, _, _, _, rfl, _⟩ := h; rfl) | (obtain ⟨_, _, _, _, _, _, rfl, _⟩ := h; rfl) | (obtain ⟨_, _, _, _, _, _, _, rfl, _⟩ := h; rfl) | (obtain ⟨_, _, _, _, _, _, _, _, rfl, _⟩ := h; rfl) | (obtain ⟨_, _, _, _, _, _, _, _, _, rfl, _⟩ := h; rfl) | (obtain ⟨_, _, _, _, _, _, _, _, _, _, rfl, _⟩ := h; rfl) | (obtain ⟨_, _, _, _, _, _, _, _, _, _, _, rfl, _⟩ := h; rfl) | (obtain ⟨_, _, _, _, _, _, _, _, _, _, _, _, rfl, _⟩ := h; rfl) | (obtain ⟨_, _, _, _, _, _, _, _, _, _, _, _, _, rfl, _⟩ := h; rfl) | (obtain ⟨_, _, _, _, _, _, _, _, _, _, _, _, _, _, rfl, _⟩ := h; rfl)
  case run =>
    obtain ⟨x, rfl, k⟩ := h
    refine ⟨_, (pss_one (ps_ret (pe_and (pe_m0 PySem.F.slot_str_isascii PySem.F.type_str_isascii mt_isascii (pv 0)) (pe_one (pe_m0 PySem.F.slot_str_isdigit PySem.F.type_str_isdigit mt_isdigit (pv 0)))))), ?_⟩
    refine ⟨_, rfl, ⟨_, rfl⟩, x, rfl, rfl, trivial, _, rfl, ite2 (fun e => ?_) (fun e => ?_)⟩
    · rw [e, Bool.true_and] at k
      exact ⟨_, rfl, ⟨_, rfl⟩, x, rfl, rfl, trivial, k⟩
    · have e' : Txt.isascii x = false := by
        cases q : Txt.isascii x with
        | false => rfl
        | true => exact absurd q e
      rw [e', Bool.false_and] at k
      exact k
theorem numL_isdigit (n : Nat) : (Txt.isascii (SX.S (TL.numL n)) && Txt.isdigit (SX.S (TL.numL n))) = true := by
  have hd := TL.numL_digits n
  have hp : 0 < (TL.numL n).length := List.length_pos_iff.mpr (TL.numL_ne n)
  unfold Txt.isascii Txt.isdigit
  rw [Bool.and_eq_true,
        Bool.and_eq_true]
  refine ⟨?_, ?_, ?_⟩
  · rw [← Array.all_toList, List.all_eq_true]
    intro d hm
    have := hd d hm
    simp; omega
  · rw [SX.S_len]; exact decide_eq_true hp
  · rw [← Array.all_toList, List.all_eq_true]
    intro d hm
    have := hd d hm
    have h2 : ∀ d : Nat, d < 58 → 48 ≤ d → Unicode.isDigit d = true := by decide +kernel
    exact h2 d (by omega) this.1
/-- number_text(pair) -/
def sp_number_text (K : PySem.W.Frag) (c : Addr) : Sp := fun vs H Q _ => ∃ (v : V) (q : Int × Int), vs = [v] ∧ D K H v (encQ q) ∧ OkW q ∧ ∀ H', Same H H' → Q (.str (SX.S (qL q))) H'
theorem cal_number_text (B : Bl mg) (DD : OwnDef K mg "number_text" s_number_text) (C__int_text : Cal P w K mg base 1 "_int_text" (sp__int_text K c) [])  : Cal P w K mg base 2 "number_text" (sp_number_text K c) [] := by
  obtain ⟨f, fd, F, hm⟩ := DD.ex
  refine ⟨f, fd, ["pair"], [], F.ok sc_number_text (fun vs H Q E h => ?len) (fun cdv A outer s H vs Q E hr h => ?run), hm, F.kp, F.binds (fun _ _ _ _ _ _ us hl => match us, hl with | [_], _ => rfl), .nil⟩
  case len => first | (obtain ⟨_, rfl, _⟩ := h; rfl) | (obtain ⟨_, _, rfl, _⟩ := h; rfl) | (obtain ⟨_, _, _, rfl, _⟩ := h; rfl) | (obtain ⟨_, _, _, _, rfl, _⟩ := h; rfl) | (obtain ⟨_, _, _, _, _, rfl, _⟩ := h; rfl) | (obtain ⟨_, _, _, _, _, _, rfl, _⟩ := h; rfl) | (obtain ⟨_, _, _, _, _, _, _, rfl, _⟩ := h; rfl) | (obtain ⟨_, _, _, _, _, _, _, _, rfl, _⟩ := h; rfl) | (obtain ⟨_, _, _, _, _, _, _, _, _, rfl, _⟩ := h; rfl) | (obtain ⟨_, _, _, _, _, _, _, _, _, _, rfl, _⟩ := h; rfl) | (obtain ⟨_, _, _, _, _, _, _, _, _, _, _, rfl, _⟩ := h; rfl) | (obtain ⟨_, _, _, _, _, _, _, _, _, _, _, _, rfl, _⟩ := h; rfl) | (obtain ⟨_, _, _, _, _, _, _, _, _, _, _, _, _, rfl, _⟩ := h; rfl) | (obtain ⟨_, _, _, _, _, _, _, _, _, _, _, _, _, _, rfl, _⟩ := h; rfl)
  case run =>
    obtain ⟨v, q, rfl, hv, ok, k⟩ := h
    refine ⟨_, (pss_cons (ps_if (pt_cmpR op_eq (pe_ix ix_seq (pv 0) pe_int (fun _ _ => rfl)) pe_int (nomark _)) (pss_one (ps_ret (pe_c C__int_text hr (by decide) (by rfl) (pa_cons (pe_ix ix_seq (pv 0) pe_int (fun _ _ => rfl)) pa_nil)))) pss_nil)
      (pss_one (ps_ret (pe_joined (PJ.cons (pe_fmt (pe_c C__int_text hr (by decide) (by rfl) (pa_cons (pe_ix ix_seq (pv 0) pe_int (fun _ _ => rfl)) pa_nil))) (PJ.cons pe_str (PJ.cons (pe_fmt (pe_c C__int_text hr (by decide) (by rfl) (pa_cons (pe_ix ix_seq (pv 0) pe_int (fun _ _ => rfl)) pa_nil))) PJ.nil))))))), ?_⟩
    refine ⟨_, rfl, ix_di hv (by decide) rfl ?_⟩
    refine ⟨rfl, _, rfl, ite2 (fun e => ?_) (fun e => ?_)⟩
    · have e1 : q.2 = 1 := V.int.inj (of_decide_eq_true e)
      refine ⟨_, rfl, ix_di hv (by decide) rfl ?_⟩
      refine ⟨q.1, rfl, ok.a, ok.a2, fun H1 s1 => ?_⟩
      have z : qL q = TL.numL q.1.toNat := by unfold qL; rw [if_pos e1]
      rw [z] at k
      exact k _ s1
    · have e1 : ¬ q.2 = 1 := fun z => e (decide_eq_true (congrArg V.int z))
      have l1 := numL_50 ok.a ok.a2
      have l2 := numL_50 (Int.le_of_lt ok.b) ok.b2
      have sl : sizeLine = 16777216 := sizeLine_eq
      have c47 : ("/" : Str) = SX.S [47] := by decide +kernel
      have c0 : Str.empty = SX.S [] := by decide +kernel
      refine ⟨_, rfl, ix_di hv (by decide) rfl ?_⟩
      refine ⟨q.1, rfl, ok.a, ok.a2, fun H1 s1 => ?_⟩
      refine .inl ⟨_, rfl, by rw [SX.S_len]; omega, _, rfl, ?_, ?_⟩
      · rw [c0, SX.S_cat, SX.S_len, List.nil_append]; omega
      refine ⟨_, rfl, ?_, ?_⟩
      · rw [c0, c47, SX.S_cat, SX.S_cat, SX.S_len, sl]; simp; omega
      have hv1 := D.same s1 hv
      refine ⟨_, rfl, ix_di hv1 (by decide) rfl ?_⟩
      refine ⟨q.2, rfl, Int.le_of_lt ok.b, ok.b2, fun H2 s2 => ?_⟩
      refine .inl ⟨_, rfl, by rw [SX.S_len]; omega, _, rfl, ?_, ?_⟩
      · rw [c0, c47, SX.S_cat, SX.S_cat, SX.S_cat, SX.S_len, sl]; simp; omega
      have z : SX.S (qL q) = Str.empty ++ SX.S (TL.numL q.1.toNat) ++ ("/" : Str) ++ SX.S (TL.numL q.2.toNat) := by
        rw [c0, c47, SX.S_cat, SX.S_cat, SX.S_cat]
        unfold qL
        rw [if_neg e1]
        simp
      rw [z] at k
      exact k _ (s1.trans s2)
theorem qL_inj_parts (q : Int × Int) : (qParts q).length = if q.2 = 1 then 1 else 2 := by
  unfold qParts
  split <;> rfl
theorem iteT' {b : Bool} {A B : Prop} (e : b = true) (h : A) : if b = true then A else B := by rw [if_pos e]; exact h
/-- read_number(text), of the text of a number in lowest terms -/
def sp_read_number (K : PySem.W.Frag) (c : Addr) : Sp := fun vs H Q _ => ∃ (q : Int × Int), vs = [.str (SX.S (qL q))] ∧ OkW q ∧ lowQ q.1 q.2 = q ∧
  ∀ p H', Same H H' → H p = none → H' p = some (.tup [.int q.1, .int q.2]) → Q (.ref p) H'
theorem cal_read_number (B : Bl mg) (DD : OwnDef K mg "read_number" s_read_number) (C__read_int : Cal P w K mg base 1 "_read_int" (sp__read_int K c) []) (C_lowest : Cal P w K mg base 2 "lowest" (sp_lowest K c) []) (C_is_number : Cal P w K mg base 2 "is_number" (sp_is_number K c) []) (C_number_text : Cal P w K mg base 2 "number_text" (sp_number_text K c) []) (C_is_digits : Cal P w K mg base 1 "is_digits" (sp_is_digits K c) [])  : Cal P w K mg base 3 "read_number" (sp_read_number K c) [] := by
  obtain ⟨f, fd, F, hm⟩ := DD.ex
  refine ⟨f, fd, ["text"], [], F.ok sc_read_number (fun vs H Q E h => ?len) (fun cdv A outer s H vs Q E hr h => ?run), hm, F.kp, F.binds (fun _ _ _ _ _ _ us hl => match us, hl with | [_], _ => rfl), .nil⟩
  case len => first | (obtain ⟨_, rfl, _⟩ := h; rfl) | (obtain ⟨_, _, rfl, _⟩ := h; rfl) | (obtain ⟨_, _, _, rfl, _⟩ := h; rfl) | (obtain ⟨_, _, _, _, rfl, _⟩ := h; rfl) | (obtain ⟨_, _, _, _, _, rfl, _⟩ := h; rfl) | (obtain ⟨_, _, _, _, _, _, rfl, _⟩ := h; rfl) | (obtain ⟨_, _, _, _, _, _, _, rfl, _⟩ := h; rfl) | (obtain ⟨_, _, _, _, _, _, _, _, rfl, _⟩ := h; rfl) | (obtain ⟨_, _, _, _, _, _, _, _, _, rfl, _⟩ := h; rfl) | (obtain ⟨_, _, _, _, _, _, _, _, _, _, rfl, _⟩ := h; rfl) | (obtain ⟨_, _, _, _, _, _, _, _, _, _, _, rfl, _⟩ := h; rfl) | (obtain ⟨_, _, _, _, _, _, _, _, _, _, _, _, rfl, _⟩ := h; rfl) | (obtain ⟨_, _, _, _, _, _, _, _, _, _, _, _, _, rfl, _⟩ := h; rfl) | (obtain ⟨_, _, _, _, _, _, _, _, _, _, _, _, _, _, rfl, _⟩ := h; rfl)
  case run =>
    obtain ⟨q, rfl, ok, low, k⟩ := h
    refine ⟨_, (pss_cons (ps_set (i := 1) sc_read_number.nd rfl (Or.inl rfl) (pe_split (pv 0) pe_str))
      (pss_cons (ps_if (PW.pt (pw_or (pt_cmpR op_gt (pe_callB call_len_seq (by rfl) B.len (by decide +kernel) (pa_cons (pv 1) pa_nil)) pe_int (nomark _)) (pw_or1 (pt_not (pt_val (pe_callB (cr_all rfl) (by rfl) B.all (by decide +kernel) (pa_cons (pe_lc (own := [("part", 2)]) (by rfl) sc_read_number.nd (pi_list (pv 1)) (blkOk_by (own := [("part", 2)]) (N := ["text", "parts", "part", "number", "pair"]) (sc := defScope s_read_number) (by decide +kernel)) (fun _ _ _ _ _ => (pg_name (i := 2) sc_read_number.nd rfl (Or.inl rfl))) (fun _ _ _ _ _ => pts_nil) (fun _ _ _ _ _ => (pe_c C_is_digits hr (by decide) (by rfl) (pa_cons (pv 2) pa_nil)))) pa_nil))))))) (pss_one (ps_ret pe_non)) pss_nil)
      (pss_cons (ps_set (i := 3) sc_read_number.nd rfl (Or.inl rfl) (pe_c C__read_int hr (by decide) (by rfl) (pa_cons (pe_ix ix_seq (pv 1) pe_int (fun _ _ => rfl)) pa_nil)))
      (pss_cons (ps_if (pt_cmpR op_eq (pe_callB call_len_seq (by rfl) B.len (by decide +kernel) (pa_cons (pv 1) pa_nil)) pe_int (nomark _)) (pss_one (ps_set (i := 3) sc_read_number.nd rfl (Or.inl rfl) (pe_tup (pa_cons (pv 3) (pa_cons (pe_c C__read_int hr (by decide) (by rfl) (pa_cons (pe_ix ix_seq (pv 1) pe_int (fun _ _ => rfl)) pa_nil)) pa_nil))))) pss_nil)
      (pss_cons (ps_if (pt_not (pt_val (pe_c C_is_number hr (by decide) (by rfl) (pa_cons (pv 3) pa_nil)))) (pss_one (ps_ret pe_non)) pss_nil)
      (pss_cons (ps_set (i := 4) sc_read_number.nd rfl (Or.inl rfl) (pe_c C_lowest hr (by decide) (by rfl) (pa_cons (pv 3) pa_nil)))
      (pss_one (ps_ret (pe_ifExp (pt_cmpR op_eq (pe_c C_number_text hr (by decide) (by rfl) (pa_cons (pv 4) pa_nil)) (pv 0) (nomark _)) (pv 4) pe_non))))))))), ?_⟩
    have ql := qL_len ok
    have sl : sizeLine = 16777216 := sizeLine_eq
    have c47 : ("/" : Str) = SX.S [47] := by decide +kernel
    refine ⟨_, rfl, ⟨_, rfl⟩, _, _, rfl, rfl, by decide +kernel, by rw [SX.S_len]; omega, fun l nl => ?_⟩
    have es : Txt.split (SX.S (qL q)) ("/" : Str) = (qParts q).map SX.S := by rw [c47]; exact qSplit q
    rw [es]
    have hS : SqL K (upd H l (.lst (((qParts q).map SX.S).map V.str))) l (((qParts q).map SX.S).map V.str) := .inl (.inl upd_same)
    have s1 : Same H (upd H l (.lst (((qParts q).map SX.S).map V.str))) := same_new nl
    -- if len(parts) > 2 or not all(..)
    refine ⟨_, rfl, l, _, rfl, .inl hS, _, _, rfl, rfl, _, rfl, ite2 (fun e => ?_) (fun _ => ?_)⟩
    · have e1 : (2 : Int) < ((((qParts q).map SX.S).map V.str).length : Nat) := of_decide_eq_true e
      rw [List.length_map, List.length_map, qL_inj_parts] at e1
      split at e1 <;> omega
    -- all([is_digits(part) for part in parts])
    refine ⟨_, rfl, l, rfl, ⟨_, hS⟩, fun D0 nD => ?_⟩
    refine lc_list (K := K) (a := l) (xs := ((qParts q).map SX.S).map V.str) (fun i H2 => Same (upd H l (.lst (((qParts q).map SX.S).map V.str))) H2 ∧ H2 D0 = some (.lst (List.replicate i (V.bl true)))) ⟨same_new nD, upd_same⟩ (fun i H2 _ ⟨s2, _⟩ => s2.seq hS) ?_ ?_
    · rintro i y H2 hi ⟨s2, eD⟩
      obtain ⟨x, hx, rfl⟩ := some_map hi
      obtain ⟨m, hm', rfl⟩ := some_map hx
      have hil : i < (qParts q).length := (List.getElem?_eq_some_iff.mp hm').1
      have hdig : (Txt.isascii (SX.S m) && Txt.isdigit (SX.S m)) = true := by
        have mem : m ∈ qParts q := List.mem_of_getElem? hm'
        unfold qParts at mem
        split at mem
        · rw [List.mem_singleton] at mem; subst mem; exact numL_isdigit _
        · rcases List.mem_cons.mp mem with rfl | mem
          · exact numL_isdigit _
          · rw [List.mem_singleton] at mem; subst mem; exact numL_isdigit _
      refine ⟨rfl, _, rfl, _, rfl, ?_⟩
      rw [hdig]
      refine ⟨_, eD, by rw [List.length_replicate]; rw [qL_inj_parts] at hil; split at hil <;> omega, fun b o e => ?_, ?_⟩
      · rw [upd_ne (ne_of_none e nD)]
        exact s2 _ _ e
      · rw [upd_same, List.replicate_succ']
    rintro H2 ⟨s2, eD⟩
    refine ⟨D0, List.replicate _ true, rfl, .inl (.inl (by rw [List.map_replicate]; exact eD)), _, rfl, ?_⟩
    rw [show (List.replicate (((qParts q).map SX.S).map V.str).length true).all id = true from by simp]
    have hS2 := s2.seq hS
    have s02 : Same H H2 := s1.trans s2
    -- number = _read_int(parts[0])
    have e0 : (((qParts q).map SX.S).map V.str)[0]? = some (V.str (SX.S (TL.numL q.1.toNat))) := by
      unfold qParts
      split <;> rfl
    refine ⟨_, rfl, rd_raw hS2 (by decide) e0 ?_⟩
    have l1 := numL_50 ok.a ok.a2
    have l2 := numL_50 (Int.le_of_lt ok.b) ok.b2
    refine ⟨_, rfl, TL.numL_digits _, by omega, ?_⟩
    rw [TL.numL_val, show ((q.1.toNat : Nat) : Int) = q.1 by have := ok.a; omega]
    have okb : q.2.natAbs < 2 ^ 8000 := Nat.lt_trans (show q.2.natAbs < 2 ^ 200 by have := ok.b; have := ok.b2; omega) (by decide +kernel)
    dsimp only [tSeq, tAsg, gName]
    refine viaIf (fun σ' H3 => ∃ (v : V) (d : PyData), σ' = [some (.str (SX.S (qL q))), some (.ref l), none, some v, none] ∧ Same H H3 ∧ LW.D K H3 v d ∧ isNumD d = true ∧ lowD d = q ∧ (∀ a b, d = encQ (a, b) → b.natAbs < 2 ^ 8000)) (fun D' go => ?_) ?_
    · refine ⟨_, rfl, l, _, rfl, .inl hS2, rfl, _, rfl, ite2 (fun e => ?_) (fun e => ?_)⟩
      · have e1 : (((((qParts q).map SX.S).map V.str).length : Nat) : Int) = 2 := V.int.inj (of_decide_eq_true e)
        rw [List.length_map, List.length_map, qL_inj_parts] at e1
        have q2 : ¬ q.2 = 1 := fun z => by rw [if_pos z] at e1; omega
        have e1' : (((qParts q).map SX.S).map V.str)[1]? = some (V.str (SX.S (TL.numL q.2.toNat))) := by
          unfold qParts
          rw [if_neg q2]
          rfl
        refine ⟨_, rfl, _, rfl, rd_raw hS2 (by decide) e1' ?_⟩
        refine ⟨_, rfl, TL.numL_digits _, by omega, ?_⟩
        rw [TL.numL_val, show ((q.2.toNat : Nat) : Int) = q.2 by have := ok.b; omega]
        refine ⟨by show 2 ≤ sizeLine; decide, fun p np => go _ _ ⟨.ref p, encQ q, rfl, s02.trans (same_new np), ?_, enc_num ok.b, low, ?_⟩⟩
        · exact .tup' (.inl (.inl upd_same)) (DAll.cons (.int _) (DAll.cons (.int _) DAll.nil))
        · intro a b z
          have z1 : PyData.tuple [.int q.1, .int q.2] = PyData.tuple [.int a, .int b] := z
          injection z1 with z1
          injection z1 with _ z1
          injection z1 with z1
          injection z1 with z1
          rw [← z1]
          exact okb
      · have q2 : q.2 = 1 := by
          by_cases z : q.2 = 1
          · exact z
          · refine absurd (decide_eq_true (congrArg V.int ?_)) e
            rw [List.length_map, List.length_map, qL_inj_parts, if_neg z]
            rfl
        refine go _ _ ⟨.int q.1, .int q.1, rfl, s02, .int _, rfl, ?_, fun a b z => by cases z⟩
        show (q.1, (1 : Int)) = q
        rw [← q2]
    rintro σ H3 ⟨v, d, rfl, s3, hv, hn, hlow, hsz⟩
    refine ⟨_, rfl, v, d, rfl, hv, _, rfl, ?_⟩
    rw [hn]
    refine ⟨_, rfl, v, d, rfl, hv, hn, hsz, fun p H4 s4 np ep => ?_⟩
    rw [hlow] at ep
    have hq : LW.D K H4 (.ref p) (encQ q) := .tup' (.inl (.inl ep)) (DAll.cons (.int _) (DAll.cons (.int _) DAll.nil))
    refine ⟨_, rfl, .ref p, q, rfl, hq, ok, fun H5 s5 => ?_⟩
    refine ⟨_, rfl, rfl, _, rfl, iteT' (decide_eq_true rfl) ?_⟩
    exact ⟨_, rfl, k p H5 (s3.trans (s4.trans s5)) (s3.free np) (s5 _ _ ep)⟩
end
/-! ### the program: rules -/
def ltQ (p q : Int × Int) : Prop := p.1 * q.2 < q.1 * p.2
instance (p q : Int × Int) : Decidable (ltQ p q) := inferInstanceAs (Decidable (_ < _))
def plainQ (o : Int × Int) (n : Int) : Int × Int := (o.1 + n * o.2, o.2)
theorem D_Q {K : PySem.W.Frag} {H : Hp} {p : Addr} {q : Int × Int} (e : H p = some (.tup [.int q.1, .int q.2])) : D K H (.ref p) (encQ q) := .tup' (.inl (.inl e)) (DAll.cons (.int _) (DAll.cons (.int _) DAll.nil))
theorem Is_Q {K : PySem.W.Frag} {A : List Addr} {H : Hp} {p : Addr} {q : Int × Int} (hp : p ∉ A) (e : H p = some (.tup [.int q.1, .int q.2])) : Is K A H (.ref p) (encQ q) := D_Q (by rw [hv_out hp]; exact e)
section
variable {P : Program} {w : World} {K : PySem.W.Frag} {mg : Str → Option Value} {base : Heap} {c : Addr} {TLb : List (Addr × Str)}
def sp_is_less (K : PySem.W.Frag) (c : Addr) : Sp := fun vs H Q _ => ∃ (v u : V) (p q : Int × Int), vs = [v, u] ∧ D K H v (encQ p) ∧ D K H u (encQ q) ∧ smallQ p ∧ smallQ q ∧ Q (.bl (decide (ltQ p q))) H
theorem cal_is_less (B : Bl mg) (DD : OwnDef K mg "is_less" s_is_less)   : Cal P w K mg base 1 "is_less" (sp_is_less K c) [] := by
  obtain ⟨f, fd, F, hm⟩ := DD.ex
  refine ⟨f, fd, ["pair", "other_pair"], [], F.ok sc_is_less (fun vs H Q E h => ?len) (fun cdv A outer s H vs Q E hr h => ?run), hm, F.kp, F.binds (fun _ _ _ _ _ _ us hl => match us, hl with | [_, _], _ => rfl), .nil⟩
  case len => first | (obtain ⟨_, rfl, _⟩ := h; rfl) | (obtain ⟨_, _, rfl, _⟩ := h; rfl) | (obtain ⟨_, _, _, rfl, _⟩ := h; rfl) | (obtain ⟨_, _, _, _, rfl, _⟩ := h; rfl) | (obtain ⟨_, _, _, _, _, rfl, _⟩ := h; rfl) | (obtain ⟨_, _, _, _, _, _, rfl, _⟩ := h; rfl) | (obtain ⟨_, _, _, _, _, _, _, rfl, _⟩ := h; rfl) | (obtain ⟨_, _, _, _, _, _, _, _, rfl, _⟩ := h; rfl) | (obtain ⟨_, _, _, _, _, _, _, _, _, rfl, _⟩ := h; rfl) | (obtain ⟨_, _, _, _, _, _, _, _, _, _, rfl, _⟩ := h; rfl) | (obtain ⟨_, _, _, _, _, _, _, _, _, _, _, rfl, _⟩ := h; rfl) | (obtain ⟨_, _, _, _, _, _, _, _, _, _, _, _, rfl, _⟩ := h; rfl) | (obtain ⟨_, _, _, _, _, _, _, _, _, _, _, _, _, rfl, _⟩ := h; rfl) | (obtain ⟨_, _, _, _, _, _, _, _, _, _, _, _, _, _, rfl, _⟩ := h; rfl)
  case run =>
    obtain ⟨v, u, p, q, rfl, hv, hu, sp, sq, k⟩ := h
    refine ⟨_, (pss_one (ps_ret (pe_cmpR op_lt (pe_op op_mulW (pe_ix ix_seq (pv 0) pe_int (fun _ _ => rfl)) (pe_ix ix_seq (pv 1) pe_int (fun _ _ => rfl))) (pe_op op_mulW (pe_ix ix_seq (pv 1) pe_int (fun _ _ => rfl)) (pe_ix ix_seq (pv 0) pe_int (fun _ _ => rfl))) (nomark _)))), ?_⟩
    refine ⟨_, rfl, ix_di hv (by decide) rfl ?_⟩
    refine ⟨_, rfl, ix_di hu (by decide) rfl ?_⟩
    refine ⟨_, _, rfl, rfl, wide_mul sp.1 sq.2 (by decide) (by decide) (by decide), _, rfl, ix_di hu (by decide) rfl ?_⟩
    refine ⟨_, rfl, ix_di hv (by decide) rfl ?_⟩
    exact ⟨_, _, rfl, rfl, wide_mul sq.1 sp.2 (by decide) (by decide) (by decide), _, _, rfl, rfl, k⟩
def sp__plain_mark (K : PySem.W.Frag) (c : Addr) : Sp := fun vs H Q _ => ∃ (v : V) (o : Int × Int) (n : Int), vs = [v, .int n] ∧ D K H v (encQ o) ∧ n.natAbs < 2 ^ 8000 ∧ o.2.natAbs < 2 ^ 8000 ∧
  ∀ p, H p = none → Q (.ref p) (upd H p (.tup [.int (plainQ o n).1, .int (plainQ o n).2]))
theorem cal__plain_mark (B : Bl mg) (DD : OwnDef K mg "_plain_mark" s__plain_mark)   : Cal P w K mg base 1 "_plain_mark" (sp__plain_mark K c) [] := by
  obtain ⟨f, fd, F, hm⟩ := DD.ex
  refine ⟨f, fd, ["offset", "number"], [], F.ok sc__plain_mark (fun vs H Q E h => ?len) (fun cdv A outer s H vs Q E hr h => ?run), hm, F.kp, F.binds (fun _ _ _ _ _ _ us hl => match us, hl with | [_, _], _ => rfl), .nil⟩
  case len => first | (obtain ⟨_, rfl, _⟩ := h; rfl) | (obtain ⟨_, _, rfl, _⟩ := h; rfl) | (obtain ⟨_, _, _, rfl, _⟩ := h; rfl) | (obtain ⟨_, _, _, _, rfl, _⟩ := h; rfl) | (obtain ⟨_, _, _, _, _, rfl, _⟩ := h; rfl) | (obtain ⟨_, _, _, _, _, _, rfl, _⟩ := h; rfl) | (obtain ⟨_, _, _, _, _, _, _, rfl, _⟩ := h; rfl) | (obtain ⟨_, _, _, _, _, _, _, _, rfl, _⟩ := h; rfl) | (obtain ⟨_, _, _, _, _, _, _, _, _, rfl, _⟩ := h; rfl) | (obtain ⟨_, _, _, _, _, _, _, _, _, _, rfl, _⟩ := h; rfl) | (obtain ⟨_, _, _, _, _, _, _, _, _, _, _, rfl, _⟩ := h; rfl) | (obtain ⟨_, _, _, _, _, _, _, _, _, _, _, _, rfl, _⟩ := h; rfl) | (obtain ⟨_, _, _, _, _, _, _, _, _, _, _, _, _, rfl, _⟩ := h; rfl) | (obtain ⟨_, _, _, _, _, _, _, _, _, _, _, _, _, _, rfl, _⟩ := h; rfl)
  case run =>
    obtain ⟨v, o, n, rfl, hv, sn, so, k⟩ := h
    refine ⟨_, (pss_one (ps_ret (pe_tup (pa_cons (pe_op op_add (pe_ix ix_seq (pv 0) pe_int (fun _ _ => rfl)) (pe_op op_mulW (pv 1) (pe_ix ix_seq (pv 0) pe_int (fun _ _ => rfl)))) (pa_cons (pe_ix ix_seq (pv 0) pe_int (fun _ _ => rfl)) pa_nil))))), ?_⟩
    refine ⟨_, rfl, ix_di hv (by decide) rfl ?_⟩
    refine ⟨_, rfl, _, rfl, ix_di hv (by decide) rfl ?_⟩
    refine ⟨_, _, rfl, rfl, wide_mul sn so (by decide) (by decide) (by decide), _, _, rfl, rfl, _, rfl, ix_di hv (by decide) rfl ?_⟩
    exact ⟨by show 2 ≤ sizeLine; decide, fun p np => k p np⟩
def isCountD : PyData → Bool
  | .int i => decide (i ≥ 0)
  | _ => false
def sp_is_count (K : PySem.W.Frag) (c : Addr) : Sp := fun vs H Q _ => ∃ (v : V) (d : PyData), vs = [v] ∧ D K H v d ∧ Q (.bl (isCountD d)) H
theorem cal_is_count (B : Bl mg) (DD : OwnDef K mg "is_count" s_is_count) (C_is_int : Cal P w K mg base 1 "is_int" (sp_is_int K c) [])  : Cal P w K mg base 2 "is_count" (sp_is_count K c) [] := by
  obtain ⟨f, fd, F, hm⟩ := DD.ex
  refine ⟨f, fd, ["value"], [], F.ok sc_is_count (fun vs H Q E h => ?len) (fun cdv A outer s H vs Q E hr h => ?run), hm, F.kp, F.binds (fun _ _ _ _ _ _ us hl => match us, hl with | [_], _ => rfl), .nil⟩
  case len => first | (obtain ⟨_, rfl, _⟩ := h; rfl) | (obtain ⟨_, _, rfl, _⟩ := h; rfl) | (obtain ⟨_, _, _, rfl, _⟩ := h; rfl) | (obtain ⟨_, _, _, _, rfl, _⟩ := h; rfl) | (obtain ⟨_, _, _, _, _, rfl, _⟩ := h; rfl) | (obtain ⟨_, _, _, _, _, _, rfl, _⟩ := h; rfl) | (obtain ⟨_, _, _, _, _, _, _, rfl, _⟩ := h; rfl) | (obtain ⟨_, _, _, _, _, _, _, _, rfl, _⟩ := h; rfl) | (obtain ⟨_, _, _, _, _, _, _, _, _, rfl, _⟩ := h; rfl) | (obtain ⟨_, _, _, _, _, _, _, _, _, _, rfl, _⟩ := h; rfl) | (obtain ⟨_, _, _, _, _, _, _, _, _, _, _, rfl, _⟩ := h; rfl) | (obtain ⟨_, _, _, _, _, _, _, _, _, _, _, _, rfl, _⟩ := h; rfl) | (obtain ⟨_, _, _, _, _, _, _, _, _, _, _, _, _, rfl, _⟩ := h; rfl) | (obtain ⟨_, _, _, _, _, _, _, _, _, _, _, _, _, _, rfl, _⟩ := h; rfl)
  case run =>
    obtain ⟨v, d, rfl, hv, k⟩ := h
    refine ⟨_, (pss_one (ps_ret (pe_and (pe_c C_is_int hr (by decide) (by rfl) (pa_cons (pv 0) pa_nil)) (pe_one (pe_cmpR op_ge (pv 0) pe_int (nomark _)))))), ?_⟩
    refine ⟨_, rfl, v, d, rfl, hv, _, rfl, ?_⟩
    cases d with
    | int i =>
      obtain rfl := hv.int_eq
      exact ⟨_, rfl, _, _, rfl, rfl, k⟩
    | _ => exact k
def isOffD (d : PyData) : Bool := isNumD d && (decide (0 ≤ (lowD d).1) && decide ((lowD d).1 ≤ (lowD d).2))
def sp__is_offset (K : PySem.W.Frag) (c : Addr) : Sp := fun vs H Q _ => ∃ (v : V) (d : PyData), vs = [v] ∧ D K H v d ∧ (∀ a b, d = encQ (a, b) → b.natAbs < 2 ^ 8000) ∧ ∀ H', Same H H' → Q (.bl (isOffD d)) H'
theorem cal__is_offset (B : Bl mg) (DD : OwnDef K mg "_is_offset" s__is_offset) (C_lowest : Cal P w K mg base 2 "lowest" (sp_lowest K c) []) (C_is_number : Cal P w K mg base 2 "is_number" (sp_is_number K c) [])  : Cal P w K mg base 3 "_is_offset" (sp__is_offset K c) [] := by
  obtain ⟨f, fd, F, hm⟩ := DD.ex
  refine ⟨f, fd, ["value"], [], F.ok sc__is_offset (fun vs H Q E h => ?len) (fun cdv A outer s H vs Q E hr h => ?run), hm, F.kp, F.binds (fun _ _ _ _ _ _ us hl => match us, hl with | [_], _ => rfl), .nil⟩
  case len => first | (obtain ⟨_, rfl, _⟩ := h; rfl) | (obtain ⟨_, _, rfl, _⟩ := h; rfl) | (obtain ⟨_, _, _, rfl, _⟩ := h; rfl) | (obtain ⟨_, _, _, _, rfl, _⟩ := h; rfl) | (obtain ⟨_, _, _, _, _, rfl, _⟩ := h; rfl) | (obtain ⟨_, _, _, _, _, _, rfl, _⟩ := h; rfl) | (obtain ⟨_, _, _, _, _, _, _, rfl, _⟩ := h; rfl) | (obtain ⟨_, _, _, _, _, _, _, _, rfl, _⟩ := h; rfl) | (obtain ⟨_, _, _, _, _, _, _, _, _, rfl, _⟩ := h; rfl) | (obtain ⟨_, _, _, _, _, _, _, _, _, _, rfl, _⟩ := h; rfl) | (obtain ⟨_, _, _, _, _, _, _, _, _, _, _, rfl, _⟩ := h; rfl) | (obtain ⟨_, _, _, _, _, _, _, _, _, _, _, _, rfl, _⟩ := h; rfl) | (obtain ⟨_, _, _, _, _, _, _, _, _, _, _, _, _, rfl, _⟩ := h; rfl) | (obtain ⟨_, _, _, _, _, _, _, _, _, _, _, _, _, _, rfl, _⟩ := h; rfl)
  case run =>
    obtain ⟨v, d, rfl, hv, hsz, k⟩ := h
    refine ⟨_, (pss_cons (ps_if (pt_not (pt_val (pe_c C_is_number hr (by decide) (by rfl) (pa_cons (pv 0) pa_nil)))) (pss_one (ps_ret pe_bl)) pss_nil)
      (pss_cons (ps_asg (pe_c C_lowest hr (by decide) (by rfl) (pa_cons (pv 0) pa_nil)) (pg_tup (by rfl) (pgs_cons (pg_name (i := 1) sc__is_offset.nd rfl (Or.inl rfl)) (pgs_cons (pg_name (i := 2) sc__is_offset.nd rfl (Or.inl rfl)) pgs_nil))))
      (pss_one (ps_ret (pe_chain op_le op_le pe_int (pv 1) (pv 2)))))), ?_⟩
    refine ⟨_, rfl, v, d, rfl, hv, _, rfl, ?_⟩
    cases hn : isNumD d with
    | false =>
      have z : isOffD d = false := by unfold isOffD; rw [hn]; rfl
      rw [z] at k
      exact k _ (Same.refl H)
    | true =>
      have z : isOffD d = (decide (0 ≤ (lowD d).1) && decide ((lowD d).1 ≤ (lowD d).2)) := by unfold isOffD; rw [hn]; rfl
      rw [z] at k
      refine ⟨_, rfl, v, d, rfl, hv, hn, hsz, fun p H1 s1 np ep => ?_⟩
      refine ⟨p, _, rfl, .inl (.inl ep), rfl, .int (lowD d).1, [.int (lowD d).2], rfl, .int (lowD d).2, [], rfl, rfl, ?_⟩
      refine ⟨_, rfl, _, _, rfl, rfl, _, rfl, ite2 (fun e => ?_) (fun e => ?_)⟩
      · rw [e, Bool.true_and] at k
        exact ⟨_, rfl, _, _, rfl, rfl, k _ s1⟩
      · have e' : decide (0 ≤ (lowD d).1) = false := by
          cases q : decide (0 ≤ (lowD d).1) with
          | false => rfl
          | true => exact absurd q e
        rw [e', Bool.false_and] at k
        exact k _ s1
/-- _is_next_mark(element, marks), marks the list at l -/
def nextD (d : PyData) (ms : List (Int × Int)) : Bool := isNumD d && (match ms.getLast? with | some m => decide (ltQ m (lowD d)) | none => decide (0 ≤ (lowD d).1))
def sp__is_next_mark (K : PySem.W.Frag) (c : Addr) : Sp := fun vs H Q _ => ∃ (v : V) (d : PyData) (l : Addr) (ms : List (Int × Int)), vs = [v, .ref l] ∧ D K H v d ∧ D K H (.ref l) (.list (ms.map encQ)) ∧ (∀ a b, d = encQ (a, b) → b.natAbs < 2 ^ 8000) ∧
  (∀ m ∈ ms, smallQ m) ∧ (isNumD d = true → smallQ (lowD d)) ∧ ∀ H', Same H H' → Q (.bl (nextD d ms)) H'
theorem cal__is_next_mark (B : Bl mg) (DD : OwnDef K mg "_is_next_mark" s__is_next_mark) (C_lowest : Cal P w K mg base 2 "lowest" (sp_lowest K c) []) (C_is_number : Cal P w K mg base 2 "is_number" (sp_is_number K c) []) (C_is_less : Cal P w K mg base 1 "is_less" (sp_is_less K c) [])  : Cal P w K mg base 3 "_is_next_mark" (sp__is_next_mark K c) [] := by
  obtain ⟨f, fd, F, hm⟩ := DD.ex
  refine ⟨f, fd, ["element", "marks"], [], F.ok sc__is_next_mark (fun vs H Q E h => ?len) (fun cdv A outer s H vs Q E hr h => ?run), hm, F.kp, F.binds (fun _ _ _ _ _ _ us hl => match us, hl with | [_, _], _ => rfl), .nil⟩
  case len => first | (obtain ⟨_, rfl, _⟩ := h; rfl) | (obtain ⟨_, _, rfl, _⟩ := h; rfl) | (obtain ⟨_, _, _, rfl, _⟩ := h; rfl) | (obtain ⟨_, _, _, _, rfl, _⟩ := h; rfl) | (obtain ⟨_, _, _, _, _, rfl, _⟩ := h; rfl) | (obtain ⟨_, _, _, _, _, _, rfl, _⟩ := h; rfl) | (obtain ⟨_, _, _, _, _, _, _, rfl, _⟩ := h; rfl) | (obtain ⟨_, _, _, _, _, _, _, _, rfl, _⟩ := h; rfl) | (obtain ⟨_, _, _, _, _, _, _, _, _, rfl, _⟩ := h; rfl) | (obtain ⟨_, _, _, _, _, _, _, _, _, _, rfl, _⟩ := h; rfl) | (obtain ⟨_, _, _, _, _, _, _, _, _, _, _, rfl, _⟩ := h; rfl) | (obtain ⟨_, _, _, _, _, _, _, _, _, _, _, _, rfl, _⟩ := h; rfl) | (obtain ⟨_, _, _, _, _, _, _, _, _, _, _, _, _, rfl, _⟩ := h; rfl) | (obtain ⟨_, _, _, _, _, _, _, _, _, _, _, _, _, _, rfl, _⟩ := h; rfl)
  case run =>
    obtain ⟨v, d, l, ms, rfl, hv, hl, hsz, sm, sd, k⟩ := h
    refine ⟨_, (pss_cons (ps_if (pt_not (pt_val (pe_c C_is_number hr (by decide) (by rfl) (pa_cons (pv 0) pa_nil)))) (pss_one (ps_ret pe_bl)) pss_nil)
      (pss_cons (ps_set (i := 2) sc__is_next_mark.nd rfl (Or.inl rfl) (pe_c C_lowest hr (by decide) (by rfl) (pa_cons (pv 0) pa_nil)))
      (pss_one (ps_ret (pe_ifExp (pt_truth (pv 1) (by intro _; rfl)) (pe_c C_is_less hr (by decide) (by rfl) (pa_cons (pe_ix ix_seq (pv 1) (pe_un un_neg pe_int) (fun _ _ => rfl)) (pa_cons (pv 2) pa_nil))) (pe_cmpR op_ge (pe_ix ix_seq (pv 2) pe_int (fun _ _ => rfl)) pe_int (nomark _))))))), ?_⟩
    refine ⟨_, rfl, v, d, rfl, hv, _, rfl, ?_⟩
    cases hn : isNumD d with
    | false =>
      have z : nextD d ms = false := by unfold nextD; rw [hn]; rfl
      rw [z] at k
      exact k _ (Same.refl H)
    | true =>
      refine ⟨_, rfl, v, d, rfl, hv, hn, hsz, fun p H1 s1 np ep => ?_⟩
      have hl1 := D.same s1 hl
      obtain ⟨l', ws, el, sq, all⟩ := hl1.list
      cases el
      refine ⟨_, rfl, !ws.isEmpty, .inl ⟨ws, sq, rfl⟩, ?_⟩
      have wl : ws.length = ms.length := by rw [all.len, List.length_map]
      cases hg : ms.getLast? with
      | none =>
        have e0 : ms = [] := List.getLast?_eq_none_iff.mp hg
        subst e0
        have ew : ws = [] := List.length_eq_zero_iff.mp wl
        subst ew
        have z : nextD d [] = decide (0 ≤ (lowD d).1) := by unfold nextD; rw [hn]; rfl
        rw [z] at k
        refine ⟨_, rfl, ix_di (D_Q ep) (by decide) rfl ?_⟩
        exact ⟨_, _, rfl, rfl, k _ s1⟩
      | some m =>
        have z : nextD d ms = decide (ltQ m (lowD d)) := by unfold nextD; rw [hn, hg]; rfl
        rw [z] at k
        have hm1 : m ∈ ms := List.mem_of_getLast? hg
        have hpos : 0 < ws.length := by rw [wl]; exact List.length_pos_iff.mpr (List.ne_nil_of_mem hm1)
        have hne : ws ≠ [] := List.length_pos_iff.mp hpos
        have hb : (!ws.isEmpty) = true := by
          cases ws with
          | nil => exact absurd rfl hne
          | cons _ _ => rfl
        rw [hb]
        have em : (ms.map encQ)[ws.length - 1]? = some (encQ m) := by
          rw [wl, List.getElem?_map, ← List.getLast?_eq_getElem?, hg]
          rfl
        obtain ⟨u, eu, hu⟩ := all.get em
        have ea : atI ws (-1) = some u := by
          have hz : ws = ws.dropLast ++ [ws.getLast hne] := (List.dropLast_concat_getLast hne).symm
          have e2 : ws.getLast hne = u := by
            rw [← List.getLast?_eq_getElem?, List.getLast?_eq_getLast hne] at eu
            exact Option.some.inj eu
          rw [hz, e2]
          exact atI_last _ _
        refine ⟨_, rfl, _, rfl, .inl ⟨l, ws, -1, u, rfl, rfl, sq, ea, ?_⟩⟩
        exact ⟨_, rfl, u, .ref p, m, lowD d, rfl, hu, D_Q ep, sm m hm1, sd hn, k _ s1⟩
end
theorem small200' {q : Int × Int} (h : q.1.natAbs < 2 ^ 300) (h2 : q.2.natAbs < 2 ^ 300) : smallQ q := ⟨Nat.lt_trans h (by decide +kernel), Nat.lt_trans h2 (by decide +kernel)⟩
theorem plain_small {o : Int × Int} {n : Nat} (h : o.1.natAbs < 2 ^ 200 ∧ o.2.natAbs < 2 ^ 200) (hn : n ≤ 8) : (o.1 + ((n : Nat) : Int) * o.2).natAbs < 2 ^ 300 := by
  have h1 := h.1
  have h2 := h.2
  have : (((n : Nat) : Int) * o.2).natAbs ≤ 8 * o.2.natAbs := by
    rw [Int.natAbs_mul]
    exact Nat.mul_le_mul_right
          _ (by omega)
  omega
/-! ### the program: the class Rule -/
open StX
/-- what the head of a rule must be -/
structure VH (o : Int × Int) (ds : List PyData) : Prop where
  len : ds.length ≤ 8
  o2 : o.1.natAbs < 2 ^ 200 ∧ o.2.natAbs < 2 ^ 200
  num : ∀ d ∈ ds, isNumD d = true ∧ (∀ a b, d = encQ (a, b) → b.natAbs < 2 ^ 8000) ∧ (lowD d).1.natAbs < 2 ^ 200 ∧ (lowD d).2.natAbs < 2 ^ 200
  next : ∀ (i : Nat) (d : PyData), ds[i]? = some d → nextD d ((ds.take i).map lowD) = true
  last : ∀ m, (ds.map lowD).getLast? = some m → ltQ m (plainQ o ds.length)
theorem small200 {q : Int × Int} (h : q.1.natAbs < 2 ^ 200 ∧ q.2.natAbs < 2 ^ 200) : smallQ q := ⟨Nat.lt_trans h.1 (by decide +kernel), Nat.lt_trans h.2 (by decide +kernel)⟩
section
variable {P : Program} {w : World} {K : PySem.W.Frag} {mg : Str → Option Value} {base : Heap} {c : Addr} {TLb : List (Addr × Str)}
def sp__lowest_head (K : PySem.W.Frag) (c : Addr) : Sp := fun vs H Q _ => ∃ (v u : V) (A : List Addr) (o : Int × Int) (ds : List PyData), vs = [v, u] ∧ Hd A H ∧ Is K A H v (encQ o) ∧ Is K A H u (.tuple ds) ∧ VH o ds ∧
  ∀ t H', Same H H' → Is K A H' t (.tuple ((ds.map lowD).map encQ)) → Q t H'
theorem cal__lowest_head (B : Bl mg) (DD : OwnDef K mg "_lowest_head" s__lowest_head) (C__is_next_mark : Cal P w K mg base 3 "_is_next_mark" (sp__is_next_mark K c) []) (C_lowest : Cal P w K mg base 2 "lowest" (sp_lowest K c) []) (C_is_less : Cal P w K mg base 1 "is_less" (sp_is_less K c) []) (C__plain_mark : Cal P w K mg base 1 "_plain_mark" (sp__plain_mark K c) []) (T : Tx K mg c) : Cal P w K mg base 4 "_lowest_head" (sp__lowest_head K c) [] := by
  obtain ⟨f, fd, F, hm⟩ := DD.ex
  refine ⟨f, fd, ["offset", "head"], [], F.ok sc__lowest_head (fun vs H Q E h => ?len) (fun cdv A outer s H vs Q E hr h => ?run), hm, F.kp, F.binds (fun _ _ _ _ _ _ us hl => match us, hl with | [_, _], _ => rfl), .nil⟩
  case len => first | (obtain ⟨_, rfl, _⟩ := h; rfl) | (obtain ⟨_, _, rfl, _⟩ := h; rfl) | (obtain ⟨_, _, _, rfl, _⟩ := h; rfl) | (obtain ⟨_, _, _, _, rfl, _⟩ := h; rfl) | (obtain ⟨_, _, _, _, _, rfl, _⟩ := h; rfl) | (obtain ⟨_, _, _, _, _, _, rfl, _⟩ := h; rfl) | (obtain ⟨_, _, _, _, _, _, _, rfl, _⟩ := h; rfl) | (obtain ⟨_, _, _, _, _, _, _, _, rfl, _⟩ := h; rfl) | (obtain ⟨_, _, _, _, _, _, _, _, _, rfl, _⟩ := h; rfl) | (obtain ⟨_, _, _, _, _, _, _, _, _, _, rfl, _⟩ := h; rfl) | (obtain ⟨_, _, _, _, _, _, _, _, _, _, _, rfl, _⟩ := h; rfl) | (obtain ⟨_, _, _, _, _, _, _, _, _, _, _, _, rfl, _⟩ := h; rfl) | (obtain ⟨_, _, _, _, _, _, _, _, _, _, _, _, _, rfl, _⟩ := h; rfl) | (obtain ⟨_, _, _, _, _, _, _, _, _, _, _, _, _, _, rfl, _⟩ := h; rfl)
  case run =>
    obtain ⟨v, u, A0, o, ds, rfl, hA, hv, hu, vh, k⟩ := h
    refine ⟨_, (pss_cons (ps_if (pt_cmpR op_gt (pe_callB call_len_seq (by rfl) B.len (by decide +kernel) (pa_cons (pv 1) pa_nil)) (pe_gint (by rfl) T.g_MOST_HEAD) (nomark _)) (pss_one ps_never) pss_nil)
      (pss_cons (ps_set (i := 2) sc__lowest_head.nd rfl (Or.inl rfl) (pe_lst pa_nil))
      (pss_cons (ps_for PassesOwn.never rfl (pi_enumT (by rfl) B.enumerate (pa_cons (pv 1) pa_nil)) (pg_tup (by rfl) (pgs_cons (pg_name (i := 3) sc__lowest_head.nd rfl (Or.inl rfl)) (pgs_cons (pg_name (i := 4) sc__lowest_head.nd rfl (Or.inl rfl)) pgs_nil))) (pss_cons (ps_if (pt_not (pt_val (pe_c C__is_next_mark hr (by decide) (by rfl) (pa_cons (pv 4) (pa_cons (pv 2) pa_nil))))) (pss_one ps_never) pss_nil)
      (pss_one (ps_expr (pe_bm PySem.F.plainAttrs_list PySem.F.slot_list_append PySem.F.type_list_append mt_append (pv 2) (pa_cons (pe_c C_lowest hr (by decide) (by rfl) (pa_cons (pv 4) pa_nil)) pa_nil))))))
      (pss_cons (ps_if (PW.pt (pw_and (pt_truth (pv 2) (by intro _; rfl)) (pw_and1 (pt_not (pt_val (pe_c C_is_less hr (by decide) (by rfl) (pa_cons (pe_ix ix_seq (pv 2) (pe_un un_neg pe_int) (fun _ _ => rfl)) (pa_cons (pe_c C__plain_mark hr (by decide) (by rfl) (pa_cons (pv 0) (pa_cons (pe_callB call_len_seq (by rfl) B.len (by decide +kernel) (pa_cons (pv 2) pa_nil)) pa_nil))) pa_nil)))))))) (pss_one ps_never) pss_nil)
      (pss_one (ps_ret (pe_callTy call_tuple_of (by rfl) B.tuple (by decide +kernel) (pa_cons (pv 2) pa_nil)))))))), ?_⟩
    obtain ⟨a, ws, rfl, sq, all⟩ := is_tup hu
    have sq0 := sqT_full sq
    have wl : ws.length = ds.length := all.len
    -- if len(head) > MOST_HEAD
    refine ⟨_, rfl, a, ws, rfl, .inr sq0, _, _, rfl, rfl, _, rfl, ite2 (fun e => ?_) (fun _ => ?_)⟩
    · have e1 : (8 : Int) < ((ws.length : Nat) : Int) := of_decide_eq_true e
      have := vh.len
      omega
    -- marks = []
    refine ⟨Nat.zero_le _, fun l nl => ?_⟩
    have s1 : Same H (upd H l (.lst [])) := same_new nl
    have lA : l ∉ A0 := hA.out nl
    -- the loop
    refine ⟨_, rfl, a, ws, rfl, seqT_same s1 sq0, for_enumT (K := K) (a := a) (xs := ws) (fun i σ H2 => ∃ (x3 x4 : Option V) (ms : List V), σ = [some v, some (.ref a), some (.ref l), x3, x4] ∧ Same H H2 ∧ H2 l = some (.lst ms) ∧ Iss K (l :: A0) H2 ms (((ds.take i).map lowD).map encQ))
      ⟨none, none, [], rfl, s1, upd_same, DAll.nil⟩ (fun i σ H2 _ ⟨_, _, _, _, s2, _⟩ => seqT_same s2 sq0) ?_ ?_⟩
    · rintro i x σ H2 T0 hx ⟨x3, x4, ms, rfl, s2, el, hms⟩ nT
      obtain ⟨d, hd, hxd⟩ := all.get' hx
      have hil : i < ds.length := (List.getElem?_eq_some_iff.mp hd).1
      have hdm : d ∈ ds := List.mem_of_getElem? hd
      obtain ⟨nu, nsz, nsm⟩ := vh.num d hdm
      refine ⟨T0, _, rfl, .inl (.inl upd_same), rfl, _, _, rfl, x, [], rfl, rfl, ?_⟩
      have s3 : Same H2 (upd H2 T0 (.tup [.int (i : Nat), x])) := same_new nT
      have el3 := s3 _ _ el
      have hx3 : D K (upd H2 T0 (.tup [.int (i : Nat), x])) x d := D.same (s2.trans s3) (D.same hv_le hxd)
      have hms3 : DAll K (upd H2 T0 (.tup [.int (i : Nat), x])) ms (((ds.take i).map lowD).map encQ) := DAll.same s3 hms.full
      refine ⟨_, rfl, _, rfl, x, d, l, (ds.take i).map lowD, rfl, hx3, .lst' (.inl (.inl el3)) hms3, nsz, ?_, fun _ => small200 nsm, fun H4 s4 => ⟨_, rfl, ?_⟩⟩
      · intro m hm
        obtain ⟨d', hd', rfl⟩ := List.mem_map.mp hm
        exact small200 (vh.num d' (List.mem_of_mem_take hd')).2.2
      rw [vh.next i d hd]
      have el4 := s4 _ _ el3
      refine ⟨_, rfl, .inl ⟨rfl, _, .inl (.inl el4)⟩, _, rfl, x, d, rfl, D.same s4 hx3, nu, nsz, fun p H5 s5 np ep => ?_⟩
      have el5 := s5 _ _ el4
      have npl : p ≠ l := fun z => by rw [z, el4] at np; cases np
      have sH5 : Same H H5 := s2.trans (s3.trans (s4.trans s5))
      have npA : p ∉ A0 := fun z => by
        have h1 : H p ≠ none := hA p z
        cases q : H p with
        | none => exact h1 q
        | some u =>
          have : H4 p = some u := s4 _ _ (s3 _ _ (s2 _ _ q))
          rw [this] at np
          cases np
      have msl : ms.length < sizeLine := by
        have e1 := hms.len
        rw [List.length_map, List.length_map, List.length_take] at e1
        have := vh.len
        exact small1000 (by omega)
      refine ⟨l, ms, _, rfl, rfl, el5, msl, ?_⟩
      refine ⟨some (.int (i : Nat)), some x, ms ++ [.ref p], rfl, fun b ob e => ?_, upd_same, ?_⟩
      · rw [upd_ne (ne_of_none e nl)]
        exact sH5 _ _ e
      · have g25 : Go (l :: A0) H2 (upd H5 l (.lst (ms ++ [.ref p]))) := (Go.of (s3.trans (s4.trans s5))).trans (Go.chg (by simp))
        have e2 : ((ds.take (i + 1)).map lowD).map encQ = ((ds.take i).map lowD).map encQ ++ [encQ (lowD d)] := by
          rw [List.take_add_one, hd]
          simp
        rw [e2]
        refine iss_app (Iss.mono g25 hms) (DAll.cons (Is_Q ?_ ?_) DAll.nil)
        · simp [npl, npA]
        · rw [upd_ne npl]
          exact ep
    · rintro σ H2 ⟨x3, x4, ms, rfl, s2, el, hms⟩
      rw [wl, List.take_length] at hms
      have ml : ms.length = ds.length := by rw [hms.len, List.length_map, List.length_map]
      -- what follows the if
      have fin : ∀ H3, Same H2 H3 → ∀ p, H3 p = none → Q (.ref p) (upd H3 p (.tup ms)) := fun H3 s3 p np => by
        have hd3 : Hd A0 H3 := (Go.of (s2.trans s3)).held hA
        refine k _ _ ((s2.trans s3).trans (same_new np)) ?_
        refine is_new_tup hd3 np (Iss.mono (Go.of s3) (Iss.less hms))
      refine ⟨_, rfl, !ms.isEmpty, .inl ⟨ms, .inl (.inl el), rfl⟩, ?_⟩
      cases hg : (ds.map lowD).getLast? with
      | none =>
        have e0 : ds = [] := by
          have := List.getLast?_eq_none_iff.mp hg
          exact List.map_eq_nil_iff.mp this
        have em : ms = [] := List.length_eq_zero_iff.mp (by rw [ml, e0]; rfl)
        subst em
        exact ⟨_, rfl, l, [], rfl, .inl ⟨.inl (.inl el), fun p np => fin H2 (Same.refl _) p np⟩⟩
      | some m =>
        have hpos : 0 < ms.length := by
          rw [ml]
          cases ds with
          | nil => simp at hg
          | cons _ _ => simp
        have hne : ms ≠ [] := List.length_pos_iff.mp hpos
        have hb : (!ms.isEmpty) = true := by
          cases ms with
          | nil => exact absurd rfl hne
          | cons _ _ => rfl
        rw [hb]
        have em : ((ds.map lowD).map encQ)[ms.length - 1]? = some (encQ m) := by
          have z : ms.length = (ds.map lowD).length := by rw [ml, List.length_map]
          rw [z, List.getElem?_map, ← List.getLast?_eq_getElem?, hg]
          rfl
        obtain ⟨y, ey, hy⟩ := iss_get hms em
        have ea : atI ms (-1) = some y := by
          have hz : ms = ms.dropLast ++ [ms.getLast hne] := (List.dropLast_concat_getLast hne).symm
          have e2 : ms.getLast hne = y := by
            rw [← List.getLast?_eq_getElem?, List.getLast?_eq_getLast hne] at ey
            exact Option.some.inj ey
          rw [hz, e2]
          exact atI_last _ _
        have hmm : m ∈ ds.map lowD := List.mem_of_getLast? hg
        obtain ⟨dm, hdm, rfl⟩ := List.mem_map.mp hmm
        have hlast := vh.last _ hg
        refine ⟨_, rfl, _, rfl, .inl ⟨l, ms, -1, y, rfl, rfl, .inl (.inl el), ea, ?_⟩⟩
        refine ⟨_, rfl, _, rfl, l, ms, rfl, .inl (.inl (.inl el)), v, o, ((ms.length : Nat) : Int), rfl, D.same s2 hv.full, ?_, Nat.lt_trans vh.o2.2 (by decide +kernel), fun p np => ?_⟩
        · have := vh.len
          exact Nat.lt_of_le_of_lt (show (((ms.length : Nat) : Int)).natAbs ≤ 8 by omega) (by decide +kernel)
        refine ⟨y, .ref p, lowD dm, plainQ o ((ms.length : Nat) : Int), rfl, D.same (same_new np) hy.full, D_Q upd_same, small200 (vh.num dm hdm).2.2, ?_, ?_⟩
        · have h1 := vh.o2
          have h2 := vh.len
          refine small200' ?_ ?_
          · show (o.1 + ((ms.length : Nat) : Int) * o.2).natAbs < 2 ^ 300
            have := plain_small (o := o) (n := ms.length) h1 (by omega)
            exact this
          · exact Nat.lt_trans h1.2 (by decide +kernel)
        rw [ml]
        rw [show decide (ltQ (lowD dm) (plainQ o ((ds.length : Nat) : Int))) = true from decide_eq_true hlast]
        refine ⟨_, rfl, ?_⟩
        exact ⟨_, rfl, l, ms, rfl, .inl ⟨.inl (.inl ((same_new np) _ _ el)), fun p' np' => fin _ (same_new np) p' np'⟩⟩
def markQ (o : Int × Int) (hd : List (Int × Int)) (n : Int) : Int × Int := if n < ((hd.length : Nat) : Int) then hd.getD n.toNat (0, 1) else plainQ o n
def sp_Rule_mark (K : PySem.W.Frag) (c : Addr) : Sp := fun vs H Q _ => ∃ (r dx : Addr) (fs : List (Str × V)) (v0 v1 : V) (A : List Addr) (o : Int × Int) (hd : List (Int × Int)) (n : Int), vs = [.ref r, .int n] ∧
  H r = some (.ins c dx fs) ∧ fs.lookup ("offset" : Str) = some v0 ∧ fs.lookup ("head" : Str) = some v1 ∧ Hd A H ∧ Is K A H v0 (encQ o) ∧ Is K A H v1 (.tuple (hd.map encQ)) ∧ 0 ≤ n ∧ n.natAbs < 2 ^ 8000 ∧ o.2.natAbs < 2 ^ 8000 ∧
  ∀ v H', Same H H' → Is K A H' v (encQ (markQ o hd n)) → Q v H'
theorem met_Rule_mark {f : Addr} {fd : FuncData} (B : Bl mg) (T : Tx K mg c) (F : Fun K "mark" "Rule.mark" s_Rule_mark f fd) (me : Meth K c "mark" f) (C__plain_mark : Cal P w K mg base 1 "_plain_mark" (sp__plain_mark K c) []) (C_is_count : Cal P w K mg base 2 "is_count" (sp_is_count K c) [])  : Met P w K mg base 3 c "mark" (sp_Rule_mark K c) ∧ FnOk P w K mg base CX0 3 f fd ["self", "number"] (sp_Rule_mark K c) := by
  refine (fun Ok => ⟨⟨f, fd, ["self", "number"], T.cl, me, Ok, F.binds (fun _ _ _ _ _ _ us hl => match us, hl with | [_, _], _ => rfl)⟩, Ok⟩) (F.ok sc_Rule_mark (fun vs H Q E h => ?len) (fun cdv A outer s H vs Q E hr h => ?run))
  case len => first | (obtain ⟨_, rfl, _⟩ := h; rfl) | (obtain ⟨_, _, rfl, _⟩ := h; rfl) | (obtain ⟨_, _, _, rfl, _⟩ := h; rfl) | (obtain ⟨_, _, _, _, rfl, _⟩ := h; rfl) | (obtain ⟨_, _, _, _, _, rfl, _⟩ := h; rfl) | (obtain ⟨_, _, _, _, _, _, rfl, _⟩ := h; rfl) | (obtain ⟨_, _, _, _, _, _, _, rfl, _⟩ := h; rfl) | (obtain ⟨_, _, _, _, _, _, _, _, rfl, _⟩ := h; rfl) | (obtain ⟨_, _, _, _, _, _, _, _, _, rfl, _⟩ := h; rfl) | (obtain ⟨_, _, _, _, _, _, _, _, _, _, rfl, _⟩ := h; rfl) | (obtain ⟨_, _, _, _, _, _, _, _, _, _, _, rfl, _⟩ := h; rfl) | (obtain ⟨_, _, _, _, _, _, _, _, _, _, _, _, rfl, _⟩ := h; rfl) | (obtain ⟨_, _, _, _, _, _, _, _, _, _, _, _, _, rfl, _⟩ := h; rfl) | (obtain ⟨_, _, _, _, _, _, _, _, _, _, _, _, _, _, rfl, _⟩ := h; rfl)
  case run =>
    obtain ⟨r, dx, fs, v0, v1, A0, o, hd, n, rfl, er, l0, l1, hA, h0, h1, n0, nz, oz, k⟩ := h
    refine ⟨_, (pss_cons (ps_if (pt_not (pt_val (pe_c C_is_count hr (by decide) (by rfl) (pa_cons (pv 1) pa_nil)))) (pss_one ps_never) pss_nil)
      (pss_cons (ps_if (pt_cmpR op_lt (pv 1) (pe_callB call_len_seq (by rfl) B.len (by decide +kernel) (pa_cons (pe_fld (pv 0) rfl) pa_nil)) (nomark _)) (pss_one (ps_ret (pe_ix ix_seq (pe_fld (pv 0) rfl) (pv 1) (fun _ _ => rfl)))) pss_nil)
      (pss_one (ps_ret (pe_c C__plain_mark hr (by decide) (by rfl) (pa_cons (pe_fld (pv 0) rfl) (pa_cons (pv 1) pa_nil))))))), ?_⟩
    have hc : isCountD (.int n) = true := decide_eq_true (show n ≥ 0 from n0)
    refine ⟨_, rfl, .int n, .int n, rfl, .int n, _, rfl, ?_⟩
    rw [hc]
    obtain ⟨a, ws, rfl, sq, all⟩ := is_tup h1
    have wl : ws.length = hd.length := by rw [all.len, List.length_map]
    refine ⟨_, rfl, _, rfl, r, c, dx, fs, _, rfl, er, T.cl, T.nH, l1, a, ws, rfl, .inr (sqT_full sq), _, _, rfl, rfl, _, rfl, ite2 (fun e => ?_) (fun e => ?_)⟩
    · have e1 : n < ((ws.length : Nat) : Int) := of_decide_eq_true e
      have hi : n.toNat < hd.length := by omega
      have z : markQ o hd n = hd[n.toNat] := by
        unfold markQ
        rw [if_pos (by omega)]
        simp [List.getD, hi]
      rw [z] at k
      refine ⟨_, rfl, r, c, dx, fs, _, rfl, er, T.cl, T.nH, l1, _, rfl, ?_⟩
      exact rd_tup h1 n0 (d := encQ hd[n.toNat]) (by rw [List.getElem?_map, List.getElem?_eq_getElem hi]; rfl) fun u hu => k u H (Same.refl H) hu
    · have e1 : ¬ n < ((ws.length : Nat) : Int) := fun z => e (decide_eq_true z)
      have z : markQ o hd n = plainQ o n := by
        unfold markQ
        rw [if_neg (by omega)]
      rw [z] at k
      refine ⟨_, rfl, r, c, dx, fs, _, rfl, er, T.cl, T.nO, l0, _, rfl, v0, o, n, rfl, h0.full, nz, oz, fun p np => ?_⟩
      exact k _ _ (same_new np) (Is_Q (hA.out np) upd_same)
end
/-! ### the program: the unit of a rule -/
theorem dall_cons {K : PySem.W.Frag} {H : Hp} {vs : List V} {d : PyData} {ds : List PyData} (h : DAll K H vs (d :: ds)) : ∃ v ws, vs = v :: ws ∧ D K H v d ∧ DAll K H ws ds := by
  obtain ⟨v, ws, e, h1, h2⟩ := iss_cons (A := []) h.is
  exact ⟨v, ws, e, h1.full, h2.full⟩
theorem lowD_pos {d : PyData} (h : isNumD d = true) : 0 < (lowD d).2 := by
  have key : ∀ a b : Int, 0 < b → 0 < (lowQ a b).2 := fun a b hb => by
    have g0 : 0 < Nat.gcd a.natAbs b.natAbs := Nat.gcd_pos_of_pos_right _ (by omega)
    have g1 : Nat.gcd a.natAbs b.natAbs ≤ b.natAbs := Nat.gcd_le_right _ (by omega)
    show 0 < b / ((Nat.gcd a.natAbs b.natAbs : Nat) : Int)
    exact Int.ediv_pos_of_pos_of_dvd hb (by omega) (Int.natAbs_dvd_natAbs.mp (by rw [Int.natAbs_natCast]; exact Nat.gcd_dvd_right _ _))
  match d, h with
  | .int i, _ => exact Int.one_pos
  | .tuple [.int a, .int b], h => exact key a b (by have := of_decide_eq_true (show decide (b ≥ 1) = true from h); omega)
/-- the least number of which all bottoms are divisors -/
def lcmN (ps : List (Int × Int)) : Nat := ps.foldl (fun a q => Nat.lcm a q.2.natAbs) 1
theorem lcmN_app (ps : List (Int × Int)) (q : Int × Int) : lcmN (ps ++ [q]) = Nat.lcm (lcmN ps) q.2.natAbs := by
  unfold lcmN
  rw [List.foldl_append]
  rfl
theorem lcmN_lt : ∀ (n : Nat) (ps : List (Int × Int)), ps.length = n → (∀ q ∈ ps, q.2.natAbs < 2 ^ 200) → lcmN ps < 2 ^ (200 * n + 1)
  | 0, ps, e, _ => by
    obtain rfl := List.length_eq_zero_iff.mp e
    show (1 : Nat) < 2 ^ (200 * 0 + 1)
    decide
  | n + 1, ps, e, h => by
    have ne : ps ≠ [] := fun z => by rw [z] at e; simp at e
    have z : ps = ps.dropLast ++ [ps.getLast ne] := (List.dropLast_concat_getLast ne).symm
    have ih := lcmN_lt n ps.dropLast (by rw [List.length_dropLast, e]; rfl) fun q hq => h q ((List.dropLast_prefix _).subset hq)
    have hl := h _ (List.getLast_mem ne)
    rw [z, lcmN_app]
    refine Nat.lt_of_le_of_lt (lcm_le _ _) (Nat.lt_of_lt_of_le (Nat.mul_lt_mul'' ih hl) ?_)
    rw [← Nat.pow_add]
    exact Nat.pow_le_pow_right (by
          decide) (by omega)
theorem lcmN_pos : ∀ (n : Nat) (ps : List (Int × Int)), ps.length = n → (∀ q ∈ ps, 0 < q.2) → 0 < lcmN ps
  | 0, ps, e, _ => by
    obtain rfl := List.length_eq_zero_iff.mp e
    exact Nat.one_pos
  | n + 1, ps, e, h => by
    have ne : ps ≠ [] := fun z => by rw [z] at e; simp at e
    have z : ps = ps.dropLast ++ [ps.getLast ne] := (List.dropLast_concat_getLast ne).symm
    have ih := lcmN_pos n ps.dropLast (by rw [List.length_dropLast, e]; rfl) fun q hq => h q ((List.dropLast_prefix _).subset hq)
    have hl := h _ (List.getLast_mem ne)
    rw [z, lcmN_app]
    exact Nat.lcm_pos ih (by omega)
theorem lcmN_dvd : ∀ (n : Nat) (ps : List (Int × Int)), ps.length = n → ∀ q ∈ ps, q.2.natAbs ∣ lcmN ps
  | 0, ps, e, q, hq => by
    obtain rfl := List.length_eq_zero_iff.mp e
    cases hq
  | n + 1, ps, e, q, hq => by
    have ne : ps ≠ [] := fun z => by rw [z] at e; simp at e
    have z : ps = ps.dropLast ++ [ps.getLast ne] := (List.dropLast_concat_getLast ne).symm
    have ih := lcmN_dvd n ps.dropLast (by rw [List.length_dropLast, e]; rfl) q
    rw [z] at hq ⊢
    rw [lcmN_app]
    rcases List.mem_append.mp hq
          with hq | hq
    · exact Nat.dvd_trans (ih hq) (Nat.dvd_lcm_left _ _)
    · rw [List.mem_singleton.mp
          hq]
      exact Nat.dvd_lcm_right _ _
theorem lcmN_8000 {ps : List (Int × Int)} (l : ps.length ≤ 16) (h : ∀ q ∈ ps, q.2.natAbs < 2 ^ 200) : lcmN ps < 2 ^ 3201 :=
  Nat.lt_of_lt_of_le (lcmN_lt _ ps rfl h) (Nat.pow_le_pow_right (by decide) (by omega))
section
variable {P : Program} {w : World} {K : PySem.W.Frag} {mg : Str → Option Value} {base : Heap} {c : Addr} {TLb : List (Addr × Str)}
def sp_common_bottom (K : PySem.W.Frag) (c : Addr) : Sp := fun vs H Q _ => ∃ (l : Addr) (A : List Addr) (ps : List (Int × Int)), vs = [.ref l] ∧ Is K A H (.ref l) (.list (ps.map encQ)) ∧ ps.length ≤ 16 ∧ (∀ q ∈ ps, q.2.natAbs < 2 ^ 200) ∧
  Q (.int ((lcmN ps : Nat) : Int)) H
theorem cal_common_bottom (B : Bl mg) (DD : OwnDef K mg "common_bottom" s_common_bottom)  (T : Tx K mg c) : Cal P w K mg base 1 "common_bottom" (sp_common_bottom K c) [] := by
  obtain ⟨f, fd, F, hm⟩ := DD.ex
  refine ⟨f, fd, ["pairs"], [], F.ok sc_common_bottom (fun vs H Q E h => ?len) (fun cdv A outer s H vs Q E hr h => ?run), hm, F.kp, F.binds (fun _ _ _ _ _ _ us hl => match us, hl with | [_], _ => rfl), .nil⟩
  case len => first | (obtain ⟨_, rfl, _⟩ := h; rfl) | (obtain ⟨_, _, rfl, _⟩ := h; rfl) | (obtain ⟨_, _, _, rfl, _⟩ := h; rfl) | (obtain ⟨_, _, _, _, rfl, _⟩ := h; rfl) | (obtain ⟨_, _, _, _, _, rfl, _⟩ := h; rfl) | (obtain ⟨_, _, _, _, _, _, rfl, _⟩ := h; rfl) | (obtain ⟨_, _, _, _, _, _, _, rfl, _⟩ := h; rfl) | (obtain ⟨_, _, _, _, _, _, _, _, rfl, _⟩ := h; rfl) | (obtain ⟨_, _, _, _, _, _, _, _, _, rfl, _⟩ := h; rfl) | (obtain ⟨_, _, _, _, _, _, _, _, _, _, rfl, _⟩ := h; rfl) | (obtain ⟨_, _, _, _, _, _, _, _, _, _, _, rfl, _⟩ := h; rfl) | (obtain ⟨_, _, _, _, _, _, _, _, _, _, _, _, rfl, _⟩ := h; rfl) | (obtain ⟨_, _, _, _, _, _, _, _, _, _, _, _, _, rfl, _⟩ := h; rfl) | (obtain ⟨_, _, _, _, _, _, _, _, _, _, _, _, _, _, rfl, _⟩ := h; rfl)
  case run =>
    obtain ⟨l, A0, ps, rfl, hl, ln, sz, k⟩ := h
    refine ⟨_, (pss_cons (ps_set (i := 1) sc_common_bottom.nd rfl (Or.inl rfl) pe_int)
      (pss_cons (ps_for PassesOwn.never rfl (pi_list (pv 0)) (pg_tup (by rfl) (pgs_cons (pg_name (i := 2) sc_common_bottom.nd rfl (Or.inl rfl)) (pgs_cons (pg_name (i := 3) sc_common_bottom.nd rfl (Or.inl rfl)) pgs_nil))) (pss_one (ps_set (i := 1) sc_common_bottom.nd rfl (Or.inl rfl) (pe_callBfun cr_lcm (by rfl) T.g_lcm (pa_cons (pv 1) (pa_cons (pv 3) pa_nil))))))
      (pss_one (ps_ret (pv 1))))), ?_⟩
    obtain ⟨a, ws, e, sq, all⟩ := hl.full.list
    cases e
    have wl : ws.length = ps.length := by rw [all.len, List.length_map]
    refine ⟨_, rfl, _, rfl, ⟨_, sq⟩, ?_⟩
    refine for_list (K := K) (a := l) (xs := ws) (fun i σ H2 => H2 = H ∧ ∃ (x2 x3 : Option V), σ = [some (.ref l), some (.int ((lcmN (ps.take i) : Nat) : Int)), x2, x3])
      ⟨rfl, none, none, rfl⟩ (fun i σ H2 _ ⟨e, _⟩ => by rw [e]; exact sq) ?_ ?_
    · rintro i x σ H2 hx ⟨rfl, x2, x3, rfl⟩
      obtain ⟨d, hd, hxd⟩ := all.get' hx
      obtain ⟨q, hq, rfl⟩ := some_map hd
      have qm : q ∈ ps := List.mem_of_getElem? hq
      obtain ⟨b8, us8, rfl, sq8, all8⟩ := hxd.tuple
      obtain ⟨u1, us1, rfl, hu1, all8⟩ := dall_cons all8
      obtain ⟨u2, us2, rfl, hu2, all8⟩ := dall_cons all8
      obtain rfl : us2 = [] := List.length_eq_zero_iff.mp all8.len
      obtain rfl := hu1.int_eq
      obtain rfl := hu2.int_eq
      refine ⟨b8, _, rfl, sq8, rfl, _, _, rfl, _, [], rfl, rfl, ?_⟩
      have z1 : (((lcmN (ps.take i) : Nat) : Int)).natAbs < 2 ^ 8000 := by
        rw [Int.natAbs_natCast]
        exact Nat.lt_trans (lcmN_8000 (by rw [List.length_take]; omega) fun q hq => sz q (List.mem_of_mem_take hq)) (by decide +kernel)
      have z2 : q.2.natAbs < 2 ^ 8000 := Nat.lt_trans (sz q qm) (by decide +kernel)
      refine ⟨_, rfl, _, rfl, _, _, rfl, z1, z2, rfl, some (.int q.1), some (.int q.2), ?_⟩
      rw [List.take_add_one, hq, Option.toList, lcmN_app, Int.natAbs_natCast]
      rfl
    · rintro σ H2 ⟨rfl, x2, x3, rfl⟩
      rw [wl, List.take_length]
      exact ⟨_, rfl, k⟩
end
/-! ### the program: a rule is made -/
section
variable {P : Program} {w : World} {K : PySem.W.Frag} {mg : Str → Option Value} {base : Heap} {c : Addr} {TLb : List (Addr × Str)}
/-- the fields of a rule -/
abbrev rFs (v0 v1 : V) (u : Int) (v3 : V) (x : Int) (v2 : V) : List (Str × V) := [("offset", v0), ("head", v1), ("unit", .int u), ("_whole_head", v3), ("whole_offset", .int x), ("_start", v2)]
/-- its unit -/
def unitQ (o : Int × Int) (hd : List (Int × Int)) : Int := ((lcmN (o :: hd) : Nat) : Int)
/-- a number times the unit -/
def timesQ (u : Int) (q : Int × Int) : Int := q.1 * (u / q.2)
/-- a rule stands at r -/
structure RuleAt (K : PySem.W.Frag) (c : Addr) (A : List Addr) (H : Hp) (r : Addr) (o : Int × Int) (hd : List (Int × Int)) : Prop where
  ex : ∃ (dx : Addr) (v0 v1 v2 v3 : V), H r = some (.ins c dx (rFs v0 v1 (unitQ o hd) v3 (timesQ (unitQ o hd) o) v2)) ∧ Is K A H v0 (encQ o) ∧ Is K A H v1 (.tuple (hd.map encQ)) ∧
    Is K A H v2 (.tuple ((List.range 8).map fun i => encQ (markQ o hd ((i : Nat) : Int)))) ∧ Is K A H v3 (.list (hd.map fun q => .int (timesQ (unitQ o hd) q)))
theorem RuleAt.same {A : List Addr} {H H' : Hp} {r : Addr} {o : Int × Int} {hd : List (Int × Int)} (R : RuleAt K c A H r o hd) (s : Same H H') : RuleAt K c A H' r o hd := by
  obtain ⟨dx, v0, v1, v2, v3, e, h0, h1, h2, h3⟩ := R.ex
  exact ⟨dx, v0, v1, v2, v3, s _ _ e, Is.mono (Go.of s) h0, Is.mono (Go.of s) h1, Is.mono (Go.of s) h2, Is.mono (Go.of s) h3⟩
theorem RuleAt.go {A : List Addr} {H H' : Hp} {r : Addr} {o : Int × Int} {hd : List (Int × Int)} (R : RuleAt K c A H r o hd) (hr : r ∉ A) (s : Go A H H') : RuleAt K c A H' r o hd := by
  obtain ⟨dx, v0, v1, v2, v3, e, h0, h1, h2, h3⟩ := R.ex
  exact ⟨dx, v0, v1, v2, v3, s.keep _ _ hr e, Is.mono s h0, Is.mono s h1, Is.mono s h2, Is.mono s h3⟩
theorem put1 (v0 : V) : putF "offset" v0 [] = ([("offset", v0)] : List (Str × V)) := rfl
theorem kOH : ¬ (("offset" : Str) = "head") := by decide +kernel
theorem kOU : ¬ (("offset" : Str) = "unit") := by decide +kernel
theorem kOW : ¬ (("offset" : Str) = "_whole_head") := by decide +kernel
theorem kOX : ¬ (("offset" : Str) = "whole_offset") := by decide +kernel
theorem kOS : ¬ (("offset" : Str) = "_start") := by decide +kernel
theorem kHU : ¬ (("head" : Str) = "unit") := by decide +kernel
theorem kHW : ¬ (("head" : Str) = "_whole_head") := by decide +kernel
theorem kHX : ¬ (("head" : Str) = "whole_offset") := by decide +kernel
theorem kHS : ¬ (("head" : Str) = "_start") := by decide +kernel
theorem kUW : ¬ (("unit" : Str) = "_whole_head") := by decide +kernel
theorem kUX : ¬ (("unit" : Str) = "whole_offset") := by decide +kernel
theorem kUS : ¬ (("unit" : Str) = "_start") := by decide +kernel
theorem kWX : ¬ (("_whole_head" : Str) = "whole_offset") := by decide +kernel
theorem kWS : ¬ (("_whole_head" : Str) = "_start") := by decide +kernel
theorem kXS : ¬ (("whole_offset" : Str) = "_start") := by decide +kernel
theorem kOM : ¬ (("mark" : Str) = "offset") := by decide +kernel
theorem kHM : ¬ (("mark" : Str) = "head") := by decide +kernel
theorem kUM : ¬ (("mark" : Str) = "unit") := by decide +kernel
theorem kWM : ¬ (("mark" : Str) = "_whole_head") := by decide +kernel
theorem kXM : ¬ (("mark" : Str) = "whole_offset") := by decide +kernel
theorem put_cons {f g : Str} {v u : V} {r : List (Str × V)} (h : ¬ (f = g)) : putF g v ((f, u) :: r) = (f, u) :: putF g v r := by
  show (if f = g then _ else _) = _
  rw [if_neg h]
theorem put2 (v0 v1 : V) : putF "head" v1 ([("offset", v0)] : List (Str × V)) = ([("offset", v0), ("head", v1)] : List (Str × V)) := by
  rw [put_cons kOH]
  rfl
theorem put3 (v0 v1 v2 : V) : putF "unit" v2 ([("offset", v0), ("head", v1)] : List (Str × V)) = ([("offset", v0), ("head", v1), ("unit", v2)] : List (Str × V)) := by
  rw [put_cons kOU, put_cons kHU]
  rfl
theorem put4 (v0 v1 v2 v3 : V) : putF "_whole_head" v3 ([("offset", v0), ("head", v1), ("unit", v2)] : List (Str × V)) = ([("offset", v0), ("head", v1), ("unit", v2), ("_whole_head", v3)] : List (Str × V)) := by
  rw [put_cons kOW, put_cons kHW, put_cons kUW]
  rfl
theorem put5 (v0 v1 v2 v3 v4 : V) : putF "whole_offset" v4 ([("offset", v0), ("head", v1), ("unit", v2), ("_whole_head", v3)] : List (Str × V)) = ([("offset", v0), ("head", v1), ("unit", v2), ("_whole_head", v3), ("whole_offset", v4)] : List (Str × V)) := by
  rw [put_cons kOX, put_cons kHX, put_cons kUX, put_cons kWX]
  rfl
theorem put6 (v0 v1 v2 v3 v4 v5 : V) : putF "_start" v5 ([("offset", v0), ("head", v1), ("unit", v2), ("_whole_head", v3), ("whole_offset", v4)] : List (Str × V)) = ([("offset", v0), ("head", v1), ("unit", v2), ("_whole_head", v3), ("whole_offset", v4), ("_start", v5)] : List (Str × V)) := by
  rw [put_cons kOS, put_cons kHS, put_cons kUS, put_cons kWS, put_cons kXS]
  rfl
theorem lk_cons {f g : Str} {v : V} {r : List (Str × V)} : ((g, v) :: r).lookup f = if f = g then some v else r.lookup f := by
  by_cases h : f = g
  · subst h; simp
  · rw [if_neg h]
    have : (f == g) = false := by simpa using h
    simp [List.lookup, this]
theorem lkO (v0 : V) (r : List (Str × V)) : ((("offset" : Str), v0) :: r).lookup ("offset" : Str) = some v0 := by
  rw [lk_cons, if_pos rfl]
theorem lkH (v0 v1 : V) (r : List (Str × V)) : ((("offset" : Str), v0) :: (("head" : Str), v1) :: r).lookup ("head" : Str) = some v1 := by
  rw [lk_cons, if_neg (fun z => kOH z.symm), lk_cons, if_pos rfl]
theorem lkU (v0 v1 v2 : V) (r : List (Str × V)) : ((("offset" : Str), v0) :: (("head" : Str), v1) :: (("unit" : Str), v2) :: r).lookup ("unit" : Str) = some v2 := by
  rw [lk_cons, if_neg (fun z => kOU z.symm), lk_cons, if_neg (fun z => kHU z.symm), lk_cons, if_pos rfl]
theorem lkW (v0 v1 v2 v3 : V) (r : List (Str × V)) : ((("offset" : Str), v0) :: (("head" : Str), v1) :: (("unit" : Str), v2) :: (("_whole_head" : Str), v3) :: r).lookup ("_whole_head" : Str) = some v3 := by
  rw [lk_cons, if_neg (fun z => kOW z.symm), lk_cons, if_neg (fun z => kHW z.symm), lk_cons, if_neg (fun z => kUW z.symm), lk_cons, if_pos rfl]
theorem lkX (v0 v1 v2 v3 v4 : V) (r : List (Str × V)) : ((("offset" : Str), v0) :: (("head" : Str), v1) :: (("unit" : Str), v2) :: (("_whole_head" : Str), v3) :: (("whole_offset" : Str), v4) :: r).lookup ("whole_offset" : Str) = some v4 := by
  rw [lk_cons, if_neg (fun z => kOX z.symm), lk_cons, if_neg (fun z => kHX z.symm), lk_cons, if_neg (fun z => kUX z.symm), lk_cons, if_neg (fun z => kWX z.symm), lk_cons, if_pos rfl]
/-- Rule.__init__(self, offset, *head), at good ones -/
def sp_Rule_init (K : PySem.W.Frag) (c : Addr) : Sp := fun vs H Q _ => ∃ (r dx : Addr) (v : V) (t : Addr) (A : List Addr) (d : PyData) (ds : List PyData), vs = [.ref r, v, .ref t] ∧ H r = some (.ins c dx []) ∧ r ∉ A ∧ Hd A H ∧ Is K (r :: A) H v d ∧
  Is K (r :: A) H (.ref t) (.tuple ds) ∧ isOffD d = true ∧ (∀ a b, d = encQ (a, b) → b.natAbs < 2 ^ 8000) ∧ VH (lowD d) ds ∧
  ∀ H', (∀ b o, b ≠ r → H b = some o → H' b = some o) → RuleAt K c A H' r (lowD d) (ds.map lowD) → Q .non H'
theorem rd_Rule_init {f : Addr} {cdv : Value} {Ar : Around} {outer : List Env} {s : Shared} {H : Hp} {vs : List V} {Q : VK} {E : XK} (B : Bl mg) (T : Tx K mg c)
    (C__is_offset : Cal P w K mg base 3 "_is_offset" (sp__is_offset K c) []) (C_lowest : Cal P w K mg base 2 "lowest" (sp_lowest K c) [])
    (C__lowest_head : Cal P w K mg base 4 "_lowest_head" (sp__lowest_head K c) []) (C_common_bottom : Cal P w K mg base 1 "common_bottom" (sp_common_bottom K c) []) (M_mark : Met P w K mg base 3 c "mark" (sp_Rule_mark K c))
    (hr : Room 6 (Ar.deeper (envOfC "Rule.__init__" (defScope s_Rule___init__) s.heap.objs.size f cdv))) (h : sp_Rule_init K c vs H Q E) :
    ∃ t, PSs (cxOf CX0 P w K mg base ["self", "offset", "head", "top", "bottom", "number"] "Rule.__init__" (defScope s_Rule___init__) f cdv Ar outer s H E).nox (defBody s_Rule___init__) t ∧
      t { nx := fun _ H' => Q .non H', rt := Q } (start ["self", "offset", "head", "top", "bottom", "number"] vs) H := by
  obtain ⟨r, dx, v, t, A, d, ds, rfl, er, rA, hA, hv, ht, ho, hsz, vh, k⟩ := h
  refine ⟨_, (pss_cons (ps_if (pt_not (pt_val (pe_c C__is_offset hr (by decide) (by rfl) (pa_cons (pv 1) pa_nil)))) (pss_one ps_never) pss_nil)
      (pss_cons (ps_fld (pv 0) (pe_c C_lowest hr (by decide) (by rfl) (pa_cons (pv 1) pa_nil)) rfl)
      (pss_cons (ps_fld (pv 0) (pe_c C__lowest_head hr (by decide) (by rfl) (pa_cons (pe_fld (pv 0) rfl) (pa_cons (pv 2) pa_nil))) rfl)
      (pss_cons (ps_fld (pv 0) (pe_c C_common_bottom hr (by decide) (by rfl) (pa_cons (pe_lst (pa_cons (pe_fld (pv 0) rfl) (pa_star (pe_fld (pv 0) rfl) pa_nil))) pa_nil)) rfl)
      (pss_cons (ps_fld (pv 0) (pe_lc (own := [("top", 3), ("bottom", 4)]) (by rfl) sc_Rule___init__.nd (pi_tup (pe_fld (pv 0) rfl)) (blkOk_by (own := [("top", 3), ("bottom", 4)]) (N := ["self", "offset", "head", "top", "bottom", "number"]) (sc := defScope s_Rule___init__) (by decide +kernel)) (fun _ _ _ _ _ => (show PG _ _ (gTup K 2 (gCons (gName 3) (gCons (gName 4) gNil))) from (pg_tup (by rfl) (pgs_cons (pg_name (i := 3) sc_Rule___init__.nd rfl (Or.inl rfl)) (pgs_cons (pg_name (i := 4) sc_Rule___init__.nd rfl (Or.inl rfl)) pgs_nil))))) (fun _ _ _ _ _ => pts_nil) (fun _ _ _ _ _ => (pe_op op_mulW (pv 3) (pe_op op_fdivW (show PE _ _ (tFld K (tVar 0) "unit") from pe_fld (pv 0) rfl) (pv 4))))) rfl)
      (pss_cons (ps_fld (pv 0) (pe_op op_mulW (pe_ix ix_seq (pe_fld (pv 0) rfl) pe_int (fun _ _ => rfl)) (pe_op op_fdivW (pe_fld (pv 0) rfl) (pe_ix ix_seq (pe_fld (pv 0) rfl) pe_int (fun _ _ => rfl)))) rfl)
      (pss_one (ps_fld (pv 0) (pe_callTy call_tuple_of (by rfl) B.tuple (by decide +kernel) (pa_cons (pe_lc (own := [("number", 5)]) (by rfl) sc_Rule___init__.nd (pi_range1 (by rfl) B.range (pa_cons (pe_gint (by rfl) T.g_MOST_HEAD) pa_nil)) (blkOk_by (own := [("number", 5)]) (N := ["self", "offset", "head", "top", "bottom", "number"]) (sc := defScope s_Rule___init__) (by decide +kernel)) (fun _ _ _ _ _ => (pg_name (i := 5) sc_Rule___init__.nd rfl (Or.inl rfl))) (fun _ _ _ _ _ => pts_nil) (fun _ _ _ _ _ => (pe_mt M_mark hr (by decide) (pv 0) (pa_cons (pv 5) pa_nil)))) pa_nil)) rfl)))))))), ?_⟩
  have hn : isNumD d = true := by
    unfold isOffD at ho
    rw [Bool.and_eq_true] at ho
    exact ho.1
  refine ⟨_, rfl, v, d, rfl, hv.full, hsz, fun H1 s1 => ⟨_, rfl, ?_⟩⟩
  rw [ho]
  refine ⟨_, rfl, v, d, rfl, D.same s1 hv.full, hn, hsz, fun p H2 s2 np ep => ?_⟩
  have s02 := s1.trans s2
  have er2 := s02 _ _ er
  have npr : p ≠ r := fun z => by rw [z, s1 _ _ er] at np; cases np
  refine ⟨_, rfl, r, c, dx, _, rfl, er2, T.cl, T.nO, (by show 0 < 1000; decide), ?_⟩
  rw [put1]
  -- self.head = _lowest_head(self.offset, head)
  have hA0 : Hd (r :: A) H := Hd.cons er hA
  have hA2 : Hd (r :: A) H2 := (Go.of s02).held hA0
  have pA : p ∉ A := fun z => by
    cases q : H p with
    | none => exact hA p z q
    | some u => rw [s1 _ _ q] at np; cases np
  have g3 : Go (r :: A) H2 (upd H2 r (.ins c dx [("offset", .ref p)])) := Go.chg (by simp)
  have hA3 := g3.held hA2
  have hp3 : Is K (r :: A) (upd H2 r (.ins c dx [("offset", .ref p)])) (.ref p) (encQ (lowD d)) := Is_Q (by simp [npr, pA]) (by rw [upd_ne npr]; exact ep)
  have ht3 : Is K (r :: A) (upd H2 r (.ins c dx [("offset", .ref p)])) (.ref t) (.tuple ds) := Is.mono ((Go.of s02).trans g3) ht
  refine ⟨_, rfl, r, c, dx, _, _, rfl, upd_same, T.cl, T.nO, lkO _ _, _, rfl, .ref p, .ref t, r :: A, lowD d, ds, rfl, hA3, hp3, ht3, vh, fun v1 H4 s4 hv1 => ?_⟩
  have er4 := s4 _ _ (upd_same (H := H2) (a := r) (o := .ins c dx [("offset", .ref p)]))
  refine ⟨_, rfl, r, c, dx, _, rfl, er4, T.cl, T.nH, (by show 1 < 1000; decide), ?_⟩
  rw [put2]
  have hA4 := (Go.of s4).held hA3
  have g5 : Go (r :: A) H4 (upd H4 r (.ins c dx [("offset", .ref p), ("head", v1)])) := Go.chg (by simp)
  have hA5 := g5.held hA4
  have hp5 := Is.mono ((Go.of s4).trans g5) hp3
  have hv5 := Is.mono g5 hv1
  have er5 : (upd H4 r (.ins c dx [("offset", .ref p), ("head", v1)])) r = some (.ins c dx [("offset", .ref p), ("head", v1)]) := upd_same
  have k5 : ∀ b ob, b ≠ r → H4 b = some ob → (upd H4 r (.ins c dx [("offset", .ref p), ("head", v1)])) b = some ob := fun b ob hb e => by rw [upd_ne hb]; exact e
  generalize (upd H4 r (.ins c dx [("offset", .ref p), ("head", v1)])) = H5 at g5 hA5 hp5 hv5 er5 k5 ⊢
  -- self.unit = common_bottom([self.offset, *self.head])
  obtain ⟨a1, ws1, rfl, sq1, all1⟩ := is_tup hv5
  have wl1 : ws1.length = ds.length := by rw [all1.len, List.length_map, List.length_map]
  have v8 := vh.len
  have numB : ∀ q ∈ lowD d :: ds.map lowD, 0 < q.2 ∧ q.1.natAbs < 2 ^ 200 ∧ q.2.natAbs < 2 ^ 200 := fun q hq => by
    rcases List.mem_cons.mp hq with e | hq
    · subst e
      exact ⟨lowD_pos hn, vh.o2.1, vh.o2.2⟩
    · obtain ⟨d', hd', rfl⟩ := List.mem_map.mp hq
      obtain ⟨nu, _, z1, z2⟩ := vh.num d' hd'
      exact ⟨lowD_pos nu, z1, z2⟩
  have hU : unitQ (lowD d) (ds.map lowD) = ((lcmN (lowD d :: ds.map lowD) : Nat) : Int) := rfl
  have U1 : (unitQ (lowD d) (ds.map lowD)).natAbs < 2 ^ 3201 := by
    rw [hU, Int.natAbs_natCast]
    exact lcmN_8000 (by rw [List.length_cons, List.length_map]; omega) fun q hq => (numB q hq).2.2
  have U0 : 0 ≤ unitQ (lowD d) (ds.map lowD) := by rw [hU]; exact Int.natCast_nonneg _
  have wq : ∀ q ∈ lowD d :: ds.map lowD, CDivW (unitQ (lowD d) (ds.map lowD)) q.2 ∧ CMulW q.1 (unitQ (lowD d) (ds.map lowD) / q.2) := fun q hq => by
    obtain ⟨b0, b1, b2⟩ := numB q hq
    refine ⟨wide_div b0 b2 (by decide) (by decide), wide_mul (b := 3201) b1 ?_ (by decide) (by decide) (by decide)⟩
    exact Nat.lt_of_le_of_lt (by
      have z0 : 0 ≤ unitQ (lowD d) (ds.map lowD) / q.2 := Int.ediv_nonneg U0 (by omega)
      have z1 : unitQ (lowD d) (ds.map lowD) / q.2 ≤ unitQ (lowD d) (ds.map lowD) := Int.ediv_le_self _ U0
      omega) U1
  generalize hUU : unitQ (lowD d) (ds.map lowD) = U at hU U1 U0 wq
  refine ⟨_, rfl, r, c, dx, _, _, rfl, er5, T.cl, T.nO, lkO _ _, _, rfl, r, c, dx, _, _, rfl, er5, T.cl, T.nH, lkH _ _ _, a1, ws1, rfl, .inl (sqT_full sq1), ⟨?_, fun l6 nl6 => ?_⟩⟩
  · rw [List.append_nil, List.length_cons]
    exact Nat.le_of_lt (small1000 (by omega))
  rw [List.append_nil]
  have g6 : Go (r :: A) H5 (upd H5 l6 (.lst (.ref p :: ws1))) := Go.new nl6
  have hl6 : Is K (r :: A) (upd H5 l6 (.lst (.ref p :: ws1))) (.ref l6) (.list ((lowD d :: ds.map lowD).map encQ)) := is_new_lst hA5 nl6 (DAll.cons hp5 all1)
  have s6 : Same H5 (upd H5 l6 (.lst (.ref p :: ws1))) := same_new nl6
  refine ⟨l6, r :: A, lowD d :: ds.map lowD, rfl, hl6, by rw [List.length_cons, List.length_map]; omega, fun q hq => (numB q hq).2.2, ?_⟩
  rw [← hU]
  have er6 := s6 _ _ er5
  have hA6 := g6.held hA5
  have hp6 := Is.mono g6 hp5
  have hv6 := Is.mono g6 hv5
  generalize (upd H5 l6 (.lst (.ref p :: ws1))) = H6 at g6 hl6 s6 er6 hA6 hp6 hv6 ⊢
  refine ⟨_, rfl, r, c, dx, _, rfl, er6, T.cl, T.nU, (by show 2 < 1000; decide), ?_⟩
  rw [put3]
  have g7 : Go (r :: A) H6 (upd H6 r (.ins c dx [("offset", .ref p), ("head", .ref a1), ("unit", .int U)])) := Go.chg (by simp)
  have hA7 := g7.held hA6
  have hp7 := Is.mono g7 hp6
  have hv7 := Is.mono g7 hv6
  have er7 : (upd H6 r (.ins c dx [("offset", .ref p), ("head", .ref a1), ("unit", .int U)])) r = some (.ins c dx [("offset", .ref p), ("head", .ref a1), ("unit", .int U)]) := upd_same
  have k7 : ∀ b ob, b ≠ r → H6 b = some ob → (upd H6 r (.ins c dx [("offset", .ref p), ("head", .ref a1), ("unit", .int U)])) b = some ob := fun b ob hb e => by rw [upd_ne hb]; exact e
  generalize (upd H6 r (.ins c dx [("offset", .ref p), ("head", .ref a1), ("unit", .int U)])) = H7 at g7 hA7 hp7 hv7 er7 k7 ⊢
  -- self._whole_head = [..]
  obtain ⟨a1', ws7, e7, sq7, all7⟩ := is_tup hv7
  cases e7
  have sq7f := sqT_full sq7
  have wl7 : ws7.length = ds.length := by rw [all7.len, List.length_map, List.length_map]
  refine ⟨_, rfl, r, c, dx, _, _, rfl, er7, T.cl, T.nH, lkH _ _ _, a1, rfl, ⟨_, sq7f⟩, fun D0 nD => ?_⟩
  refine lc_tup (K := K) (a := a1) (xs := ws7) (fun i H8 => Same H7 H8 ∧ H8 D0 = some (.lst (((ds.map lowD).take i).map fun q => V.int (timesQ U q)))) ⟨same_new nD, upd_same⟩ (fun i H8 _ ⟨s8, _⟩ => seqT_same s8 sq7f) ?_ ?_
  · rintro i y H8 hi ⟨s8, eD⟩
    obtain ⟨d', hd', hy⟩ := iss_get' all7 hi
    obtain ⟨q, hq, rfl⟩ := some_map hd'
    have qm : q ∈ lowD d :: ds.map lowD := List.mem_cons_of_mem _ (List.mem_of_getElem? hq)
    have hy8 := D.same s8 hy.full
    have er8 := s8 _ _ er7
    obtain ⟨wdq, wmq⟩ := wq q qm
    obtain ⟨b8, us8, rfl, sq8, all8⟩ := hy8.tuple
    obtain ⟨u1, us1, rfl, hu1, all8⟩ := dall_cons all8
    obtain ⟨u2, us2, rfl, hu2, all8⟩ := dall_cons all8
    obtain rfl : us2 = [] := List.length_eq_zero_iff.mp all8.len
    obtain rfl := hu1.int_eq
    obtain rfl := hu2.int_eq
    refine ⟨b8, _, rfl, sq8, rfl, _, _, rfl, _, [], rfl, rfl, ?_⟩
    refine ⟨rfl, _, rfl, _, rfl, r, c, dx, _, _, rfl, er8, T.cl, T.nU, lkU _ _ _ _, _, rfl, _, _, rfl, rfl, wdq, _, _, rfl, rfl, wmq, _, eD, ?_, fun b' o e => ?_, ?_⟩
    · rw [List.length_map, List.length_take, List.length_map]
      exact small1000 (by omega)
    · rw [upd_ne (ne_of_none e nD)]
      exact s8 _ _ e
    · rw [upd_same, List.take_add_one, hq, List.map_append]
      rfl
  rintro H8 ⟨s8, eD⟩
  rw [wl7, ← List.length_map (as := ds) (f := lowD), List.take_length] at eD
  have er8 := s8 _ _ er7
  refine ⟨_, rfl, r, c, dx, _, rfl, er8, T.cl, T.nW, (by show 3 < 1000; decide), ?_⟩
  rw [put4]
  have nDr : D0 ≠ r := fun z => by rw [z, er7] at nD; cases nD
  have D0A : D0 ∉ r :: A := hA7.out nD
  have g9 : Go (r :: A) H8 (upd H8 r (.ins c dx [("offset", .ref p), ("head", .ref a1), ("unit", .int U), ("_whole_head", .ref D0)])) := Go.chg (by simp)
  have hA8 := (Go.of s8).held hA7
  have hA9 := g9.held hA8
  have hp9 := Is.mono ((Go.of s8).trans g9) hp7
  have hv9 := Is.mono ((Go.of s8).trans g9) hv7
  have er9 : (upd H8 r (.ins c dx [("offset", .ref p), ("head", .ref a1), ("unit", .int U), ("_whole_head", .ref D0)])) r = some (.ins c dx [("offset", .ref p), ("head", .ref a1), ("unit", .int U), ("_whole_head", .ref D0)]) := upd_same
  have hw9 : Is K (r :: A) (upd H8 r (.ins c dx [("offset", .ref p), ("head", .ref a1), ("unit", .int U), ("_whole_head", .ref D0)])) (.ref D0) (.list ((ds.map lowD).map fun q => PyData.int (timesQ U q))) := by
    refine is_own_lst (vs := (ds.map lowD).map fun q => V.int (timesQ U q)) (by rw [upd_ne nDr]; exact eD) D0A ?_
    have z : Iss K (D0 :: r :: A) (upd H8 r (.ins c dx [("offset", .ref p), ("head", .ref a1), ("unit", .int U), ("_whole_head", .ref D0)])) (((ds.map lowD).map (timesQ U)).map V.int) (((ds.map lowD).map (timesQ U)).map PyData.int) := iss_ints _
    simp only [List.map_map, Function.comp_def] at z ⊢
    exact z
  have k9 : ∀ b ob, b ≠ r → H8 b = some ob → (upd H8 r (.ins c dx [("offset", .ref p), ("head", .ref a1), ("unit", .int U), ("_whole_head", .ref D0)])) b = some ob := fun b ob hb e => by rw [upd_ne hb]; exact e
  generalize (upd H8 r (.ins c dx [("offset", .ref p), ("head", .ref a1), ("unit", .int U), ("_whole_head", .ref D0)])) = H9 at g9 hA9 hp9 hv9 er9 hw9 k9 ⊢
  -- self.whole_offset = ..
  obtain ⟨wd, wm⟩ := wq _ (List.mem_cons_self)
  refine ⟨_, rfl, r, c, dx, _, _, rfl, er9, T.cl, T.nO, lkO _ _, ix_di hp9.full (by decide) rfl ?_⟩
  refine ⟨_, rfl, r, c, dx, _, _, rfl, er9, T.cl, T.nU, lkU _ _ _ _, _, rfl, r, c, dx, _, _, rfl, er9, T.cl, T.nO, lkO _ _, ix_di hp9.full (by decide) rfl ?_⟩
  refine ⟨_, _, rfl, rfl, wd, _, _, rfl, rfl, wm, ?_⟩
  refine ⟨_, rfl, r, c, dx, _, rfl, er9, T.cl, T.nX, (by show 4 < 1000; decide), ?_⟩
  rw [put5]
  dsimp only
  have ho : (lowD d).1 * (U / (lowD d).2) = timesQ U (lowD d) := rfl
  rw [ho]
  generalize hx : timesQ U (lowD d) = x
  have g11 : Go (r :: A) H9 (upd H9 r (.ins c dx [("offset", .ref p), ("head", .ref a1), ("unit", .int U), ("_whole_head", .ref D0), ("whole_offset", .int x)])) := Go.chg (by simp)
  have hA11 := g11.held hA9
  have hp11 := Is.mono g11 hp9
  have hv11 := Is.mono g11 hv9
  have hw11 := Is.mono g11 hw9
  have er11 : (upd H9 r (.ins c dx [("offset", .ref p), ("head", .ref a1), ("unit", .int U), ("_whole_head", .ref D0), ("whole_offset", .int x)])) r = some (.ins c dx [("offset", .ref p), ("head", .ref a1), ("unit", .int U), ("_whole_head", .ref D0), ("whole_offset", .int x)]) := upd_same
  have k11 : ∀ b ob, b ≠ r → H5 b = some ob → (upd H9 r (.ins c dx [("offset", .ref p), ("head", .ref a1), ("unit", .int U), ("_whole_head", .ref D0), ("whole_offset", .int x)])) b = some ob := fun b ob hb e => by
    rw [upd_ne hb]
    exact k9 b ob hb (s8 b ob (k7 b ob hb (s6 b ob e)))
  have k5' : ∀ b ob, b ≠ r → H4 b = some ob → (upd H9 r (.ins c dx [("offset", .ref p), ("head", .ref a1), ("unit", .int U), ("_whole_head", .ref D0), ("whole_offset", .int x)])) b = some ob := fun b ob hb e => k11 b ob hb (k5 b ob hb e)
  generalize (upd H9 r (.ins c dx [("offset", .ref p), ("head", .ref a1), ("unit", .int U), ("_whole_head", .ref D0), ("whole_offset", .int x)])) = H11 at g11 hA11 hp11 hv11 hw11 er11 k11 k5' ⊢
  -- self._start = tuple([..])
  refine ⟨8, rfl, by decide, by decide, fun E0 nE => ?_⟩
  have nEr : E0 ≠ r := fun z => by rw [z, er11] at nE; cases nE
  have nEA : E0 ∉ A := fun z => hA11 E0 (List.mem_cons_of_mem _ z) nE
  have oz : (lowD d).2.natAbs < 2 ^ 8000 := Nat.lt_trans vh.o2.2 (by decide +kernel)
  refine lc_range (lo := 0) (fun i H6 => Same H11 H6 ∧ Hd (E0 :: r :: A) H6 ∧ ∃ ws, H6 E0 = some (.lst ws) ∧ Iss K (E0 :: r :: A) H6 ws ((List.range i).map fun i => encQ (markQ (lowD d) (ds.map lowD) ((i : Nat) : Int))))
    ⟨same_new nE, Hd.cons upd_same (hd_new hA11 nE), [], upd_same, DAll.nil⟩ ?_ ?_
  · rintro i H6 hi ⟨s6, hA6, ws, eD, hws⟩
    have er6 := s6 _ _ er11
    have hi8 : i < 8 := by simpa using hi
    refine ⟨rfl, _, rfl, r, dx, _, rfl, er6, ?_, _, rfl, ?_⟩
    · rw [lk_cons, if_neg kOM, lk_cons, if_neg kHM, lk_cons, if_neg kUM, lk_cons, if_neg kWM, lk_cons, if_neg kXM]
      rfl
    refine ⟨r, dx, _, .ref p, .ref a1, E0 :: r :: A, lowD d, ds.map lowD, _, rfl, er6, lkO _ _, lkH _ _ _, hA6, Is.mono (Go.of s6) (Is.more nE hp11), Is.mono (Go.of s6) (Is.more nE hv11), by omega, ?_, oz, fun y H7 s7 hy => ?_⟩
    · exact Nat.lt_of_le_of_lt (show (0 + ((i : Nat) : Int)).natAbs ≤ 8 by omega) (by decide +kernel)
    · have wl : ws.length = i := by rw [hws.len]; simp
      refine ⟨ws, s7 _ _ eD, small1000 (by omega), fun b ob e => ?_, ?_, ws ++ [y], upd_same, ?_⟩
      · rw [upd_ne (ne_of_none e nE)]
        exact s7 _ _ (s6 _ _ e)
      · exact (Go.chg (A := E0 :: r :: A) (by simp)).held ((Go.of s7).held hA6)
      · have g8 : Go (E0 :: r :: A) H7 (upd H7 E0 (.lst (ws ++ [y]))) := Go.chg (by simp)
        rw [List.range_succ, List.map_append]
        refine iss_app (Iss.mono ((Go.of s7).trans g8) hws) (DAll.cons ?_ DAll.nil)
        have e0 : (0 + ((i : Nat) : Int)) = ((i : Nat) : Int) := by omega
        rw [e0] at hy
        exact Is.mono g8 hy
  · rintro H6 ⟨s6, hA6, ws, eD, hws⟩
    refine ⟨E0, ws, rfl, .inl ⟨.inl (.inl eD), fun l nl => ?_⟩⟩
    have er7 := (same_new nl (o := .tup ws)) _ _ (s6 _ _ er11)
    refine ⟨_, rfl, r, c, dx, _, rfl, er7, T.cl, T.nS, (by show 5 < 1000; decide), ?_⟩
    rw [put6]
    have lA : l ∉ E0 :: r :: A := hA6.out nl
    have g9 : Go (r :: A) H11 (upd (upd H6 l (.tup ws)) r (.ins c dx [("offset", .ref p), ("head", .ref a1), ("unit", .int U), ("_whole_head", .ref D0), ("whole_offset", .int x), ("_start", .ref l)])) := ((Go.of s6).trans (Go.new nl)).trans (Go.chg (by simp))
    have g10 : Go (E0 :: r :: A) H6 (upd (upd H6 l (.tup ws)) r (.ins c dx [("offset", .ref p), ("head", .ref a1), ("unit", .int U), ("_whole_head", .ref D0), ("whole_offset", .int x), ("_start", .ref l)])) := (Go.new nl).trans (Go.chg (by simp))
    refine k _ (fun b ob hb e => ?_) ⟨dx, .ref p, .ref a1, .ref l, .ref D0, ?_, Is.less (Is.mono g9 hp11), Is.less (Is.mono g9 hv11), ?_, ?_⟩
    · have a2 := s02 _ _ e
      rw [upd_ne hb]
      have a4 := s4 b ob (by rw [upd_ne hb]; exact a2)
      have a5 : H11 b = some ob := k5' b ob hb a4
      exact (same_new nl) _ _ (s6 _ _ a5)
    · rw [hUU, hx]
      exact upd_same
    · have z : Is K (E0 :: r :: A) (upd H6 l (.tup ws)) (.ref l) (.tuple ((List.range 8).map fun i => encQ (markQ (lowD d) (ds.map lowD) ((i : Nat) : Int)))) := is_new_tup hA6 nl hws
      exact Is.less (Is.less (Is.mono (Go.chg (by simp)) z))
    · rw [hUU]
      exact Is.less (Is.mono g9 hw11)
end
/-! ### the program: Rule(..) and Rule.read(text) -/
theorem atI_neg {α : Type} {xs : List α} {k : Nat} {v : α} (hk : 0 < k) (h : k ≤ xs.length) (e : xs[xs.length - k]? = some v) : atI xs (-(k : Int)) = some v := by
  unfold atI ixN
  rw [if_neg (by omega), if_pos (by omega), Option.bind_some, show (-(k : Int) + (xs.length : Int)).toNat = xs.length - k by omega]
  exact e
theorem cut_neg (xs : List V) {k : Nat} (hk : 0 < k) (h : k ≤ xs.length) : cutV xs none (some (-(k : Int))) = xs.take (xs.length - k) := by
  show (xs.drop 0).take ((if (-(k : Int)) < 0 then (-(k : Int) + (xs.length : Int)).toNat else min (-(k : Int)).toNat xs.length) - 0) = _
  rw [if_pos (by omega), show (-(k : Int) + (xs.length : Int)).toNat = xs.length - k by omega]
  rfl
/-- a rule's numbers as the document has them: lowest terms, not too long for texts -/
structure VR (o : Int × Int) (hd : List (Int × Int)) : Prop where
  ok : OkW o
  low : lowQ o.1 o.2 = o
  le1 : o.1 ≤ o.2
  len : hd.length ≤ 8
  oks : ∀ q ∈ hd, OkW q ∧ lowQ q.1 q.2 = q
  inc : ∀ (i : Nat) (p q : Int × Int), hd[i]? = some p → hd[i + 1]? = some q → ltQ p q
  last : ∀ m, hd.getLast? = some m → ltQ m (plainQ o hd.length)
theorem enc_low {q : Int × Int} (low : lowQ q.1 q.2 = q) : lowD (encQ q) = q := low
theorem map_low {hd : List (Int × Int)} (h : ∀ q ∈ hd, OkW q ∧ lowQ q.1 q.2 = q) : (hd.map encQ).map lowD = hd := by
  rw [List.map_map]
  conv => rhs; rw [← List.map_id hd]
  exact List.map_congr_left fun q hq => (h q hq).2
theorem enc_sz {q : Int × Int} (ok : OkW q) : ∀ a b, encQ q = encQ (a, b) → b.natAbs < 2 ^ 8000 := by
  intro a b z
  have z1 : PyData.tuple [.int q.1, .int q.2] = PyData.tuple [.int a, .int b] := z
  injection z1 with z1
  injection z1 with _ z1
  injection z1 with z1
  injection z1 with z1
  rw [← z1]
  exact Nat.lt_trans (show q.2.natAbs < 2 ^ 200 by have := ok.b; have := ok.b2; omega) (by decide +kernel)
theorem VR.vh {o : Int × Int} {hd : List (Int × Int)} (r : VR o hd) : VH o (hd.map encQ) where
  len := by rw [List.length_map]; exact r.len
  o2 := by have := r.ok.a; have := r.ok.b; have := r.ok.a2; have := r.ok.b2; constructor <;> omega
  num := by
    intro d hd'
    obtain ⟨q, hq, rfl⟩ := List.mem_map.mp hd'
    obtain ⟨ok, low⟩ := r.oks q hq
    refine ⟨enc_num ok.b, enc_sz ok, ?_, ?_⟩
    · rw [enc_low low]; have := ok.a; have := ok.a2; omega
    · rw [enc_low low]; have := ok.b; have := ok.b2; omega
  next := by
    intro i d e
    rw [List.getElem?_map] at e
    cases hq : hd[i]? with
    | none => rw [hq] at e; cases e
    | some q =>
      rw [hq] at e
      have e' : encQ q = d := Option.some.inj e
      subst e'
      have hm : q ∈ hd := List.mem_of_getElem? hq
      obtain ⟨ok, low⟩ := r.oks q hm
      have hil : i < hd.length := (List.getElem?_eq_some_iff.mp hq).1
      rw [← List.map_take, map_low (fun q hq => r.oks q (List.mem_of_mem_take hq))]
      unfold nextD
      rw [enc_num ok.b, enc_low low, Bool.true_and]
      cases i with
      | zero => exact decide_eq_true ok.a
      | succ i =>
        have hi : i < hd.length := by omega
        have e1 : (hd.take (i + 1)).getLast? = some hd[i] := by
          rw [List.getLast?_eq_getElem?, List.length_take, Nat.min_eq_left (by omega)]
          rw [List.getElem?_take_of_lt
                (by omega)]
          simp [hi]
        rw [e1]
        exact decide_eq_true (r.inc i _ _ (List.getElem?_eq_getElem hi) hq)
  last := by
    rw [map_low r.oks, List.length_map]
    exact r.last
theorem VR.off {o : Int × Int} {hd : List (Int × Int)} (r : VR o hd) : isOffD (encQ o) = true := by
  unfold isOffD
  rw [enc_num r.ok.b, enc_low r.low, decide_eq_true r.ok.a, decide_eq_true r.le1]
  rfl
def ruleParts (o : Int × Int) (hd : List (Int × Int)) : List (List Nat) := hd.map qL ++ [[124], qL o]
def ruleL (o : Int × Int) (hd : List (Int × Int)) : List Nat := TL.joinL [32] (ruleParts o hd)
theorem qL_free (q : Int × Int) {s : Nat} (h : s < 47 ∨ 57 < s) : s ∉ qL q := by
  unfold qL
  split
  · exact TL.numL_free (by omega)
  · intro z
    rcases List.mem_append.mp z with z | z
    · exact TL.numL_free (by omega) z
    · rcases List.mem_cons.mp
          z with z | z
      · omega
      · exact TL.numL_free (by omega) z
theorem rSplit (o : Int × Int) (hd : List (Int × Int)) : Txt.split (SX.S (ruleL o hd)) (SX.S [32]) = (ruleParts o hd).map SX.S := by
  refine split_join (by decide) (by unfold ruleParts; simp) ?_
  intro p hp
  unfold ruleParts at hp
  rcases List.mem_append.mp hp
        with hp | hp
  · obtain ⟨q, _, rfl⟩ := List.mem_map.mp hp
    exact qL_free q (.inl (by decide))
  · rcases List.mem_cons.mp hp
        with rfl | hp
    · decide
    · rw [List.mem_singleton] at hp
      subst hp
      exact qL_free o (.inl (by decide))
theorem joinL_len (S : List Nat) : ∀ ps : List (List Nat), (TL.joinL S ps).length ≤ (ps.map (·.length)).sum + ps.length * S.length
  | [] => by simp [TL.joinL]
  | [p] => by simp [TL.joinL]
  | p :: q :: r => by
    have ih := joinL_len S (q :: r)
    show (p ++ (S ++ TL.joinL S (q :: r))).length ≤ _
    rw [List.length_append, List.length_append, List.map_cons, List.sum_cons, List.length_cons (a := p), Nat.succ_mul]
    omega
theorem sum_le {ps : List (List Nat)} {k : Nat} (h : ∀ p ∈ ps, p.length ≤ k) : (ps.map (·.length)).sum ≤ ps.length * k := by
  induction ps with
  | nil => simp
  | cons p r ih =>
    rw [List.map_cons, List.sum_cons, List.length_cons,
          Nat.succ_mul]
    have h1 := h p (by simp)
    have h2 := ih fun q hq => h q (by simp [hq])
    omega
theorem ruleL_len {o : Int × Int} {hd : List (Int × Int)} (r : VR o hd) : (ruleL o hd).length ≤ 2000 := by
  have h1 := joinL_len [32] (ruleParts o hd)
  have h2 : ∀ p ∈ ruleParts o hd, p.length ≤ 101 := by
    intro p hp
    unfold ruleParts at hp
    rcases List.mem_append.mp hp
          with hp | hp
    · obtain ⟨q, hq, rfl⟩ := List.mem_map.mp hp
      exact qL_len (r.oks q hq).1
    · rcases List.mem_cons.mp hp
          with rfl | hp
      · decide
      · rw [List.mem_singleton] at hp
        subst hp
        exact qL_len r.ok
  have h3 := sum_le h2
  have h4 : (ruleParts o hd).length = hd.length + 2 := by unfold ruleParts; simp
  have h5 := r.len
  have h6 : ([32] : List Nat).length = 1 := rfl
  unfold ruleL
  rw [h4] at h1 h3
  rw [h6] at h1
  omega
section
variable {P : Program} {w : World} {K : PySem.W.Frag} {mg : Str → Option Value} {base : Heap} {c : Addr} {TLb : List (Addr × Str)}
/-- Rule(offset, mark, ..), at good ones -/
def sp_Rule_new (K : PySem.W.Frag) (c : Addr) : Sp := fun vs H Q _ => ∃ (r dx : Addr) (v : V) (rest : List V) (A : List Addr) (d : PyData) (ds : List PyData), vs = .ref r :: v :: rest ∧ H r = some (.ins c dx []) ∧ r ∉ A ∧ Hd A H ∧ Is K (r :: A) H v d ∧
  Iss K (r :: A) H rest ds ∧ isOffD d = true ∧ (∀ a b, d = encQ (a, b) → b.natAbs < 2 ^ 8000) ∧ VH (lowD d) ds ∧
  ∀ H', (∀ b o, b ≠ r → H b = some o → H' b = some o) → RuleAt K c A H' r (lowD d) (ds.map lowD) → Q .non H'
theorem mak_Rule {f : Addr} {fd : FuncData} (B : Bl mg) (T : Tx K mg c) (F : Fun K "__init__" "Rule.__init__" s_Rule___init__ f fd) (M : Mk K c f)
    (C__is_offset : Cal P w K mg base 3 "_is_offset" (sp__is_offset K c) []) (C_lowest : Cal P w K mg base 2 "lowest" (sp_lowest K c) [])
    (C__lowest_head : Cal P w K mg base 4 "_lowest_head" (sp__lowest_head K c) []) (C_common_bottom : Cal P w K mg base 1 "common_bottom" (sp_common_bottom K c) []) (M_mark : Met P w K mg base 3 c "mark" (sp_Rule_mark K c)) :
    MakR P w K mg base 7 "Rule" c (sp_Rule_new K c) := by
  refine ⟨f, M, ?_, T.g_Rule⟩
  obtain ⟨oc, od, kV, doc, pm, an, cdv, ct, osl,
        rfl, lk, hcd⟩ := F.ex
  refine FnR.imp (fn_star (ps := ["self", "offset"]) (pv := "head") (N := ["self", "offset", "head", "top", "bottom", "number"]) (sp := sp_Rule_init K c) (k := 6) lk hcd sc_Rule___init__ cxUp_none (fun us rest hl => match us, rest, hl with | [a, b], [], _ => rfl | [a, b], r :: rs, _ => rfl) ?_) ?_
  · intro A outer s H vs Q E hr h
    obtain ⟨t, der, rd⟩ := rd_Rule_init B T C__is_offset C_lowest C__lowest_head C_common_bottom M_mark hr h
    exact ⟨t, der.nox, rd⟩
  · rintro vs H Q E ⟨r, dx, v, rest, A, d, ds, rfl, er, rA, hA, hv, hr, ho, hsz, vh, k⟩
    have rl : rest.length ≤ 8 := by rw [hr.len]; exact vh.len
    refine ⟨[.ref r, v], rest, rfl, rfl, Nat.le_of_lt (small1000 (by omega)), fun p np => ?_⟩
    have hA0 : Hd (r :: A) H := Hd.cons er hA
    refine ⟨r, dx, v, p, A, d, ds, rfl, same_new np _ _ er, rA, hd_new hA np, Is.mono (Go.new np) hv, is_new_tup hA0 np hr, ho, hsz, vh, fun H' keep R => k H' (fun b o hb e => keep b o hb (same_new np _ _ e)) R⟩
def sp_Rule_read (K : PySem.W.Frag) (c : Addr) : Sp := fun vs H Q _ => ∃ (o : Int × Int) (hd : List (Int × Int)) (A : List Addr), vs = [.str (SX.S (ruleL o hd))] ∧ VR o hd ∧ Hd A H ∧
  ∀ r H', Same H H' → r ∉ A → RuleAt K c A H' r o hd → Q (.ref r) H'
theorem sta_read {mc : Value} {p f : Addr} {fd : FuncData} (B : Bl mg) (T : Tx K mg c) (F : Fun K "read" "Rule.read" s_Rule_read f fd) (sm : SMet K c mc "read" p f)
    (C_read_number : Cal P w K mg base 3 "read_number" (sp_read_number K c) []) (M_Rule : MakR P w K mg base 7 "Rule" c (sp_Rule_new K c)) :
    Sta P w K mg base 9 "Rule" "read" (sp_Rule_read K c) := by
  refine ⟨c, mc, p, f, fd, ["text"], T.g_Rule, sm, F.ok sc_Rule_read (fun vs H Q E h => ?_) (fun cdv A outer s H vs Q E hr h => ?_), F.binds (fun _ _ _ _ _ _ us hl => match us, hl with | [_], _ => rfl)⟩
  · obtain ⟨_, _, _, rfl, _⟩ := h
    rfl
  obtain ⟨o, hd, A0, rfl, vr, hA, k⟩ := h
  refine ⟨_, (pss_cons (ps_if (pt_not (pt_val (pe_callB call_isi (by rfl) B.isinstance (by decide +kernel) (pa_cons (pv 0) (pa_cons (pe_bltn (v := .ty "str") (by rfl) B.str (by decide +kernel) rfl) pa_nil))))) (pss_one ps_never) pss_nil)
      (pss_cons (ps_set (i := 1) sc_Rule_read.nd rfl (Or.inl rfl) (pe_split (pv 0) pe_str))
      (pss_cons (ps_if (PW.pt (pw_or (pt_cmpR op_lt (pe_callB call_len_seq (by rfl) B.len (by decide +kernel) (pa_cons (pv 1) pa_nil)) pe_int (nomark _)) (pw_or1 (pt_cmpR op_ne (pe_ix ix_seq (pv 1) (pe_un un_neg pe_int) (fun _ _ => rfl)) pe_str (nomark _))))) (pss_one ps_never) pss_nil)
      (pss_cons (ps_set (i := 2) sc_Rule_read.nd rfl (Or.inl rfl) (pe_c C_read_number hr (by decide) (by rfl) (pa_cons (pe_ix ix_seq (pv 1) (pe_un un_neg pe_int) (fun _ _ => rfl)) pa_nil)))
      (pss_cons (ps_setLc (i := 3) (own := [("word", 4)]) (by rfl) sc_Rule_read.nd rfl rfl (sw_true rfl rfl rfl (by decide +kernel)) (pi_list (pe_slice sl_list (pv 1) po_none (po_some (pe_un un_neg pe_int)))) (blkOk_by (own := [("word", 4)]) (N := ["text", "words", "offset", "head", "word"]) (sc := defScope s_Rule_read) (by decide +kernel)) (fun _ _ _ _ _ => (pg_name (i := 4) sc_Rule_read.nd rfl (Or.inl rfl))) (fun _ _ _ _ _ => pts_nil) (fun _ _ _ _ _ => (pe_c C_read_number hr (by decide) (by rfl) (pa_cons (pv 4) pa_nil))))
      (pss_one (ps_try_thru0 (pss_one (ps_ret (pe_mkS M_Rule hr (by decide) (by rfl) (pv 2) (pv 3))))))))))), ?_⟩
  have rl := ruleL_len vr
  have sl : sizeLine = 16777216 := sizeLine_eq
  have c32 : (" " : Str) = SX.S [32] := by decide +kernel
  have c124 : ("|" : Str) = SX.S [124] := by decide +kernel
  refine ⟨_, rfl, _, _, _, _, _, rfl, .ty _, (D.str (K := K) (H := H) (SX.S (ruleL o hd))).ty, kit_ty (kit_str _), _, rfl, ?_⟩
  refine ⟨_, rfl, ⟨_, rfl⟩, _, _, rfl, rfl, by decide +kernel, by rw [SX.S_len]; omega, fun l nl => ?_⟩
  have es : Txt.split (SX.S (ruleL o hd)) (" " : Str) = (ruleParts o hd).map SX.S := by rw [c32]; exact rSplit o hd
  rw [es]
  have s1 : Same H (upd H l (.lst (((ruleParts o hd).map SX.S).map V.str))) := same_new nl
  have hS : SqL K (upd H l (.lst (((ruleParts o hd).map SX.S).map V.str))) l (((ruleParts o hd).map SX.S).map V.str) := .inl (.inl upd_same)
  generalize (upd H l (.lst (((ruleParts o hd).map SX.S).map V.str))) = H1 at s1 hS ⊢
  have wl : (((ruleParts o hd).map SX.S).map V.str).length = hd.length + 2 := by unfold ruleParts; simp
  have e2 : (((ruleParts o hd).map SX.S).map V.str)[(((ruleParts o hd).map SX.S).map V.str).length - 2]? = some (V.str (SX.S [124])) := by
    rw [wl]
    unfold ruleParts
    simp
  have e1 : (((ruleParts o hd).map SX.S).map V.str)[(((ruleParts o hd).map SX.S).map V.str).length - 1]? = some (V.str (SX.S (qL o))) := by
    rw [wl]
    unfold ruleParts
    simp
  have et : (((ruleParts o hd).map SX.S).map V.str).take ((((ruleParts o hd).map SX.S).map V.str).length - 2) = (hd.map fun q => V.str (SX.S (qL q))) := by
    rw [wl]
    unfold ruleParts
    simp
  generalize hW : (((ruleParts o hd).map SX.S).map V.str) = W at hS wl e2 e1 et
  -- if len(words) < 2 or words[-2] != "|"
  refine ⟨_, rfl, l, W, rfl, .inl hS, _, _, rfl, rfl, _, rfl, ite2 (fun e => ?_) (fun _ => ?_)⟩
  · have e0 : ((W.length : Nat) : Int) < 2 := of_decide_eq_true e
    omega
  refine ⟨_, rfl, _, rfl, .inl ⟨l, W, -2, _, rfl, rfl, hS, atI_neg (k := 2) (by decide) (by omega) e2, ?_⟩⟩
  rw [c124]
  refine ⟨rfl, _, rfl, iteNS rfl ?_⟩
  -- offset = read_number(words[-1])
  refine ⟨_, rfl, _, rfl, .inl ⟨l, W, -1, _, rfl, rfl, hS, atI_neg (k := 1) (by decide) (by omega) e1, ?_⟩⟩
  refine ⟨o, rfl, vr.ok, vr.low, fun po H2 s2 npo epo => ?_⟩
  have s02 := s1.trans s2
  have hA2 : Hd A0 H2 := (Go.of s02).held hA
  have poA : po ∉ A0 := ((Go.of s1).held hA).out npo
  have ho2 : Is K A0 H2 (.ref po) (encQ o) := Is_Q poA epo
  -- head = [..]
  refine ⟨_, rfl, _, rfl, _, rfl, l, W, rfl, s2.seq hS, fun l2 nl2 => ?_⟩
  have ec : cutV W none (some (-2)) = hd.map fun q => V.str (SX.S (qL q)) := by
    rw [← et]
    exact cut_neg W (k := 2) (by decide) (by omega)
  rw [ec]
  have s3 : Same H2 (upd H2 l2 (.lst (hd.map fun q => V.str (SX.S (qL q))))) := same_new nl2
  have hS3 : SqL K (upd H2 l2 (.lst (hd.map fun q => V.str (SX.S (qL q))))) l2 (hd.map fun q => V.str (SX.S (qL q))) := .inl (.inl upd_same)
  generalize (upd H2 l2 (.lst (hd.map fun q => V.str (SX.S (qL q))))) = H3 at s3 hS3 ⊢
  have hA3 : Hd A0 H3 := (Go.of s3).held hA2
  refine ⟨l2, rfl, ⟨_, hS3⟩, fun D0 nD => ?_⟩
  refine lc_list (K := K) (a := l2) (xs := hd.map fun q => V.str (SX.S (qL q))) (fun i H4 => Same H3 H4 ∧ Hd (D0 :: A0) H4 ∧ ∃ ws, H4 D0 = some (.lst ws) ∧ Iss K (D0 :: A0) H4 ws ((hd.take i).map encQ))
    ⟨same_new nD, Hd.cons upd_same (hd_new hA3 nD), [], upd_same, DAll.nil⟩ (fun i H4 _ ⟨s4, _⟩ => s4.seq hS3) ?_ ?_
  · rintro i y H4 hi ⟨s4, hA4, ws, eD, hws⟩
    obtain ⟨q, hq, rfl⟩ := some_map hi
    have hm : q ∈ hd := List.mem_of_getElem? hq
    obtain ⟨okq, lowq⟩ := vr.oks q hm
    refine ⟨rfl, _, rfl, q, rfl, okq, lowq, fun p H5 s5 np ep => ?_⟩
    have npD : p ≠ D0 := fun z => by rw [z, eD] at np; cases np
    have pA : p ∉ D0 :: A0 := hA4.out np
    refine ⟨ws, s5 _ _ eD, ?_, fun b ob e => ?_, ?_, ws ++ [.ref p], upd_same, ?_⟩
    · have e1 := hws.len
      rw [List.length_map, List.length_take] at e1
      have := vr.len
      exact small1000 (by omega)
    · rw [upd_ne (ne_of_none e nD)]
      exact s5 _ _ (s4 _ _ e)
    · exact (Go.chg (A := D0 :: A0) (by simp)).held ((Go.of s5).held hA4)
    · have g6 : Go (D0 :: A0) H5 (upd H5 D0 (.lst (ws ++ [.ref p]))) := Go.chg (by simp)
      rw [List.take_add_one, hq]
      simp only [List.map_append, Option.toList, List.map_cons, List.map_nil]
      exact iss_app (Iss.mono ((Go.of s5).trans g6) hws) (DAll.cons (Is.mono g6 (Is_Q pA ep)) DAll.nil)
  · rintro H4 ⟨s4, hA4, ws, eD, hws⟩
    rw [List.length_map, List.take_length] at hws
    have hA4' : Hd A0 H4 := fun b hb => hA4 b (List.mem_cons_of_mem _ hb)
    have ho4 : Is K A0 H4 (.ref po) (encQ o) := Is.mono (Go.of (s3.trans s4)) ho2
    -- return Rule(offset, *head)
    refine ⟨_, rfl, _, rfl, D0, ws, rfl, .inr (.inl (.inl eD)), ?_⟩
    intro r dx nr ndx ne
    have rA : r ∉ A0 := hA4'.out nr
    have nDr : D0 ≠ r := ne_of_none eD nr
    have g5 : Go (r :: A0) H4 (upd (upd H4 dx (.own r)) r (.ins c dx [])) := (Go.new ndx).trans (Go.chg (by simp))
    have sH : ∀ b o, b ≠ r → H4 b = some o → (upd (upd H4 dx (.own r)) r (.ins c dx [])) b = some o := fun b ob hb e => by
      rw [upd_ne hb, upd_ne (ne_of_none e ndx)]
      exact e
    have hA5 : Hd A0 (upd (upd H4 dx (.own r)) r (.ins c dx [])) := fun b hb z => by
      have nb : b ≠ r := fun y => rA (by rw [← y]; exact hb)
      cases q : H4 b with
      | none => exact hA4' b hb q
      | some u => rw [sH b u nb q] at z; cases z
    refine ⟨r, dx, .ref po, ws, A0, encQ o, hd.map encQ, by rw [List.append_nil], upd_same, rA, hA5, Is.mono g5 (Is.more nr ho4), ?_, vr.off, enc_sz vr.ok, ?_, fun H6 keep R => ⟨rfl, ?_⟩⟩
    · have z : Iss K A0 H4 ws (hd.map encQ) := Iss.less hws
      exact ⟨z.len, fun i v d h1 h2 => Is.mono g5 (Is.more nr (z.all i v d h1 h2))⟩
    · rw [enc_low vr.low]
      exact vr.vh
    · rw [enc_low vr.low, map_low vr.oks] at R
      refine k r H6 (fun b ob e => ?_) rA R
      have e4 := s4 _ _ (s3 _ _ (s02 _ _ e))
      have nb : b ≠ r := ne_of_none e4 nr
      exact keep b ob nb (sH b ob nb e4)
end
end LW
set_option Elab.async false
set_option linter.all false
set_option maxRecDepth 100000
set_option maxHeartbeats 4000100
set_option exponentiation.threshold 9000
namespace LW
open L2 PySem.Spec PyProof.Rows PySem
abbrev s_check_rule : Stmt := topS 40
theorem sc_check_rule : FnScope ["value"] ["value"] (defScope s_check_rule) := ⟨rfl, rfl, rfl, by decide +kernel, rfl, by decide +kernel, by decide +kernel⟩
abbrev s_Rule_whole_mark : Stmt := inClass (topS 38) 3
theorem sc_Rule_whole_mark : FnScope ["self", "number"] ["self", "number"] (defScope s_Rule_whole_mark) := ⟨rfl, rfl, rfl, by decide +kernel, rfl, by decide +kernel, by decide +kernel⟩
abbrev s_items_at_0 : Stmt := topS 45
theorem sc_items_at_0 : FnScope ["rule"] ["rule"] (defScope s_items_at_0) := ⟨rfl, rfl, rfl, by decide +kernel, rfl, by decide +kernel, by decide +kernel⟩
/-- what isinstance asks of the class Rule -/
structure ClsI (K : PySem.W.Frag) (c : Addr) : Prop where
  ca : PySem.W.findIn K (.ref c) "__class__" = some (some (.builtin "object.__class__"))
  sp : PySem.W.specialIn K (.builtin "object.__class__") "__get__" = some (some (.builtin "getset_descriptor.__get__"))
  tk : PySem.W.takesIn K (.builtin "object.__class__") = some true
  mr : PySem.W.mroIn K c (.type "object") = some true
/-! ### the program: marks as integers -/
section
variable {P : Program} {w : World} {K : PySem.W.Frag} {mg : Str → Option Value} {base : Heap} {c : Addr} {TLb : List (Addr × Str)}
/-- the mark with a number, times the unit -/
def wholeQ (o : Int × Int) (hd : List (Int × Int)) (n : Int) : Int := timesQ (unitQ o hd) (markQ o hd n)
theorem VR.bots {o : Int × Int} {hd : List (Int × Int)} (r : VR o hd) : ∀ q ∈ o :: hd, 0 < q.2 ∧ q.2.natAbs < 2 ^ 200 := fun q hq => by
  rcases List.mem_cons.mp hq with e | hq
  · subst e
    have := r.ok.b; have := r.ok.b2
    constructor <;> omega
  · have := (r.oks q hq).1.b; have := (r.oks q hq).1.b2
    constructor <;> omega
theorem VR.unit {o : Int × Int} {hd : List (Int × Int)} (r : VR o hd) : 0 < unitQ o hd ∧ (unitQ o hd).natAbs < 2 ^ 3201 ∧ ∀ q ∈ o :: hd, q.2 ∣ unitQ o hd := by
  refine ⟨?_, ?_, fun q hq => ?_⟩
  · have := lcmN_pos _ (o :: hd) rfl fun q hq => (r.bots q hq).1
    show (0 : Int) < ((lcmN (o :: hd) : Nat) : Int)
    omega
  · show (((lcmN (o :: hd) : Nat) : Int)).natAbs < _
    rw [Int.natAbs_natCast]
    refine lcmN_8000 ?_ fun q hq => (r.bots q hq).2
    have := r.len
    rw [List.length_cons]
    omega
  · have z := lcmN_dvd _ (o :: hd) rfl q hq
    exact Int.natAbs_dvd_natAbs.mp (show q.2.natAbs ∣ (((lcmN (o :: hd) : Nat) : Int)).natAbs by rw [Int.natAbs_natCast]; exact z)
theorem wholeQ_plain {o : Int × Int} {hd : List (Int × Int)} (r : VR o hd) (n : Int) : timesQ (unitQ o hd) (plainQ o n) = timesQ (unitQ o hd) o + n * unitQ o hd := by
  obtain ⟨x, hx⟩ := r.unit.2.2 o List.mem_cons_self
  have b := (r.bots o List.mem_cons_self).1
  show (o.1 + n * o.2) * (unitQ o hd / o.2) = o.1 * (unitQ o hd / o.2) + n * unitQ o hd
  rw [hx, Int.mul_ediv_cancel_left _ (by omega), Int.add_mul, Int.mul_assoc]
def sp_Rule_whole_mark (K : PySem.W.Frag) (c : Addr) : Sp := fun vs H Q _ => ∃ (r : Addr) (A : List Addr) (o : Int × Int) (hd : List (Int × Int)) (n : Int), vs = [.ref r, .int n] ∧ RuleAt K c A H r o hd ∧ VR o hd ∧ 0 ≤ n ∧ n.natAbs < 2 ^ 8000 ∧
  Q (.int (wholeQ o hd n)) H
theorem met_Rule_whole_mark {f : Addr} {fd : FuncData} (B : Bl mg) (T : Tx K mg c) (F : Fun K "whole_mark" "Rule.whole_mark" s_Rule_whole_mark f fd) (me : Meth K c "whole_mark" f)   : Met P w K mg base 1 c "whole_mark" (sp_Rule_whole_mark K c) ∧ FnOk P w K mg base CX0 1 f fd ["self", "number"] (sp_Rule_whole_mark K c) := by
  refine (fun Ok => ⟨⟨f, fd, ["self", "number"], T.cl, me, Ok, F.binds (fun _ _ _ _ _ _ us hl => match us, hl with | [_, _], _ => rfl)⟩, Ok⟩) (F.ok sc_Rule_whole_mark (fun vs H Q E h => ?len) (fun cdv A outer s H vs Q E hr h => ?run))
  case len => first | (obtain ⟨_, rfl, _⟩ := h; rfl) | (obtain ⟨_, _, rfl, _⟩ := h; rfl) | (obtain ⟨_, _, _, rfl, _⟩ := h; rfl) | (obtain ⟨_, _, _, _, rfl, _⟩ := h; rfl) | (obtain ⟨_, _, _, _, _, rfl, _⟩ := h; rfl) | (obtain ⟨_, _, _, _, _, _, rfl, _⟩ := h; rfl) | (obtain ⟨_, _, _, _, _, _, _, rfl, _⟩ := h; rfl) | (obtain ⟨_, _, _, _, _, _, _, _, rfl, _⟩ := h; rfl) | (obtain ⟨_, _, _, _, _, _, _, _, _, rfl, _⟩ := h; rfl) | (obtain ⟨_, _, _, _, _, _, _, _, _, _, rfl, _⟩ := h; rfl) | (obtain ⟨_, _, _, _, _, _, _, _, _, _, _, rfl, _⟩ := h; rfl) | (obtain ⟨_, _, _, _, _, _, _, _, _, _, _, _, rfl, _⟩ := h; rfl) | (obtain ⟨_, _, _, _, _, _, _, _, _, _, _, _, _, rfl, _⟩ := h; rfl) | (obtain ⟨_, _, _, _, _, _, _, _, _, _, _, _, _, _, rfl, _⟩ := h; rfl)
  case run =>
    obtain ⟨r, A0, o, hd, n, rfl, R, vr, n0, nz, k⟩ := h
    refine ⟨_, (pss_cons (ps_if (pt_cmpR op_lt (pv 1) (pe_callB call_len_seq (by rfl) B.len (by decide +kernel) (pa_cons (pe_fld (pv 0) rfl) pa_nil)) (nomark _)) (pss_one (ps_ret (pe_ix ix_seq (pe_fld (pv 0) rfl) (pv 1) (fun _ _ => rfl)))) pss_nil)
      (pss_one (ps_ret (pe_op op_add (pe_fld (pv 0) rfl) (pe_op op_mulW (pv 1) (pe_fld (pv 0) rfl)))))), ?_⟩
    obtain ⟨dx, v0, v1, v2, v3, er, h0, h1, h2, h3⟩ := R.ex
    obtain ⟨a, ws, rfl, sq, all⟩ := is_lst h3
    have wl : ws.length = hd.length := by rw [all.len, List.length_map]
    refine ⟨_, rfl, _, rfl, r, c, dx, _, _, rfl, er, T.cl, T.nW, lkW _ _ _ _ _, a, ws, rfl, .inl (sqL_full sq), _, _, rfl, rfl, _, rfl, ite2 (fun e => ?_) (fun e => ?_)⟩
    · have e1 : n < ((ws.length : Nat) : Int) := of_decide_eq_true e
      have hi : n.toNat < hd.length := by omega
      have z : markQ o hd n = hd[n.toNat] := by
        unfold markQ
        rw [if_pos (by omega)]
        simp [List.getD, hi]
      refine ⟨_, rfl, r, c, dx, _, _, rfl, er, T.cl, T.nW, lkW _ _ _ _ _, _, rfl, ?_⟩
      refine rd_lst h3 n0 (d := .int (wholeQ o hd n)) ?_ fun u hu => ?_
      · rw [List.getElem?_map, List.getElem?_eq_getElem hi]
        unfold wholeQ
        rw [z]
        rfl
      · rw [is_int hu]
        exact k
    · have e1 : ¬ n < ((ws.length : Nat) : Int) := fun z => e (decide_eq_true z)
      have z : markQ o hd n = plainQ o n := by
        unfold markQ
        rw [if_neg (by omega)]
      refine ⟨_, rfl, r, c, dx, _, _, rfl, er, T.cl, T.nX, lkX _ _ _ _ _ _, _, rfl, _, rfl, r, c, dx, _, _, rfl, er, T.cl, T.nU, lkU _ _ _ _, ?_⟩
      refine ⟨_, _, rfl, rfl, wide_mul nz vr.unit.2.1 (by decide) (by decide) (by decide), _, _, rfl, rfl, ?_⟩
      show Q (.int (timesQ (unitQ o hd) o + n * unitQ o hd)) H
      rw [← wholeQ_plain vr n, ← z]
      exact k
end
end LW
set_option Elab.async false
set_option linter.all false
set_option maxRecDepth 100000
set_option maxHeartbeats 4000100
set_option exponentiation.threshold 9000
namespace LW
open L2 PySem.Spec PyProof.Rows PySem
theorem low_mul {t b : Int} (h : 0 < b) : ∃ g : Int, 0 < g ∧ (lowQ t b).1 * g = t ∧ (lowQ t b).2 * g = b := by
  refine ⟨((Nat.gcd t.natAbs b.natAbs : Nat) : Int), ?_, ?_, ?_⟩
  · have := gcd_pos (t := t) h; omega
  · exact Int.ediv_mul_cancel (Int.ofNat_dvd_left.mpr (Nat.gcd_dvd_left _ _))
  · exact Int.ediv_mul_cancel (Int.ofNat_dvd_left.mpr (Nat.gcd_dvd_right _ _))
theorem low_pos {t b : Int} (h : 0 < b) : 0 < (lowQ t b).2 := by
  obtain ⟨g, hg, _, e2⟩ := low_mul (t := t) h
  rcases Int.lt_trichotomy (lowQ t b).2 0 with z | z | z
  · have := Int.mul_neg_of_neg_of_pos z hg; omega
  · rw [z] at e2; omega
  · exact z
theorem low_nn {t b : Int} (ht : 0 ≤ t) : 0 ≤ (lowQ t b).1 := Int.ediv_nonneg ht (by omega)
theorem low_le1 {t b : Int} (ht : 0 ≤ t) : (lowQ t b).1 ≤ t := Int.ediv_le_self _ ht
theorem low_le2 {t b : Int} (hb : 0 ≤ b) : (lowQ t b).2 ≤ b := Int.ediv_le_self _ hb
theorem low_low {t b : Int} (ht : 0 ≤ t) (h : 0 < b) : lowQ (lowQ t b).1 (lowQ t b).2 = lowQ t b := by
  have hg := gcd_pos (t := t) h
  have e1 : (lowQ t b).1.natAbs = t.natAbs / Nat.gcd t.natAbs b.natAbs := by
    show (t / ((Nat.gcd t.natAbs b.natAbs : Nat) : Int)).natAbs = _
    obtain ⟨n, rfl⟩ := Int.eq_ofNat_of_zero_le ht
    rw [Int.natAbs_natCast, ← Int.natCast_ediv, Int.natAbs_natCast]
  have e2 : (lowQ t b).2.natAbs = b.natAbs / Nat.gcd t.natAbs b.natAbs := by
    show (b / ((Nat.gcd t.natAbs b.natAbs : Nat) : Int)).natAbs = _
    obtain ⟨n, rfl⟩ := Int.eq_ofNat_of_zero_le (Int.le_of_lt h)
    rw [Int.natAbs_natCast, ← Int.natCast_ediv, Int.natAbs_natCast]
  have co : Nat.gcd (lowQ t b).1.natAbs (lowQ t b).2.natAbs = 1 := by
    rw [e1, e2]
    exact Nat.gcd_div_gcd_div_gcd_of_pos_right (by omega)
  show ((lowQ t b).1 / ((Nat.gcd (lowQ t b).1.natAbs (lowQ t b).2.natAbs : Nat) : Int), (lowQ t b).2 / ((Nat.gcd (lowQ t b).1.natAbs (lowQ t b).2.natAbs : Nat) : Int)) = _
  rw [co]
  show ((lowQ t b).1 / 1, (lowQ t b).2 / 1) = _
  rw [Int.ediv_one, Int.ediv_one]
theorem low_lt {s t b : Int} (hb : 0 < b) (h : s < t) : ltQ (lowQ s b) (lowQ t b) := by
  obtain ⟨g, hg, a1, a2⟩ := low_mul (t := s) hb
  obtain ⟨f, hf, b1, b2⟩ := low_mul (t := t) hb
  show (lowQ s b).1 * (lowQ t b).2 < (lowQ t b).1 * (lowQ s b).2
  refine Int.lt_of_mul_lt_mul_right (a := g * f) ?_ (Int.le_of_lt (Int.mul_pos hg hf))
  have e1 : (lowQ s b).1 * (lowQ t b).2 * (g * f) = s * b := by
    calc (lowQ s b).1 * (lowQ t b).2 * (g * f) = ((lowQ s b).1 * g) * ((lowQ t b).2 * f) := by
          rw [Int.mul_assoc, Int.mul_assoc, Int.mul_left_comm (lowQ t b).2 g f]
      _ = s * b := by rw [a1, b2]
  have e2 : (lowQ t b).1 * (lowQ s b).2 * (g * f) = t * b := by
    calc (lowQ t b).1 * (lowQ s b).2 * (g * f) = ((lowQ t b).1 * f) * ((lowQ s b).2 * g) := by
          rw [Int.mul_assoc, Int.mul_assoc, Int.mul_comm g f, Int.mul_left_comm (lowQ s b).2 f g]
      _ = t * b := by rw [b1, a2]
  rw [e1, e2]
  exact Int.mul_lt_mul_of_pos_right h hb
/-- the bound for the last mark is the same for the offset in lowest terms -/
theorem plain_low {m o : Int × Int} {n : Int} (ho : 0 < o.2) (h : ltQ m (plainQ o n)) : ltQ m (plainQ (lowQ o.1 o.2) n) := by
  obtain ⟨g, hg, a1, a2⟩ := low_mul (t := o.1) ho
  have h' : m.1 * o.2 < (o.1 + n * o.2) * m.2 := h
  show m.1 * (lowQ o.1 o.2).2 < ((lowQ o.1 o.2).1 + n * (lowQ o.1 o.2).2) * m.2
  refine Int.lt_of_mul_lt_mul_right (a := g) ?_ (Int.le_of_lt hg)
  have e1 : m.1 * (lowQ o.1 o.2).2 * g = m.1 * o.2 := by rw [Int.mul_assoc, a2]
  have e2 : ((lowQ o.1 o.2).1 + n * (lowQ o.1 o.2).2) * m.2 * g = (o.1 + n * o.2) * m.2 := by
    have : ((lowQ o.1 o.2).1 + n * (lowQ o.1 o.2).2) * g = o.1 + n * o.2 := by rw [Int.add_mul, Int.mul_assoc, a1, a2]
    rw [Int.mul_assoc, Int.mul_comm m.2 g, ← Int.mul_assoc, this]
  rw [e1, e2]
  exact h'
theorem low_le {o : Int × Int} (ho : 0 < o.2) (h : o.1 ≤ o.2) : (lowQ o.1 o.2).1 ≤ (lowQ o.1 o.2).2 := by
  obtain ⟨g, hg, a1, a2⟩ := low_mul (t := o.1) ho
  exact Int.le_of_mul_le_mul_right (by rw [a1, a2]; exact h) hg
end LW
set_option Elab.async false
set_option linter.all false
set_option maxRecDepth 100000
set_option maxHeartbeats 4000100
set_option exponentiation.threshold 9000
namespace LW
open L2 PySem.Spec PyProof.Rows PySem
abbrev s__law_pool : Stmt := topS 56
theorem sc__law_pool : FnScope ["_law_script", "_law_at_here", "_law_mixed", "_law_cell", "_law_own"] ["_law_script", "_law_at_here"] (defScope s__law_pool) := ⟨rfl, rfl, rfl, by decide +kernel, rfl, by decide +kernel, by decide +kernel⟩
abbrev s__law_draw : Stmt := topS 57
theorem sc__law_draw : FnScope ["_law_pool_here", "_law_many", "_law_seed", "_law_digit"] ["_law_pool_here", "_law_many"] (defScope s__law_draw) := ⟨rfl, rfl, rfl, by decide +kernel, rfl, by decide +kernel, by decide +kernel⟩
abbrev s__law_pick : Stmt := topS 58
theorem sc__law_pick : FnScope ["_law_pool_here", "_law_things"] ["_law_pool_here", "_law_things"] (defScope s__law_pick) := ⟨rfl, rfl, rfl, by decide +kernel, rfl, by decide +kernel, by decide +kernel⟩
local macro_rules | `(tactic| walk_at "len") => `(tactic| skip)
/-! ### the draws -/
theorem np60 {y m : Int} (h0 : 0 < m) (h1 : m < 1152921504606846976) : CDivP y m := by
  have e : (2 : Nat) ^ 60 = 1152921504606846976 := by decide
  exact ⟨h0, PyProof.noPylong_of_log2 (Nat.lt_trans (PySem.Flt.log2_lt_of (k := 60) (by decide) (by omega)) (by decide))⟩
/-- the pool: a list of three ints at a, changed by each draw -/
structure PoolAt (H : Hp) (a : Addr) : Prop where
  ex : ∃ x y z : Int, H a = some (.lst [.int x, .int y, .int z]) ∧ 0 ≤ x ∧ x < 2147483629 ∧ 0 ≤ y ∧ 0 ≤ z
theorem PoolAt.ne {H : Hp} {a : Addr} (t : PoolAt H a) : H a ≠ none := by
  obtain ⟨x, y, z, e, _⟩ := t.ex
  rw [e]; exact fun z => nomatch z
theorem PoolAt.keep {H H' : Hp} {a : Addr} (t : PoolAt H a) (s : Same H H') : PoolAt H' a := by
  obtain ⟨x, y, z, e, r⟩ := t.ex
  exact ⟨x, y, z, s _ _ e, r⟩
section
variable {P : Program} {w : World} {K : PySem.W.Frag} {mg : Str → Option Value} {base : Heap} {c : Addr} {TLb : List (Addr × Str)}
/-- _law_pool(script, k) -/
def sp__law_pool (K : PySem.W.Frag) (c : Addr) : Sp := fun vs H Q _ => ∃ (a : Addr) (ns : List Int) (k : Int), vs = [.ref a, .int k] ∧ SqL K H a (ns.map V.int) ∧ ns.length ≤ 1000 ∧ 0 ≤ k ∧ k < 1000 ∧
  ∀ p H', Same H H' → H p = none → PoolAt H' p → Q (.ref p) H'
theorem cal__law_pool (B : Bl mg) (DD : OwnDef K mg "_law_pool" s__law_pool)   : Cal P w K mg base 1 "_law_pool" (sp__law_pool K c) [] := by
  obtain ⟨f, fd, F, hm⟩ := DD.ex
  refine ⟨f, fd, ["_law_script", "_law_at_here"], [], F.ok sc__law_pool (fun vs H Q E h => ?len) (fun cdv A outer s H vs Q E hr h => ?run), hm, F.kp, F.binds (fun _ _ _ _ _ _ us hl => match us, hl with | [_, _], _ => rfl), .nil⟩
  case len => first | (obtain ⟨_, rfl, _⟩ := h; rfl) | (obtain ⟨_, _, rfl, _⟩ := h; rfl) | (obtain ⟨_, _, _, rfl, _⟩ := h; rfl) | (obtain ⟨_, _, _, _, rfl, _⟩ := h; rfl) | (obtain ⟨_, _, _, _, _, rfl, _⟩ := h; rfl) | (obtain ⟨_, _, _, _, _, _, rfl, _⟩ := h; rfl) | (obtain ⟨_, _, _, _, _, _, _, rfl, _⟩ := h; rfl) | (obtain ⟨_, _, _, _, _, _, _, _, rfl, _⟩ := h; rfl) | (obtain ⟨_, _, _, _, _, _, _, _, _, rfl, _⟩ := h; rfl) | (obtain ⟨_, _, _, _, _, _, _, _, _, _, rfl, _⟩ := h; rfl) | (obtain ⟨_, _, _, _, _, _, _, _, _, _, _, rfl, _⟩ := h; rfl) | (obtain ⟨_, _, _, _, _, _, _, _, _, _, _, _, rfl, _⟩ := h; rfl) | (obtain ⟨_, _, _, _, _, _, _, _, _, _, _, _, _, rfl, _⟩ := h; rfl) | (obtain ⟨_, _, _, _, _, _, _, _, _, _, _, _, _, _, rfl, _⟩ := h; rfl)
  case run =>
    obtain ⟨a, ns, k, rfl, hS, hn, hk, hk2, q⟩ := h
    refine ⟨_, (pss_cons (ps_set (i := 2) sc__law_pool.nd rfl (Or.inl rfl) (pe_op op_add pe_int (pe_op op_mul pe_int (pv 1))))
      (pss_cons (ps_for PassesOwn.never rfl (pi_list (pe_slice sl_list (pv 0) po_none (po_some pe_int))) (pg_name (i := 3) sc__law_pool.nd rfl (Or.inl rfl)) (pss_one (ps_set (i := 2) sc__law_pool.nd rfl (Or.inl rfl) (pe_op op_mod (pe_callTy call_int1 (by rfl) B.int (by decide +kernel) (pa_cons (pe_op op_add (pe_op op_mul (pv 2) pe_int) (pe_op op_mod (pe_callTy call_int1 (by rfl) B.int (by decide +kernel) (pa_cons (pv 3) pa_nil)) pe_int)) pa_nil)) pe_int))))
      (pss_cons (ps_set (i := 4) sc__law_pool.nd rfl (Or.inl rfl) (pe_ifExp (pt_cmpR op_lt (pv 1) (pe_callB call_len_seq (by rfl) B.len (by decide +kernel) (pa_cons (pv 0) pa_nil)) (nomark _)) (pe_callTy call_int1 (by rfl) B.int (by decide +kernel) (pa_cons (pe_ix ix_seq (pv 0) (pv 1) (fun _ _ => rfl)) pa_nil)) (pe_op op_add (pe_op op_mul pe_int (pv 1)) pe_int)))
      (pss_one (ps_ret (pe_lst (pa_cons (pe_op op_mod (pe_callTy call_int1 (by rfl) B.int (by decide +kernel) (pa_cons (pe_op op_add (pv 2) (pv 4)) pa_nil)) pe_int) (pa_cons (pe_ifExp (PW.pt (pw_or (pt_cmpR op_lt (pv 4) pe_int (nomark _)) (pw_or1 (pt_cmpR op_ge (pv 4) (pe_op op_pow pe_int pe_int) (nomark _))))) (pe_callB call_abs (by rfl) B.abs (by decide +kernel) (pa_cons (pv 4) pa_nil)) pe_int) (pa_cons pe_int pa_nil))))))))), ?_⟩
    refine ⟨_, rfl, _, _, rfl, rfl, .inl ⟨by decide, by decide⟩, _, _, rfl, rfl, ?_⟩
    refine ⟨_, rfl, _, rfl, a, _, rfl, hS, fun l nl => ?_⟩
    have eC : ∃ ms : List Int, cutV (ns.map V.int) none (some 20) = ms.map V.int := ⟨(ns.drop (HT.sIx (ns.map V.int).length 0 none)).take (HT.sIx (ns.map V.int).length (ns.map V.int).length (some 20) - HT.sIx (ns.map V.int).length 0 none), by
      unfold cutV
      rw [List.map_take, List.map_drop]⟩
    obtain ⟨ms, eC⟩ := eC
    rw [eC]
    have s1 : Same H (upd H l (.lst (ms.map V.int))) := same_new nl
    refine ⟨l, rfl, ⟨_, .inl (.inl upd_same)⟩, for_list (K := K) (a := l) (xs := ms.map V.int) (fun i σ H2 => ∃ (m : Int) (e3 : Option V), σ = [some (.ref a), some (.int k), some (.int m), e3, none] ∧ H2 = upd H l (.lst (ms.map V.int)))
      ⟨_, none, rfl, rfl⟩ (fun i σ H2 _ ⟨_, _, _, e⟩ => by rw [e]; exact .inl (.inl upd_same)) ?_ ?_⟩
    · rintro i y σ H2 hi ⟨m, e3, rfl, rfl⟩
      obtain ⟨z, _, rfl⟩ := some_map hi
      refine ⟨_, rfl, _, _, rfl, rfl, .inr ⟨by decide, by decide⟩, _, rfl, .inl ⟨_, rfl, _, _, rfl, rfl, (by show (0 : Int) < 2147483629; decide), _, _, rfl, rfl, .inl ⟨_, rfl, _, _, rfl, rfl, (by show (0 : Int) < 2147483629; decide), ?_⟩⟩⟩
      exact ⟨_, _, rfl, rfl⟩
    · rintro σ H2 ⟨m, e3, rfl, rfl⟩
      have hS1 : SqL K (upd H l (.lst (ms.map V.int))) a (ns.map V.int) := s1.seq hS
      dsimp only [tSeq, tAsg]
      refine via (t := tIf _ _ _) (fun v H' => H' = upd H l (.lst (ms.map V.int)) ∧ ∃ own : Int, v = .int own) (fun Q' k' => ?_) ?_
      · refine ⟨_, rfl, _, rfl, a, _, rfl, .inl hS1, _, _, rfl, rfl, _, rfl, ?_⟩
        refine ite2 (fun e => ?_) (fun e => ?_)
        · have e' : k < ((ns.map V.int).length : Int) := of_decide_eq_true e
          rw [List.length_map] at e'
          have hk3 : k.toNat < ns.length := by omega
          refine ⟨_, rfl, _, rfl, rd_raw (w := V.int ns[k.toNat]) hS1 hk (map_some (List.getElem?_eq_getElem hk3)) ?_⟩
          exact .inl ⟨_, rfl, k' _ _ ⟨rfl, _, rfl⟩⟩
        · exact ⟨_, rfl, _, _, rfl, rfl, .inl ⟨by decide, by decide⟩, _, _, rfl, rfl, k' _ _ ⟨rfl, _, rfl⟩⟩
      rintro v H3 ⟨rfl, own, rfl⟩
      dsimp only [gName, tRet, tLst, tCons, tNil]
      refine ⟨_, rfl, _, rfl, _, _, rfl, rfl, .inl ⟨_, rfl, _, _, rfl, rfl, (by show (0 : Int) < 2147483629; decide), ?_⟩⟩
      refine via (t := tIf _ _ _) (fun v H' => H' = upd H l (.lst (ms.map V.int)) ∧ ∃ x : Int, v = .int x ∧ 0 ≤ x) (fun Q' k' => ?_) ?_
      · refine ⟨_, rfl, _, _, rfl, rfl, _, rfl, ite2 (fun e => ?_) (fun e => ?_)⟩
        · refine iteT ?_
          refine ⟨_, rfl, own, rfl, k' _ _ ⟨rfl, _, rfl, ?_⟩⟩
          have e' : own < 0 := of_decide_eq_true e
          rw [if_pos e']
          omega
        · have e0 : ¬ own < 0 := fun z => e (decide_eq_true z)
          refine ⟨_, rfl, _, _, rfl, rfl, (by refine ⟨by decide, by decide, by decide⟩), _, _, rfl, rfl, _, rfl, ite2 (fun e2 => ?_) (fun e2 => ?_)⟩
          · refine ⟨_, rfl, own, rfl, k' _ _ ⟨rfl, _, rfl, ?_⟩⟩
            rw [if_neg e0]
            omega
          · exact k' _ _ ⟨rfl, _, rfl, Int.le_refl 0⟩
      rintro v H3 ⟨rfl, x, rfl, hx⟩
      refine ⟨by show 3 ≤ sizeLine; decide, fun p np => ?_⟩
      refine q p _ (s1.trans (same_new np)) (s1.free np) ⟨_, x, 0, upd_same, ?_, ?_, hx, Int.le_refl 0⟩
      · exact Int.emod_nonneg _ (by decide)
      · exact Int.emod_lt_of_pos _ (by decide)
/-- _law_draw(pool, many) -/
def sp__law_draw (K : PySem.W.Frag) (c : Addr) : Sp := fun vs H Q _ => ∃ (a : Addr) (m : Int), vs = [.ref a, .int m] ∧ PoolAt H a ∧ 0 < m ∧ m < 1152921504606846976 ∧
  ∀ r H', 0 ≤ r → r < m → (∀ A, a ∈ A → Go A H H') → PoolAt H' a → Q (.int r) H'
theorem cal__law_draw (B : Bl mg) (DD : OwnDef K mg "_law_draw" s__law_draw)   : Cal P w K mg base 1 "_law_draw" (sp__law_draw K c) [] := by
  obtain ⟨f, fd, F, hm⟩ := DD.ex
  refine ⟨f, fd, ["_law_pool_here", "_law_many"], [], F.ok sc__law_draw (fun vs H Q E h => ?len) (fun cdv A outer s H vs Q E hr h => ?run), hm, F.kp, F.binds (fun _ _ _ _ _ _ us hl => match us, hl with | [_, _], _ => rfl), .nil⟩
  case len => first | (obtain ⟨_, rfl, _⟩ := h; rfl) | (obtain ⟨_, _, rfl, _⟩ := h; rfl) | (obtain ⟨_, _, _, rfl, _⟩ := h; rfl) | (obtain ⟨_, _, _, _, rfl, _⟩ := h; rfl) | (obtain ⟨_, _, _, _, _, rfl, _⟩ := h; rfl) | (obtain ⟨_, _, _, _, _, _, rfl, _⟩ := h; rfl) | (obtain ⟨_, _, _, _, _, _, _, rfl, _⟩ := h; rfl) | (obtain ⟨_, _, _, _, _, _, _, _, rfl, _⟩ := h; rfl) | (obtain ⟨_, _, _, _, _, _, _, _, _, rfl, _⟩ := h; rfl) | (obtain ⟨_, _, _, _, _, _, _, _, _, _, rfl, _⟩ := h; rfl) | (obtain ⟨_, _, _, _, _, _, _, _, _, _, _, rfl, _⟩ := h; rfl) | (obtain ⟨_, _, _, _, _, _, _, _, _, _, _, _, rfl, _⟩ := h; rfl) | (obtain ⟨_, _, _, _, _, _, _, _, _, _, _, _, _, rfl, _⟩ := h; rfl) | (obtain ⟨_, _, _, _, _, _, _, _, _, _, _, _, _, _, rfl, _⟩ := h; rfl)
  case run =>
    obtain ⟨a, m, rfl, tk, hm0, hm1, q⟩ := h
    refine ⟨_, (pss_cons (ps_asg (pe_op op_add (pe_ix ix_seq (pv 0) pe_int (fun _ _ => rfl)) pe_int) (pg_sub (pv 0) pe_int set_list))
      (pss_cons (ps_set (i := 2) sc__law_draw.nd rfl (Or.inl rfl) (pe_callTy call_int1 (by rfl) B.int (by decide +kernel) (pa_cons (pe_ix ix_seq (pv 0) pe_int (fun _ _ => rfl)) pa_nil)))
      (pss_cons (ps_asg (pe_op op_mod (pe_callTy call_int1 (by rfl) B.int (by decide +kernel) (pa_cons (pe_op op_add (pe_op op_add (pe_op op_mulW (pv 2) (pe_op op_add (pe_op op_mod (pe_callTy call_int1 (by rfl) B.int (by decide +kernel) (pa_cons (pv 2) pa_nil)) pe_int) pe_int)) (pe_op op_mul pe_int (pe_ix ix_seq (pv 0) pe_int (fun _ _ => rfl)))) pe_int) pa_nil)) pe_int) (pg_sub (pv 0) pe_int set_list))
      (pss_cons (ps_if (pt_cmpR op_gt (pe_ix ix_seq (pv 0) pe_int (fun _ _ => rfl)) pe_int (nomark _)) (pss_cons (ps_asg (pe_callB call_divmodW (by rfl) B.divmod (by decide +kernel) (pa_cons (pe_callTy call_int1 (by rfl) B.int (by decide +kernel) (pa_cons (pe_ix ix_seq (pv 0) pe_int (fun _ _ => rfl)) pa_nil)) (pa_cons (pv 1) pa_nil))) (pg_tup (by rfl) (pgs_cons (pg_sub (pv 0) pe_int set_list) (pgs_cons (pg_name (i := 3) sc__law_draw.nd rfl (Or.inl rfl)) pgs_nil))))
      (pss_one (ps_ret (pv 3)))) pss_nil)
      (pss_one (ps_ret (pe_op op_mod (pe_callTy call_int1 (by rfl) B.int (by decide +kernel) (pa_cons (pe_op op_fdiv (pe_ix ix_seq (pv 0) pe_int (fun _ _ => rfl)) pe_int) pa_nil)) (pv 1)))))))), ?_⟩
    obtain ⟨x, y, z, e, hx, hx2, hy, hz⟩ := tk.ex
    have hA : SqL K H a [.int x, .int y, .int z] := .inl (.inl e)
    refine ⟨_, rfl, rd_raw (w := V.int z) hA (by decide) rfl ?_⟩
    refine ⟨_, _, rfl, rfl, _, rfl, a, _, _, 2, rfl, rfl, e, rfl, ?_⟩
    have hB : SqL K (upd H a (.lst [.int x, .int y, .int (z + 1)])) a [.int x, .int y, .int (z + 1)] := .inl (.inl upd_same)
    refine ⟨_, rfl, rd_raw (w := V.int x) hB (by decide) rfl ?_⟩
    refine .inl ⟨_, rfl, _, rfl, _, rfl, .inl ⟨_, rfl, _, _, rfl, rfl, (by show (0 : Int) < 20011; decide), _, _, rfl, rfl, ?_⟩⟩
    have b1 : 0 ≤ x % 20011 := Int.emod_nonneg _ (by decide)
    have b2 : x % 20011 < 20011 := Int.emod_lt_of_pos _ (by decide)
    refine ⟨_, _, rfl, rfl, wide_mul (a := 31) (b := 17) (by omega) (by omega) (by decide) (by decide) (by decide), ?_⟩
    refine ⟨_, rfl, rd_raw (w := V.int (z + 1)) hB (by decide) rfl ?_⟩
    refine ⟨_, _, rfl, rfl, .inl ⟨by decide, by decide⟩, _, _, rfl, rfl, _, _, rfl, rfl, .inl ⟨_, rfl, _, _, rfl, rfl, (by show (0 : Int) < 2147483629; decide), ?_⟩⟩
    refine ⟨_, rfl, a, _, _, 0, rfl, rfl, upd_same, rfl, ?_⟩
    have hC : ∀ x', (upd (upd H a (.lst [.int x, .int y, .int (z + 1)])) a (.lst [.int x', .int y, .int (z + 1)])) a = some (.lst [.int x', .int y, .int (z + 1)]) := fun _ => upd_same
    have hD : ∀ x', SqL K (upd (upd H a (.lst [.int x, .int y, .int (z + 1)])) a (.lst [.int x', .int y, .int (z + 1)])) a [.int x', .int y, .int (z + 1)] := fun _ => .inl (.inl upd_same)
    refine ⟨_, rfl, rd_raw (w := V.int y) (hD _) (by decide) rfl ?_⟩
    refine ⟨_, _, rfl, rfl, _, rfl, ite2 (fun c1 => ?_) (fun c1 => ?_)⟩
    · refine ⟨_, rfl, rd_raw (w := V.int y) (hD _) (by decide) rfl ?_⟩
      refine .inl ⟨_, rfl, _, rfl, _, _, rfl, np60 hm0 hm1, fun p np => ?_⟩
      have npa : a ≠ p := ne_of_none upd_same np
      refine ⟨p, [.int (y / m), .int (y % m)], rfl, .inl (.inl upd_same), rfl, .int (y / m), [.int (y % m)], rfl, ?_⟩
      refine ⟨_, rfl, a, _, _, 1, rfl, rfl, by rw [upd_ne npa]; exact hC _, rfl, ?_⟩
      refine ⟨.int (y % m), [], rfl, rfl, _, rfl, ?_⟩
      refine q _ _ (Int.emod_nonneg _ (by omega)) (Int.emod_lt_of_pos _ hm0) (fun A hA => (((Go.chg hA).trans (Go.chg hA)).trans (Go.new np)).trans (Go.chg hA)) ⟨_, y / m, z + 1, upd_same, ?_, ?_, ?_, by omega⟩
      · exact Int.emod_nonneg _ (by decide)
      · exact Int.emod_lt_of_pos _ (by decide)
      · exact Int.ediv_nonneg hy (by omega)
    · refine ⟨_, rfl, rd_raw (w := _) (hD _) (by decide) rfl ?_⟩
      refine ⟨_, _, rfl, rfl, ⟨by decide, by decide⟩, .inl ⟨_, rfl, _, rfl, _, _, rfl, rfl, hm0, ?_⟩⟩
      refine q _ _ (Int.emod_nonneg _ (by omega)) (Int.emod_lt_of_pos _ hm0) (fun A hA => (Go.chg hA).trans (Go.chg hA)) ⟨_, y, z + 1, hC _, ?_, ?_, hy, by omega⟩
      · exact Int.emod_nonneg _ (by decide)
      · exact Int.emod_lt_of_pos _ (by decide)
end
end LW
set_option Elab.async false
set_option linter.all false
set_option maxRecDepth 100000
set_option maxHeartbeats 4000100
set_option exponentiation.threshold 9000
namespace LW
open L2 PySem.Spec PyProof.Rows PySem
/-- a rule in whole numbers: all marks and the offset times b -/
structure IR (b : Int) (ms : List Int) (s : Int) : Prop where
  b0 : 0 < b
  b1 : b < 10 ^ 25
  s0 : 0 ≤ s
  s1 : s ≤ b
  len : ms.length ≤ 8
  nn : ∀ m ∈ ms, 0 ≤ m
  inc : ∀ (i : Nat) (p q : Int), ms[i]? = some p → ms[i + 1]? = some q → p < q
  last : ∀ m, ms.getLast? = some m → m < (ms.length : Int) * b + s
theorem up_to {ms : List Int} (inc : ∀ (i : Nat) (p q : Int), ms[i]? = some p → ms[i + 1]? = some q → p < q) : ∀ (d i : Nat) (p q : Int), ms[i]? = some p → ms[i + d]? = some q → p + (d : Int) ≤ q
  | 0, i, p, q, h1, h2 => by rw [Nat.add_zero, h1] at h2; cases h2; omega
  | d + 1, i, p, q, h1, h2 => by
    have hl : i + (d + 1) < ms.length := (List.getElem?_eq_some_iff.mp h2).1
    have h3 : ms[i + d]? = some ms[i + d] := List.getElem?_eq_getElem (by omega)
    have a := up_to inc d i p _ h1 h3
    have b := inc (i + d) _ q h3 h2
    omega
theorem IR.under {b : Int} {ms : List Int} {s : Int} (r : IR b ms s) : ∀ m ∈ ms, m < (ms.length : Int) * b + s := by
  intro m hm
  obtain ⟨i, hi, e⟩ := List.mem_iff_getElem.mp hm
  have h1 : ms[i]? = some m := by rw [List.getElem?_eq_getElem hi, e]
  have h2 : ms[i + (ms.length - 1 - i)]? = some ms[ms.length - 1] := by
    rw [show i + (ms.length - 1 - i) = ms.length - 1 by omega]
    exact List.getElem?_eq_getElem (by omega)
  have h3 := up_to r.inc _ i m _ h1 h2
  have h4 := r.last ms[ms.length - 1] (by rw [List.getLast?_eq_getElem?]; exact List.getElem?_eq_getElem (by omega))
  omega
theorem IR.bnd {b : Int} {ms : List Int} {s : Int} (r : IR b ms s) : ∀ m ∈ ms, m < 10 ^ 27 := by
  intro m hm
  have h := r.under m hm
  have hb := r.b0
  have hb1 := r.b1
  have hs := r.s1
  have h2 : (ms.length : Int) * b ≤ 8 * b := Int.mul_le_mul_of_nonneg_right (by have := r.len; omega) (by omega)
  omega
theorem low_lt_r {m b : Int} {q : Int × Int} (hb : 0 < b) (h : m * q.2 < q.1 * b) : ltQ (lowQ m b) q := by
  obtain ⟨g, hg, a1, a2⟩ := low_mul (t := m) hb
  show (lowQ m b).1 * q.2 < q.1 * (lowQ m b).2
  refine Int.lt_of_mul_lt_mul_right (a := g) ?_ (Int.le_of_lt hg)
  rw [← a1] at h
  have h' : (lowQ m b).1 * g * q.2 < q.1 * ((lowQ m b).2 * g) := by rw [a2]; exact h
  grind
theorem OkW.low {m b : Int} (m0 : 0 ≤ m) (b0 : 0 < b) (m1 : m < 10 ^ 50) (b1 : b < 10 ^ 50) : OkW (lowQ m b) := by
  have h1 := low_le1 (b := b) m0
  have h2 := low_le2 (t := m) (Int.le_of_lt b0)
  exact ⟨low_nn m0, low_pos b0, by omega, by omega⟩
def lowL (b : Int) (ms : List Int) : List (Int × Int) := ms.map fun m => lowQ m b
theorem lowL_get {b : Int} {ms : List Int} {i : Nat} {p : Int × Int} (h : (lowL b ms)[i]? = some p) : ∃ m, ms[i]? = some m ∧ p = lowQ m b := some_map h
theorem IR.vr {b : Int} {ms : List Int} {s : Int} (r : IR b ms s) : VR (lowQ s b) (lowL b ms) where
  ok := OkW.low r.s0 r.b0 (by have := r.s1; have := r.b1; omega) (by have := r.b1; omega)
  low := low_low r.s0 r.b0
  le1 := low_le (o := (s, b)) r.b0 r.s1
  len := by unfold lowL; rw [List.length_map]; exact r.len
  oks := by
    intro q hq
    obtain ⟨m, hm, rfl⟩ := List.mem_map.mp hq
    have h1 := r.bnd m hm
    have h2 := r.nn m hm
    exact ⟨OkW.low h2 r.b0 (by omega) (by have := r.b1; omega), low_low h2 r.b0⟩
  inc := by
    intro i p q hp hq
    obtain ⟨m, hm, rfl⟩ := lowL_get hp
    obtain ⟨n, hn, rfl⟩ := lowL_get hq
    exact low_lt r.b0 (r.inc i m n hm hn)
  last := by
    intro p hp
    unfold lowL at hp
    rw [List.getLast?_map] at hp
    cases e : ms.getLast? with
    | none => rw [e] at hp; cases hp
    | some m =>
      rw [e] at hp
      have z : lowQ m b = p := Option.some.inj hp
      subst z
      have h := r.last m e
      have hb := r.b0
      unfold lowL
      rw [List.length_map]
      refine plain_low (o := (s, b)) hb (low_lt_r hb ?_)
      show m * b < (s + (ms.length : Int) * b) * b
      exact Int.mul_lt_mul_of_pos_right (by omega) hb
/-- the mark with a number, times b -/
def atM (b : Int) (ms : List Int) (s : Int) (k : Nat) : Int := if k < ms.length then ms.getD k 0 else (k : Int) * b + s
theorem IR.mark {b : Int} {ms : List Int} {s : Int} (r : IR b ms s) (k : Nat) : (markQ (lowQ s b) (lowL b ms) ((k : Nat) : Int)).1 * b = atM b ms s k * (markQ (lowQ s b) (lowL b ms) ((k : Nat) : Int)).2 ∧ 0 < (markQ (lowQ s b) (lowL b ms) ((k : Nat) : Int)).2 := by
  have hb := r.b0
  have e : ∀ m : Int, (lowQ m b).1 * b = m * (lowQ m b).2 ∧ 0 < (lowQ m b).2 := fun m => by
    obtain ⟨g, hg, a1, a2⟩ := low_mul (t := m) hb
    refine ⟨?_, low_pos hb⟩
    generalize (lowQ m b).1 = x at *
    generalize (lowQ m b).2 = y at *
    subst a1
    subst a2
    grind
  unfold markQ atM
  have hl : (lowL b ms).length = ms.length := List.length_map _
  by_cases hk : k < ms.length
  · rw [if_pos (by omega), if_pos hk]
    have : (lowL b ms).getD (((k : Nat) : Int)).toNat (0, 1) = lowQ (ms.getD k 0) b := by
      have hk2 : k < (lowL b ms).length := by omega
      simp only [Int.toNat_natCast, List.getD_eq_getElem?_getD]
      rw [List.getElem?_eq_getElem hk2, List.getElem?_eq_getElem hk]
      simp [lowL]
    rw [this]
    exact e _
  · rw [if_neg (by omega), if_neg hk]
    obtain ⟨e1, e2⟩ := e s
    refine ⟨?_, e2⟩
    show ((lowQ s b).1 + (k : Int) * (lowQ s b).2) * b = ((k : Int) * b + s) * (lowQ s b).2
    grind
end LW
set_option Elab.async false
set_option linter.all false
set_option maxRecDepth 100000
set_option maxHeartbeats 4000100
set_option exponentiation.threshold 9000
namespace LW
open L2 PySem.Spec PyProof.Rows PySem
theorem range_get {n i j : Nat} (h : (List.range n)[i]? = some j) : i < n ∧ i = j := by
  obtain ⟨hi, e⟩ := List.getElem?_eq_some_iff.mp
        h
  rw [List.getElem_range] at e
  rw [List.length_range] at hi
  exact ⟨hi, e⟩
theorem sum_take_succ {T : List Int} {j : Nat} {x : Int} (h : T[j]? = some x) : (T.take (j + 1)).sum = (T.take j).sum + x := by
  rw [List.take_add_one, h, List.sum_append]
  simp
theorem sum_between {T : List Int} {lo hi : Int} (h : ∀ d ∈ T, lo ≤ d ∧ d ≤ hi) : (T.length : Int) * lo ≤ T.sum ∧ T.sum ≤ (T.length : Int) * hi := by
  induction T with
  | nil => simp
  | cons x T ih =>
    have h1 := h x (by simp)
    have h2 := ih fun d hd => h d (by simp [hd])
    have e : ((x :: T).length : Int) = (T.length : Int) + 1 := by simp
    rw [e, List.sum_cons, Int.add_mul, Int.add_mul, Int.one_mul, Int.one_mul]
    omega
theorem IR.sums {bt sh d0 : Int} {ds : List Int} (hb : 0 < bt) (hb1 : bt < 10 ^ 13) (s0 : 0 ≤ sh) (s1 : sh ≤ bt) (n : ds.length ≤ 8) (n0 : 0 < ds.length) (h0 : 0 ≤ d0 ∧ d0 ≤ 1000) (hd : ∀ d ∈ ds, 1 ≤ d ∧ d ≤ 1000) :
    IR (bt * (d0 :: ds).sum) ((List.range ds.length).map fun i => ((ds.length : Int) * bt + sh) * ((d0 :: ds).take (i + 1)).sum) (sh * (d0 :: ds).sum) ∧ bt * (d0 :: ds).sum < 10 ^ 20 := by
  obtain ⟨x1, x2⟩ := sum_between (T := ds) (lo := 1) (hi := 1000) hd
  have eW : (d0 :: ds).sum = d0 + ds.sum := List.sum_cons
  have w0 : 0 < (d0 :: ds).sum := by omega
  have w1 : (d0 :: ds).sum ≤ 10000 := by omega
  have tp : 0 < (ds.length : Int) * bt + sh := by
    have : 1 * bt ≤ (ds.length : Int) * bt := Int.mul_le_mul_of_nonneg_right (by omega) (by omega)
    omega
  have pos : ∀ i : Nat, i < ds.length → 0 ≤ ((d0 :: ds).take (i + 1)).sum := by
    intro i hi
    have := (sum_between (T := (d0 :: ds).take (i + 1)) (lo := 0) (hi := 1000) fun d hd' => by
      rcases List.mem_cons.mp (List.mem_of_mem_take hd') with z | z
      · rw [z]; exact h0
      · have := hd d z; omega).1
    omega
  have up : ∀ i : Nat, i < ds.length → ((d0 :: ds).take (i + 1)).sum < ((d0 :: ds).take (i + 2)).sum := by
    intro i hi
    have e : (d0 :: ds)[i + 1]? = some ds[i] := by simp [hi]
    have := (hd ds[i] (List.getElem_mem hi)).1
    rw [show i + 2 = (i + 1) + 1 from rfl, sum_take_succ e]
    omega
  have bw : bt * (d0 :: ds).sum < 10 ^ 20 := by
    have a1 : bt * (d0 :: ds).sum ≤ bt * 10000 := Int.mul_le_mul_of_nonneg_left w1 (by omega)
    omega
  refine ⟨⟨Int.mul_pos hb w0, by omega, Int.mul_nonneg s0 (by omega), Int.mul_le_mul_of_nonneg_right s1 (by omega), by simpa using n, ?_, ?_, ?_⟩, bw⟩
  · intro m hm
    obtain ⟨i, hi, rfl⟩ := List.mem_map.mp hm
    exact Int.mul_nonneg (by omega) (pos i (List.mem_range.mp hi))
  · intro i p q hp hq
    obtain ⟨j, hj, rfl⟩ := some_map hp
    obtain ⟨j', hj', rfl⟩ := some_map hq
    have a1 : i < ds.length ∧ i = j := range_get hj
    have a2 : i + 1 < ds.length ∧ i + 1 = j' := range_get hj'
    obtain ⟨a1, rfl⟩ := a1
    obtain ⟨a2, rfl⟩ := a2
    exact Int.mul_lt_mul_of_pos_left (up i a1) tp
  · intro m hm
    rw [List.getLast?_map] at hm
    obtain ⟨n', hn'⟩ : ∃ n', ds.length = n' + 1 := ⟨ds.length - 1, by omega⟩
    rw [hn', List.range_succ, List.getLast?_append] at hm
    simp only [List.getLast?_singleton, Option.some_or, Option.map_some, Option.some.injEq] at hm
    subst hm
    have u := up n' (by omega)
    have full : (d0 :: ds).take (n' + 2) = d0 :: ds := List.take_of_length_le (by rw [List.length_cons]; omega)
    rw [full] at u
    have z := Int.mul_lt_mul_of_pos_left u tp
    rw [List.length_map, List.length_range, hn']
    rw [hn'] at z
    have e : (((n' + 1 : Nat) : Int) * bt + sh) * (d0 :: ds).sum = ((n' + 1 : Nat) : Int) * (bt * (d0 :: ds).sum) + sh * (d0 :: ds).sum := by grind
    rw [← e]
    exact z
/-- the marks of an offset, twice -/
def evens (bt sh : Int) (n : Nat) : List Int := (List.range n).map fun (i : Nat) => 2 * (bt * (i : Int) + sh)
theorem evens_get {bt sh : Int} {n i : Nat} {p : Int} (h : (evens bt sh n)[i]? = some p) : i < n ∧ p = 2 * (bt * (i : Int) + sh) := by
  obtain ⟨j, hj, rfl⟩ := some_map h
  have a1 : i < n ∧ i = j := range_get hj
  obtain ⟨a1, rfl⟩ := a1
  exact ⟨a1, rfl⟩
theorem IR.moved {bt sh y : Int} {n at_ : Nat} (hb : 0 < bt) (hb1 : bt < 10 ^ 13) (s0 : 0 ≤ sh) (s1 : sh ≤ bt) (n8 : n ≤ 8) (ha : at_ < n)
    (y0 : 0 ≤ y) (lo : at_ ≠ 0 → 2 * (bt * (at_ : Int) + sh) - 2 * bt < y) (hi : y < 2 * (bt * (at_ : Int) + sh) + 2 * bt) : IR (2 * bt) ((evens bt sh n).set at_ y) (2 * sh) ∧ 2 * bt < 10 ^ 20 := by
  have ln : (evens bt sh n).length = n := by simp [evens]
  have step : ∀ i : Nat, bt * ((i + 1 : Nat) : Int) = bt * (i : Int) + bt := fun i => by
    have : ((i + 1 : Nat) : Int) = (i : Int) + 1 := by omega
    rw [this, Int.mul_add, Int.mul_one]
  have nn : ∀ i : Nat, 0 ≤ bt * (i : Int) := fun i => Int.mul_nonneg (by omega) (by omega)
  refine ⟨⟨by omega, by omega, by omega, by omega, by rw [List.length_set, ln]; exact n8, ?_, ?_, ?_⟩, by omega⟩
  · intro m hm
    rcases List.mem_or_eq_of_mem_set hm with z | z
    · obtain ⟨i, hi', e⟩ := List.mem_iff_getElem.mp z
      obtain ⟨_, rfl⟩ := evens_get (by rw [List.getElem?_eq_getElem hi', e])
      have := nn i
      omega
    · rw [z]; exact y0
  · intro i p q hp hq
    rw [List.getElem?_set] at hp hq
    have si := step i
    by_cases h1 : at_ = i
    · rw [if_pos h1] at hp
      rw [if_neg (by omega)] at hq
      subst h1
      rw [if_pos (by omega)] at hp
      cases hp
      obtain ⟨_, rfl⟩ := evens_get hq
      omega
    · rw [if_neg h1] at hp
      obtain ⟨_, rfl⟩ := evens_get hp
      by_cases h2 : at_ = i + 1
      · rw [if_pos h2, if_pos (by omega)] at hq
        cases hq
        have := lo (by omega)
        rw [h2] at this
        omega
      · rw [if_neg h2] at hq
        obtain ⟨_, rfl⟩ := evens_get hq
        omega
  · intro m hm
    rw [List.getLast?_eq_getElem?, List.length_set, ln, List.getElem?_set] at hm
    rw [List.length_set, ln]
    obtain ⟨n', rfl⟩ : ∃ n', n = n' + 1 := ⟨n - 1, by omega⟩
    have sn := step n'
    have e : ((n' + 1 : Nat) : Int) * (2 * bt) = 2 * (bt * ((n' + 1 : Nat) : Int)) := by grind
    rw [e]
    simp only [Nat.add_sub_cancel] at hm
    by_cases h1 : at_ = n'
    · rw [if_pos h1, if_pos (by omega)] at hm
      cases hm
      subst h1
      omega
    · rw [if_neg h1] at hm
      obtain ⟨_, rfl⟩ := evens_get hm
      omega
/-- a rule without a head -/
theorem IR.bare {b s : Int} (hb : 0 < b) (hb1 : b < 10 ^ 25) (s0 : 0 ≤ s) (s1 : s ≤ b) : IR b [] s :=
  ⟨hb, hb1, s0, s1, (by simp), (fun m hm => by cases hm), (fun i p q h => by simp at h), (fun m h => by simp at h)⟩
theorem Go.own {A : List Addr} {H H' : Hp} {D : Addr} {o : HO} (n : H D = none) (g : Go A H H') : Go A H (upd H' D o) :=
  ⟨fun b u hb e => by rw [upd_ne (ne_of_none e n)]; exact g.keep b u hb e, fun hd b hb z => by
    by_cases q : b = D
    · subst q; rw [upd_same] at z; cases z
    · rw [upd_ne q] at z; exact g.held hd b hb z⟩
theorem PoolAt.own {H : Hp} {a D : Addr} {o : HO} (t : PoolAt H a) (n : a ≠ D) : PoolAt (upd H D o) a := by
  obtain ⟨x, y, z, e, r⟩ := t.ex
  exact ⟨x, y, z, by rw [upd_ne n]; exact e, r⟩
end LW
set_option Elab.async false
set_option linter.all false
set_option maxRecDepth 100000
set_option maxHeartbeats 4000100
set_option exponentiation.threshold 9000
set_option Elab.async false
set_option linter.all false
set_option maxRecDepth 100000
set_option maxHeartbeats 4000100
set_option exponentiation.threshold 9000
set_option Elab.async false
set_option linter.all false
set_option maxRecDepth 100000
set_option maxHeartbeats 4000100
set_option exponentiation.threshold 9000
/-! marks in whole numbers ascend; two rules compared -/
namespace LW
open L2 PySem.Spec PyProof.Rows PySem
/-- marks ascend -/
theorem IR.step {b s : Int} {ms : List Int} (r : IR b ms s) (k : Nat) : atM b ms s k < atM b ms s (k + 1) := by
  have hb := r.b0
  unfold atM
  by_cases h1 : k + 1 < ms.length
  · rw [if_pos (by omega), if_pos h1]
    refine r.inc k _ _ ?_ ?_
    · rw [List.getD_eq_getElem?_getD, List.getElem?_eq_getElem (by omega)]; rfl
    · rw [List.getD_eq_getElem?_getD, List.getElem?_eq_getElem (by omega)]; rfl
  · rw [if_neg h1]
    by_cases h2 : k < ms.length
    · rw [if_pos h2]
      have e : ms[k]? = some (ms.getD k 0) := by rw [List.getD_eq_getElem?_getD, List.getElem?_eq_getElem h2]; rfl
      have u := r.under _ (List.mem_of_getElem? e)
      have : ms.length = k + 1 := by omega
      rw [this] at u
      exact u
    · rw [if_neg h2]
      have : ((k + 1 : Nat) : Int) * b = (k : Int) * b + b := by
        have : ((k + 1 : Nat) : Int) = (k : Int) + 1 := by omega
        rw [this, Int.add_mul,
              Int.one_mul]
      omega
theorem IR.nn0 {b s : Int} {ms : List Int} (r : IR b ms s) (k : Nat) : 0 ≤ atM b ms s k := by
  induction k with
  | zero =>
    unfold atM
    split
    · rename_i h
      exact r.nn _ (by rw [List.getD_eq_getElem?_getD, List.getElem?_eq_getElem h]; exact List.getElem_mem h)
    · have := r.s0; omega
  | succ k ih => have := r.step k; omega
theorem IR.pos {b s : Int} {ms : List Int} (r : IR b ms s) {k : Nat} (h : 0 < k) : 0 < atM b ms s k := by
  have h1 := r.nn0 (k - 1)
  have h2 := r.step (k - 1)
  rw [show k - 1 + 1 = k by omega] at h2
  omega
end LW
set_option Elab.async false
set_option linter.all false
set_option exponentiation.threshold 9000
set_option maxHeartbeats 4000100
open L2 PySem.Spec PyProof.Rows PySem
namespace LW
theorem plain_low' {o : Int × Int} {n : Int} (a : 0 ≤ o.1) (b : 0 < o.2) (n0 : 0 ≤ n) (low : lowQ o.1 o.2 = o) : lowQ (plainQ o n).1 (plainQ o n).2 = plainQ o n := by
  have e1 : (Nat.gcd o.1.natAbs o.2.natAbs : Nat) = 1 := by
    have h2 : o.2 / ((Nat.gcd o.1.natAbs o.2.natAbs : Nat) : Int) = o.2 := congrArg Prod.snd low
    have gp : 0 < Nat.gcd o.1.natAbs o.2.natAbs := Nat.gcd_pos_of_pos_right _ (by omega)
    generalize Nat.gcd o.1.natAbs o.2.natAbs = g at h2 gp
    rcases Nat.lt_or_ge 1 g with hg | hg
    · have := Int.ediv_lt_self_of_pos_of_ne_one b (show ((g : Nat) : Int) ≠ 1 by omega)
      omega
    · omega
  have e2 : Nat.gcd (plainQ o n).1.natAbs (plainQ o n).2.natAbs = 1 := by
    show Nat.gcd (o.1 + n * o.2).natAbs o.2.natAbs = 1
    have e3 : (o.1 + n * o.2).natAbs = o.1.natAbs + n.natAbs * o.2.natAbs := by
      rw [← Int.natAbs_mul]
      have : 0 ≤ n * o.2 := Int.mul_nonneg n0 (Int.le_of_lt b)
      omega
    rw [e3, Nat.gcd_add_mul_right_left]
    exact e1
  show ((plainQ o n).1 / ((Nat.gcd (plainQ o n).1.natAbs (plainQ o n).2.natAbs : Nat) : Int), (plainQ o n).2 / ((Nat.gcd (plainQ o n).1.natAbs (plainQ o n).2.natAbs : Nat) : Int)) = _
  rw [e2]
  show ((plainQ o n).1 / 1, (plainQ o n).2 / 1) = _
  rw [Int.ediv_one, Int.ediv_one]
/-- a mark that is told -/
structure OkM (q : Int × Int) : Prop where
  a : 0 ≤ q.1
  a2 : q.1 < 10 ^ 100
  b : 0 < q.2
  b2 : q.2 < 10 ^ 100
  low : lowQ q.1 q.2 = q
theorem VR.mark {o : Int × Int} {hd : List (Int × Int)} {n : Int} (r : VR o hd) (n0 : 0 ≤ n) (n1 : n < 10 ^ 40) : OkM (markQ o hd n) := by
  have oa := r.ok.a
  have ob := r.ok.b
  have oa2 := r.ok.a2
  have ob2 := r.ok.b2
  by_cases h : n < ((hd.length : Nat) : Int)
  · have hi : n.toNat < hd.length := by omega
    have z : markQ o hd n = hd[n.toNat] := by
      unfold markQ
      rw [if_pos h]
      simp [List.getD, hi]
    rw [z]
    obtain ⟨ok, low⟩ := r.oks _ (List.getElem_mem hi)
    exact ⟨ok.a, Int.lt_trans ok.a2 (by decide), ok.b, Int.lt_trans ok.b2 (by decide), low⟩
  · have z : markQ o hd n = plainQ o n := by
      unfold markQ
      rw [if_neg h]
    rw [z]
    have h1 : n * o.2 ≤ 10 ^ 40 * 10 ^ 50 := Int.mul_le_mul (Int.le_of_lt n1) (Int.le_of_lt ob2) (Int.le_of_lt ob) (by decide)
    have h0 : 0 ≤ n * o.2 := Int.mul_nonneg n0 (Int.le_of_lt ob)
    refine ⟨?_, ?_, ob, Int.lt_trans ob2 (by decide), plain_low' oa ob n0 r.low⟩
    · show 0 ≤ o.1 + n * o.2
      omega
    · show o.1 + n * o.2 < 10 ^ 100
      have : (10 : Int) ^ 50 + 10 ^ 40 * 10 ^ 50 < 10 ^ 100 := by decide
      omega
end LW
set_option Elab.async false
set_option linter.all false
set_option maxRecDepth 100000
set_option maxHeartbeats 4000100
set_option exponentiation.threshold 9000
namespace LW
open L2 PySem.Spec PyProof.Rows PySem
/-- a rule in plain data -/
def ruD (o : Int × Int) (hd : List (Int × Int)) : Dt := .tup [.tup [.int o.1, .int o.2], .lst (hd.map fun q => .tup [.int q.1, .int q.2])]
/-- what is fixed: the rules, the tanks -/
def suR (K : PySem.W.Frag) (mg : Str → Option Value) (c : Addr) (TLb : List (Addr × Str)) : Su where
  K := K
  mg := mg
  ob := fun k d H v => k = 0 ∧ ∃ r o hd, v = .ref r ∧ d = ruD o hd ∧ VR o hd ∧ RuleAt K c [] H r o hd
  obm := fun s h => by
    obtain ⟨e, r, o, hd, e1, e2, vr, R⟩ := h
    exact ⟨e, r, o, hd, e1, e2, vr, R.same s⟩
  obr := fun h => by
    obtain ⟨e, r, o, hd, e1, _⟩ := h
    exact ⟨r, e1⟩
  md := fun k a H o => match k with
    | 0 => ∃ x y z : Int, o = .lst [.int x, .int y, .int z] ∧ 0 ≤ x ∧ x < 2147483629 ∧ 0 ≤ y ∧ 0 ≤ z
    | 1 => ∃ q, TLb.lookup a = some q ∧ TabO q H o
    | _ + 2 => False
  mdm := fun {k a H H' o} s h => by
    match k, h with
    | 0, h => exact h
    | 1, h =>
      obtain ⟨q, e, t⟩ := h
      exact ⟨q, e, t.mono s⟩
  must := TLb.map fun p => (p.1, 1)
/-! ### numbers, in plain data -/
def uIsInt : Dt → Bool
  | .int _ => true
  | _ => false
def prD (q : Int × Int) : Dt := .tup [.int q.1, .int q.2]
/-- the pair of a number -/
def numD : Dt → Option (Int × Int)
  | .int i => some (i, 1)
  | .tup [.int a, .int b] => some (a, b)
  | _ => none
/-- the kinds of plain data are known, up to the items of a tuple -/
def KnD : Dt → Prop
  | .tup l => ∀ d ∈ l, (tyD d).isSome = true
  | d => (tyD d).isSome = true
theorem KnD.ty {d : Dt} (h : KnD d) : (tyD d).isSome = true := by
  cases d <;> first | rfl | exact h
def uIsBl : Dt → Bool
  | .bl _ => true
  | _ => false
theorem ukI {d : Dt} (h : (tyD d).isSome = true) : ∃ t, tyD d = some t ∧ kitB t "int" = some (uIsInt d || uIsBl d) := by
  cases d with
  | non => exact ⟨_, rfl, (show kitB "NoneType" "int" = some false by decide +kernel)⟩
  | bl b => exact ⟨_, rfl, (show kitB "bool" "int" = some true by decide +kernel)⟩
  | int b => exact ⟨_, rfl, (show kitB "int" "int" = some true by decide +kernel)⟩
  | str b => exact ⟨_, rfl, (show kitB "str" "int" = some false by decide +kernel)⟩
  | lst b => exact ⟨_, rfl, (show kitB "list" "int" = some false by decide +kernel)⟩
  | tup b => exact ⟨_, rfl, (show kitB "tuple" "int" = some false by decide +kernel)⟩
  | dct => exact ⟨_, rfl, (show kitB "dict" "int" = some false by decide +kernel)⟩
  | ty n => cases h
  | tnk n => cases h
  | obj n d => cases h
  | fn n => cases h
theorem ukB {d : Dt} (h : (tyD d).isSome = true) : ∃ t, tyD d = some t ∧ kitB t "bool" = some (uIsBl d) := by
  cases d with
  | non => exact ⟨_, rfl, (show kitB "NoneType" "bool" = some false by decide +kernel)⟩
  | bl b => exact ⟨_, rfl, (show kitB "bool" "bool" = some true by decide +kernel)⟩
  | int b => exact ⟨_, rfl, (show kitB "int" "bool" = some false by decide +kernel)⟩
  | str b => exact ⟨_, rfl, (show kitB "str" "bool" = some false by decide +kernel)⟩
  | lst b => exact ⟨_, rfl, (show kitB "list" "bool" = some false by decide +kernel)⟩
  | tup b => exact ⟨_, rfl, (show kitB "tuple" "bool" = some false by decide +kernel)⟩
  | dct => exact ⟨_, rfl, (show kitB "dict" "bool" = some false by decide +kernel)⟩
  | ty n => cases h
  | tnk n => cases h
  | obj n d => cases h
  | fn n => cases h
section
variable {P : Program} {w : World} {K : PySem.W.Frag} {mg : Str → Option Value} {base : Heap} {c : Addr} {TLb : List (Addr × Str)}
def w_is_int : WS := (wRet (wAndV (wCal gIsi (wCons (wV 0) (wCons (wC (.ty "int")) wNil))) (wNotV (wCal gIsi (wCons (wV 0) (wCons (wC (.ty "bool")) wNil))))))
theorem pb_is_int (B : Bl mg)   : Bdy P w K mg base 0 "is_int" s_is_int ["value"] (suR K mg c TLb) w_is_int := fun f cdv A outer s H E hr quiet =>
      (xsOne (xsRet (xw (xAnd (xCB (pe_callB call_isi (by rfl) B.isinstance (by decide +kernel) (xWCons (xw (xV (pv 0))) (xWCons (xw (xTy (pe_bltn (v := .ty "int") (by rfl) B.int (by decide +kernel) rfl))) xWNil))) pIsi) (xOne (xNot (xCB (pe_callB call_isi (by rfl) B.isinstance (by decide +kernel) (xWCons (xw (xV (pv 0))) (xWCons (xw (xTy (pe_bltn (v := .ty "bool") (by rfl) B.bool (by decide +kernel) rfl))) xWNil))) pIsi)))))))
theorem pc_is_int (B : Bl mg) (DD : OwnDef K mg "is_int" s_is_int)   : CalG P w K mg base 1 "is_int" (spW (suR K mg c TLb) 1 (wFn 1 w_is_int)) [] :=
  calG_by DD sc_is_int rfl (fun fd f F => F.binds (fun _ _ _ _ _ _ us hl => match us, hl with | [_], _ => rfl)) (pb_is_int B )
def f_is_int : SpF := fun ds k _ => ∃ d, ds = [d] ∧ (tyD d).isSome = true ∧ k (.bl (uIsInt d))
theorem ok_is_int (ds k e) (ln : ds.length = 1) (h : f_is_int ds k e) : wFn 1 w_is_int ds k e := by
  obtain ⟨d, rfl, hd, hk⟩ := h
  obtain ⟨t, et, eb⟩ := ukI hd
  obtain ⟨t2, et2, eb2⟩ := ukB hd
  (simp only [a_wFn, a_wFnF, a_mapS, a_map0, List.replicate, a_appS, a_app0, a_lenS, a_len0, Nat.reduceAdd, Nat.reduceSub, Nat.zero_add]; unfold w_is_int; simp only [a_wFn, a_wSeq, a_wNx, a_wBk, a_wCt, a_wEx, a_wSet, a_wOwn, a_wAsg, a_wPar, a_wRet, a_wRetN, a_wRetF, a_wRetFO, a_wParO, a_wFnF, a_wIfS, a_wApp, a_wExt, a_wFrz, a_wAugI, a_wSetIx, a_wAugIx, a_wFor, a_lookL0, a_lookLS, a_look0, a_lookS, a_lookO0, a_lookO1, a_lookOS, a_wV, a_wO, a_wC, a_wBin, a_wUn, a_wTst, a_wTru, a_wAnd, a_wOr, a_wNot, a_wAndV, a_wOrV, a_wNotV, a_wIf, a_wCh, a_wNil, a_wCons, a_wStar, a_wTup, a_wLst, a_wCal, a_wCall, a_wCall0, a_wCallK, a_wCallB, a_wGot, a_noX, a_wCh3, a_wAugC, gInI_i, a_wCalK, a_wSl, a_wNo, a_wPart, a_wFld, a_wMth, a_wM0, a_wM1, a_wgN, a_wgNil, a_wgCons, a_wgT, a_wLc, a_wYes, a_itK, itK_lst, itK_tup, itK_str, seqD_lst, seqD_tup, a_wRg1, a_wRg2, a_wRg3, a_wEnumU, a_wEnumL, a_wZipU, a_wRevU, a_wComb, wipeD, a_mapS, a_map0, a_lenS, a_len0, List.replicate, a_appS, a_app0, a_set0, a_setS, Nat.reduceAdd, Nat.reduceSub, Nat.zero_add, true_and, and_true, gAdd_i, gAdd_s, gAdd_l, gAdd_t, gCat_l, gSub_i, gMul_i, gMul_l, gMul_t, gFdiv_i, gMod_i, gPow_i, gLt_i, gLe_i, gGt_i, gGe_i, gLen_l, gLen_t, gLen_s, gAbs_i, gToInt_i, gToInt_b, gToBl_i, gToBl_b, gToTup_l, gToTup_t, gToLst_l, gToLst_t, gMax2_i, gMin2_i, gNeg_i, gSl_l, gSl_t, gSl_s, gSlL_l, gRevL_l, gIsN_n, gIsN_b, gIsN_i, gIsN_s, gIsN_l, gIsN_t, gNotN_n, gNotN_b, gNotN_i, gNotN_s, gNotN_l, gNotN_t, truD, gEq_int, gNe_int, Bool.not_true, Bool.not_false])
  refine ⟨t, _, et, eb, ?_⟩
  cases d <;> first | exact hk | exact ⟨t2, _, et2, eb2, hk⟩
theorem cs_is_int (B : Bl mg) (DD : OwnDef K mg "is_int" s_is_int)   : CalG P w K mg base 1 "is_int" (spW (suR K mg c TLb) 1 f_is_int) [] :=
  (pc_is_int B DD ).imp (spW_mono fun ds k e ln h => ok_is_int ds k e ln h)
def w_is_count : WS := (wRet (wAndV (wCall0 1 f_is_int (wCons (wV 0) wNil)) (wBin gGe (wV 0) (wC (.int 0)))))
theorem pb_is_count (B : Bl mg) (C_is_int : CalG P w K mg base 1 "is_int" (spW (suR K mg c TLb) 1 f_is_int) [])  : Bdy P w K mg base 1 "is_count" s_is_count ["value"] (suR K mg c TLb) w_is_count := fun f cdv A outer s H E hr quiet =>
      (xsOne (xsRet (xw (xAnd (xCall0 (pe_cG quiet C_is_int hr (by decide) (by rfl) (xACons (xV (pv 0)) xANil))) (xOne (xCmp op_ge pGe (xw (xV (pv 0))) (xw (xInt pe_int)) (nomark _)))))))
theorem pc_is_count (B : Bl mg) (DD : OwnDef K mg "is_count" s_is_count) (C_is_int : CalG P w K mg base 1 "is_int" (spW (suR K mg c TLb) 1 f_is_int) [])  : CalG P w K mg base 2 "is_count" (spW (suR K mg c TLb) 1 (wFn 1 w_is_count)) [] :=
  calG_by DD sc_is_count rfl (fun fd f F => F.binds (fun _ _ _ _ _ _ us hl => match us, hl with | [_], _ => rfl)) (pb_is_count B C_is_int)
def uCount : Dt → Bool
  | .int i => decide (0 ≤ i)
  | _ => false
def f_is_count : SpF := fun ds k _ => ∃ d, ds = [d] ∧ (tyD d).isSome = true ∧ k (.bl (uCount d))
theorem ok_is_count (ds k e) (ln : ds.length = 1) (h : f_is_count ds k e) : wFn 1 w_is_count ds k e := by
  obtain ⟨d, rfl, hd, hk⟩ := h
  (simp only [a_wFn, a_wFnF, a_mapS, a_map0, List.replicate, a_appS, a_app0, a_lenS, a_len0, Nat.reduceAdd, Nat.reduceSub, Nat.zero_add]; unfold w_is_count; simp only [a_wFn, a_wSeq, a_wNx, a_wBk, a_wCt, a_wEx, a_wSet, a_wOwn, a_wAsg, a_wPar, a_wRet, a_wRetN, a_wRetF, a_wRetFO, a_wParO, a_wFnF, a_wIfS, a_wApp, a_wExt, a_wFrz, a_wAugI, a_wSetIx, a_wAugIx, a_wFor, a_lookL0, a_lookLS, a_look0, a_lookS, a_lookO0, a_lookO1, a_lookOS, a_wV, a_wO, a_wC, a_wBin, a_wUn, a_wTst, a_wTru, a_wAnd, a_wOr, a_wNot, a_wAndV, a_wOrV, a_wNotV, a_wIf, a_wCh, a_wNil, a_wCons, a_wStar, a_wTup, a_wLst, a_wCal, a_wCall, a_wCall0, a_wCallK, a_wCallB, a_wGot, a_noX, a_wCh3, a_wAugC, gInI_i, a_wCalK, a_wSl, a_wNo, a_wPart, a_wFld, a_wMth, a_wM0, a_wM1, a_wgN, a_wgNil, a_wgCons, a_wgT, a_wLc, a_wYes, a_itK, itK_lst, itK_tup, itK_str, seqD_lst, seqD_tup, a_wRg1, a_wRg2, a_wRg3, a_wEnumU, a_wEnumL, a_wZipU, a_wRevU, a_wComb, wipeD, a_mapS, a_map0, a_lenS, a_len0, List.replicate, a_appS, a_app0, a_set0, a_setS, Nat.reduceAdd, Nat.reduceSub, Nat.zero_add, true_and, and_true, gAdd_i, gAdd_s, gAdd_l, gAdd_t, gCat_l, gSub_i, gMul_i, gMul_l, gMul_t, gFdiv_i, gMod_i, gPow_i, gLt_i, gLe_i, gGt_i, gGe_i, gLen_l, gLen_t, gLen_s, gAbs_i, gToInt_i, gToInt_b, gToBl_i, gToBl_b, gToTup_l, gToTup_t, gToLst_l, gToLst_t, gMax2_i, gMin2_i, gNeg_i, gSl_l, gSl_t, gSl_s, gSlL_l, gRevL_l, gIsN_n, gIsN_b, gIsN_i, gIsN_s, gIsN_l, gIsN_t, gNotN_n, gNotN_b, gNotN_i, gNotN_s, gNotN_l, gNotN_t, truD, gEq_int, gNe_int, Bool.not_true, Bool.not_false])
  refine ⟨d, rfl, hd, ?_⟩
  cases d <;> exact hk
theorem cs_is_count (B : Bl mg) (DD : OwnDef K mg "is_count" s_is_count) (C_is_int : CalG P w K mg base 1 "is_int" (spW (suR K mg c TLb) 1 f_is_int) [])  : CalG P w K mg base 2 "is_count" (spW (suR K mg c TLb) 1 f_is_count) [] :=
  (pc_is_count B DD C_is_int).imp (spW_mono fun ds k e ln h => ok_is_count ds k e ln h)
def w_as_pair : WS := (wRet (wIf (wTst (wCal gIsi (wCons (wV 0) (wCons (wC (.ty "tuple")) wNil)))) (wV 0) (wTup (wCons (wV 0) (wCons (wC (.int 1)) wNil)))))
theorem pb_as_pair (B : Bl mg)   : Bdy P w K mg base 0 "as_pair" s_as_pair ["number"] (suR K mg c TLb) w_as_pair := fun f cdv A outer s H E hr quiet =>
      (xsOne (xsRet (xw (xIf (xTV (xCB (pe_callB call_isi (by rfl) B.isinstance (by decide +kernel) (xWCons (xw (xV (pv 0))) (xWCons (xw (xTy (pe_bltn (v := .ty "tuple") (by rfl) B.tuple (by decide +kernel) rfl))) xWNil))) pIsi)) (xV (pv 0)) (xTup (xACons (xV (pv 0)) (xACons (xInt pe_int) xANil)))))))
theorem pc_as_pair (B : Bl mg) (DD : OwnDef K mg "as_pair" s_as_pair)   : CalG P w K mg base 1 "as_pair" (spW (suR K mg c TLb) 1 (wFn 1 w_as_pair)) [] :=
  calG_by DD sc_as_pair rfl (fun fd f F => F.binds (fun _ _ _ _ _ _ us hl => match us, hl with | [_], _ => rfl)) (pb_as_pair B )
/-- a number as a tuple of two -/
def f_as_pair : SpF := fun ds k _ => ∃ d q, ds = [d] ∧ numD d = some q ∧ k (prD q)
theorem numD_of {d : Dt} {q : Int × Int} (h : numD d = some q) : (∃ i, d = .int i ∧ q = (i, 1)) ∨ d = prD q := by
  match d, h with
  | .int i, h => cases h; exact .inl ⟨i, rfl, rfl⟩
  | .tup [.int a, .int b], h => cases h; exact .inr rfl
theorem ok_as_pair (ds k e) (ln : ds.length = 1) (h : f_as_pair ds k e) : wFn 1 w_as_pair ds k e := by
  obtain ⟨d, q, rfl, hd, hk⟩ := h
  (simp only [a_wFn, a_wFnF, a_mapS, a_map0, List.replicate, a_appS, a_app0, a_lenS, a_len0, Nat.reduceAdd, Nat.reduceSub, Nat.zero_add]; unfold w_as_pair; simp only [a_wFn, a_wSeq, a_wNx, a_wBk, a_wCt, a_wEx, a_wSet, a_wOwn, a_wAsg, a_wPar, a_wRet, a_wRetN, a_wRetF, a_wRetFO, a_wParO, a_wFnF, a_wIfS, a_wApp, a_wExt, a_wFrz, a_wAugI, a_wSetIx, a_wAugIx, a_wFor, a_lookL0, a_lookLS, a_look0, a_lookS, a_lookO0, a_lookO1, a_lookOS, a_wV, a_wO, a_wC, a_wBin, a_wUn, a_wTst, a_wTru, a_wAnd, a_wOr, a_wNot, a_wAndV, a_wOrV, a_wNotV, a_wIf, a_wCh, a_wNil, a_wCons, a_wStar, a_wTup, a_wLst, a_wCal, a_wCall, a_wCall0, a_wCallK, a_wCallB, a_wGot, a_noX, a_wCh3, a_wAugC, gInI_i, a_wCalK, a_wSl, a_wNo, a_wPart, a_wFld, a_wMth, a_wM0, a_wM1, a_wgN, a_wgNil, a_wgCons, a_wgT, a_wLc, a_wYes, a_itK, itK_lst, itK_tup, itK_str, seqD_lst, seqD_tup, a_wRg1, a_wRg2, a_wRg3, a_wEnumU, a_wEnumL, a_wZipU, a_wRevU, a_wComb, wipeD, a_mapS, a_map0, a_lenS, a_len0, List.replicate, a_appS, a_app0, a_set0, a_setS, Nat.reduceAdd, Nat.reduceSub, Nat.zero_add, true_and, and_true, gAdd_i, gAdd_s, gAdd_l, gAdd_t, gCat_l, gSub_i, gMul_i, gMul_l, gMul_t, gFdiv_i, gMod_i, gPow_i, gLt_i, gLe_i, gGt_i, gGe_i, gLen_l, gLen_t, gLen_s, gAbs_i, gToInt_i, gToInt_b, gToBl_i, gToBl_b, gToTup_l, gToTup_t, gToLst_l, gToLst_t, gMax2_i, gMin2_i, gNeg_i, gSl_l, gSl_t, gSl_s, gSlL_l, gRevL_l, gIsN_n, gIsN_b, gIsN_i, gIsN_s, gIsN_l, gIsN_t, gNotN_n, gNotN_b, gNotN_i, gNotN_s, gNotN_l, gNotN_t, truD, gEq_int, gNe_int, Bool.not_true, Bool.not_false])
  rcases numD_of hd with ⟨i, rfl, rfl⟩ | rfl
  · rw [gIsi_of (t := "int") (b := false) rfl (by decide +kernel)]
    exact ⟨by decide, hk⟩
  · rw [gIsi_of (t := "tuple") (b := true) rfl (by decide +kernel)]
    exact hk
theorem cs_as_pair (B : Bl mg) (DD : OwnDef K mg "as_pair" s_as_pair)   : CalG P w K mg base 1 "as_pair" (spW (suR K mg c TLb) 1 f_as_pair) [] :=
  (pc_as_pair B DD ).imp (spW_mono fun ds k e ln h => ok_as_pair ds k e ln h)
def w_lowest : WS := (wSeq (wAsg (wCall0 1 f_as_pair (wCons (wV 0) wNil)) (wgT 2 (wgCons (wgN 1) (wgCons (wgN 2) wgNil))))
      (wSeq (wSet 3 (wCal gGcd (wCons (wV 1) (wCons (wV 2) wNil))))
      (wRet (wTup (wCons (wBin LW.gFdiv (wV 1) (wV 3)) (wCons (wBin LW.gFdiv (wV 2) (wV 3)) wNil))))))
theorem pb_lowest (B : Bl mg) (C_as_pair : CalG P w K mg base 1 "as_pair" (spW (suR K mg c TLb) 1 f_as_pair) []) (T : Tx K mg c) : Bdy P w K mg base 1 "lowest" s_lowest ["number", "top", "bottom", "common"] (suR K mg c TLb) w_lowest := fun f cdv A outer s H E hr quiet =>
      (xsCons (xsAsg (xCall0 (pe_cG quiet C_as_pair hr (by decide) (by rfl) (xACons (xV (pv 0)) xANil))) (xgT (n := 2) (by rfl) (xgCons (xgN (pg_name (i := 1) sc_lowest.nd rfl (Or.inl rfl))) (xgCons (xgN (pg_name (i := 2) sc_lowest.nd rfl (Or.inl rfl))) xgNil))))
      (xsCons (xsSet (i := 3) sc_lowest.nd rfl (Or.inl rfl) (xCB (pe_callBfun cr_gcd (by rfl) T.g_gcd (xWCons (xw (xV (pv 1))) (xWCons (xw (xV (pv 2))) xWNil))) pGcd))
      (xsOne (xsRet (xw (xTup (xACons (xBin op_fdivW pFdiv (xw (xV (pv 1))) (xw (xV (pv 3)))) (xACons (xBin op_fdivW pFdiv (xw (xV (pv 2))) (xw (xV (pv 3)))) xANil))))))))
theorem pc_lowest (B : Bl mg) (DD : OwnDef K mg "lowest" s_lowest) (C_as_pair : CalG P w K mg base 1 "as_pair" (spW (suR K mg c TLb) 1 f_as_pair) []) (T : Tx K mg c) : CalG P w K mg base 2 "lowest" (spW (suR K mg c TLb) 1 (wFn 4 w_lowest)) [] :=
  calG_by DD sc_lowest rfl (fun fd f F => F.binds (fun _ _ _ _ _ _ us hl => match us, hl with | [_], _ => rfl)) (pb_lowest B C_as_pair T)
def f_lowest : SpF := fun ds k _ => ∃ d q, ds = [d] ∧ numD d = some q ∧ 0 < q.2 ∧ q.2.natAbs < 2 ^ 8000 ∧ k (prD (lowQ q.1 q.2))
theorem ok_lowest (ds k e) (ln : ds.length = 1) (h : f_lowest ds k e) : wFn 4 w_lowest ds k e := by
  obtain ⟨d, q, rfl, hd, h0, h1, hk⟩ := h
  (simp only [a_wFn, a_wFnF, a_mapS, a_map0, List.replicate, a_appS, a_app0, a_lenS, a_len0, Nat.reduceAdd, Nat.reduceSub, Nat.zero_add]; unfold w_lowest; simp only [a_wFn, a_wSeq, a_wNx, a_wBk, a_wCt, a_wEx, a_wSet, a_wOwn, a_wAsg, a_wPar, a_wRet, a_wRetN, a_wRetF, a_wRetFO, a_wParO, a_wFnF, a_wIfS, a_wApp, a_wExt, a_wFrz, a_wAugI, a_wSetIx, a_wAugIx, a_wFor, a_lookL0, a_lookLS, a_look0, a_lookS, a_lookO0, a_lookO1, a_lookOS, a_wV, a_wO, a_wC, a_wBin, a_wUn, a_wTst, a_wTru, a_wAnd, a_wOr, a_wNot, a_wAndV, a_wOrV, a_wNotV, a_wIf, a_wCh, a_wNil, a_wCons, a_wStar, a_wTup, a_wLst, a_wCal, a_wCall, a_wCall0, a_wCallK, a_wCallB, a_wGot, a_noX, a_wCh3, a_wAugC, gInI_i, a_wCalK, a_wSl, a_wNo, a_wPart, a_wFld, a_wMth, a_wM0, a_wM1, a_wgN, a_wgNil, a_wgCons, a_wgT, a_wLc, a_wYes, a_itK, itK_lst, itK_tup, itK_str, seqD_lst, seqD_tup, a_wRg1, a_wRg2, a_wRg3, a_wEnumU, a_wEnumL, a_wZipU, a_wRevU, a_wComb, wipeD, a_mapS, a_map0, a_lenS, a_len0, List.replicate, a_appS, a_app0, a_set0, a_setS, Nat.reduceAdd, Nat.reduceSub, Nat.zero_add, true_and, and_true, gAdd_i, gAdd_s, gAdd_l, gAdd_t, gCat_l, gSub_i, gMul_i, gMul_l, gMul_t, gFdiv_i, gMod_i, gPow_i, gLt_i, gLe_i, gGt_i, gGe_i, gLen_l, gLen_t, gLen_s, gAbs_i, gToInt_i, gToInt_b, gToBl_i, gToBl_b, gToTup_l, gToTup_t, gToLst_l, gToLst_t, gMax2_i, gMin2_i, gNeg_i, gSl_l, gSl_t, gSl_s, gSlL_l, gRevL_l, gIsN_n, gIsN_b, gIsN_i, gIsN_s, gIsN_l, gIsN_t, gNotN_n, gNotN_b, gNotN_i, gNotN_s, gNotN_l, gNotN_t, truD, gEq_int, gNe_int, Bool.not_true, Bool.not_false])
  refine ⟨d, q, rfl, hd, ?_⟩
  have g0 := gcd_pos (t := q.1) h0
  have g1 := gcd_le (t := q.1) h0
  have : CDivW q.1 ((Nat.gcd q.1.natAbs q.2.natAbs : Nat) : Int) := wide_div (b := 8000) (by omega) (by rw [Int.natAbs_natCast]; omega) (by decide) (by decide)
  exact ⟨rfl, rfl, this, this, by decide, hk⟩
theorem cs_lowest (B : Bl mg) (DD : OwnDef K mg "lowest" s_lowest) (C_as_pair : CalG P w K mg base 1 "as_pair" (spW (suR K mg c TLb) 1 f_as_pair) []) (T : Tx K mg c) : CalG P w K mg base 2 "lowest" (spW (suR K mg c TLb) 1 f_lowest) [] :=
  (pc_lowest B DD C_as_pair T).imp (spW_mono fun ds k e ln h => ok_lowest ds k e ln h)
/-- pairs that may stand in a common denominator -/
structure OkP (qs : List (Int × Int)) : Prop where
  len : qs.length ≤ 40
  pos : ∀ q ∈ qs, 0 < q.2 ∧ q.2.natAbs < 2 ^ 200
theorem OkP.take {qs : List (Int × Int)} (h : OkP qs) (n : Nat) : OkP (qs.take n) := ⟨by rw [List.length_take]; have := h.len; omega, fun q hq => h.pos q (List.mem_of_mem_take hq)⟩
end
end LW
set_option Elab.async false
set_option linter.all false
set_option maxRecDepth 100000
set_option maxHeartbeats 4000100
set_option exponentiation.threshold 20000
namespace LW
open L2 PySem.Spec PyProof.Rows PySem
/-! ### rules and divisions, in plain data -/
theorem Met.imp {P : Program} {w : World} {K : PySem.W.Frag} {mg : Str → Option Value} {base : Heap} {k : Nat} {C : Addr} {m : Str} {sp sp' : Sp} (M : Met P w K mg base k C m sp) (h : ∀ vs H Q E, sp' vs H Q E → sp vs H Q E) : Met P w K mg base k C m sp' := by
  obtain ⟨f, fd, ps, c1, c2, F, b⟩ := M.ex
  exact ⟨f, fd, ps, c1, c2, FnOk.imp F h, b⟩
theorem MO_whole_mark {K : PySem.W.Frag} {mg : Str → Option Value} {c : Addr} {TLb : List (Addr × Str)} : MetOk (suR K mg c TLb) 0 c "whole_mark" := ⟨fun d H v h => by
  obtain ⟨_, r, o, hd, rfl, rfl, vr, R⟩ := h
  obtain ⟨dx, v0, v1, v2, v3, e, _⟩ := R.ex
  exact ⟨r, dx, _, rfl, e, by simp [rFs, putF]; decide +kernel⟩⟩
def f_whole_mark : SpF := fun ds k _ => ∃ o hd n, ds = [.obj 0 (ruD o hd), .int n] ∧ VR o hd ∧ 0 ≤ n ∧ n.natAbs < 2 ^ 8000 ∧ k (.int (wholeQ o hd n))
theorem qs_inj {f : Int × Int → Dt} (hf : ∀ p q, f p = f q → p = q) : ∀ {l r : List (Int × Int)}, l.map f = r.map f → l = r
  | [], [], _ => rfl
  | [], _ :: _, h => by
        simp at h
  | _ :: _, [], h => by
        simp at h
  | a :: l, b :: r, h => by
    rw [List.map_cons,
          List.map_cons] at h
    injection h with h1 h2
    rw [hf _ _ h1, qs_inj hf h2]
theorem ruD_inj {o o' : Int × Int} {hd hd' : List (Int × Int)} (h : ruD o hd = ruD o' hd') : o = o' ∧ hd = hd' := by
  unfold ruD at h
  injection h with h
  injection h with h1 h2
  injection h2 with h2
  injection h1 with h1
  injection h1 with a1 a2
  injection a2 with a2
  injection a1 with a1
  injection a2 with a2
  injection h2 with h2
  refine ⟨Prod.ext a1 a2, qs_inj (fun p q e => ?_) h2⟩
  injection e with e
  injection e with e1 e2
  injection e2 with e2
  injection e1 with e1
  injection e2 with e2
  exact Prod.ext e1 e2
section
variable {P : Program} {w : World} {K : PySem.W.Frag} {mg : Str → Option Value} {base : Heap} {c : Addr} {TLb : List (Addr × Str)}
theorem Das.two {S : Su} {M : Mu} {H : Hp} {vs : List V} {d e : Dt} (h : Das S M H vs [d, e]) : ∃ v u, vs = [v, u] ∧ Da S M H v d ∧ Da S M H u e := by
  obtain ⟨v, ws, rfl, h1, r⟩ := h.of_cons
  obtain ⟨u, us, rfl, h2, r2⟩ := r.of_cons
  rw [r2.of_nil]
  exact ⟨v, u, rfl, h1, h2⟩
theorem br_whole_mark (M : Met P w K mg base 1 c "whole_mark" (sp_Rule_whole_mark K c)) : Met P w K mg base 1 c "whole_mark" (spW (suR K mg c TLb) 2 f_whole_mark) := M.imp fun vs H Q E ⟨Mu, A, ds, k, e, ln, hd, mA, m, hv, hw, a, ax⟩ => by
  obtain ⟨o, hd', n, rfl, vr, n0, n1, hk⟩ := hw
  obtain ⟨v, u, rfl, h1, h2⟩ := hv.two
  cases h1 with
  | obj h =>
    obtain ⟨_, r, o2, hd2, rfl, e2, vr2, R⟩ := h
    obtain ⟨rfl, rfl⟩ := ruD_inj e2
    exact ⟨r, [], _, _, n, by rw [h2.int_eq], R.same hv_le, vr, n0, n1, a _ _ _ .refl m (.int _) hk⟩
end
section
variable {P : Program} {w : World} {K : PySem.W.Frag} {mg : Str → Option Value} {base : Heap} {c : Addr} {TLb : List (Addr × Str)}
theorem wholeQ_mul {o : Int × Int} {hd : List (Int × Int)} (r : VR o hd) {n : Int} (n0 : 0 ≤ n) : wholeQ o hd n * (markQ o hd n).2 = (markQ o hd n).1 * unitQ o hd ∧ 0 < (markQ o hd n).2 ∧ 0 ≤ (markQ o hd n).1 := by
  have key : ∀ q ∈ o :: hd, 0 ≤ q.1 → timesQ (unitQ o hd) q * q.2 = q.1 * unitQ o hd ∧ 0 < q.2 ∧ 0 ≤ q.1 := fun q hq h0 => by
    obtain ⟨x, hx⟩ := r.unit.2.2 q hq
    have b := (r.bots q hq).1
    refine ⟨?_, b, h0⟩
    show q.1 * (unitQ o hd / q.2) * q.2 = _
    rw [Int.mul_assoc, Int.ediv_mul_cancel ⟨x, hx⟩]
  unfold wholeQ
  unfold markQ
  split
  · rename_i h
    rw [List.getD_eq_getElem?_getD, List.getElem?_eq_getElem
          (by omega), Option.getD_some]
    exact key _ (List.mem_cons_of_mem _ (List.getElem_mem _)) (r.oks _ (List.getElem_mem _)).1.a
  · have b := (r.bots o List.mem_cons_self).1
    obtain ⟨x, hx⟩ := r.unit.2.2 o List.mem_cons_self
    refine ⟨?_, b, ?_⟩
    · show (o.1 + n * o.2) * (unitQ o hd / o.2) * o.2 = _
      rw [Int.mul_assoc, Int.ediv_mul_cancel ⟨x, hx⟩]
      rfl
    · have h1 := r.ok.a
      have h2 := Int.mul_nonneg n0 (Int.le_of_lt b)
      show 0 ≤ o.1 + n * o.2
      omega
theorem wholeQ_nn {o : Int × Int} {hd : List (Int × Int)} (r : VR o hd) {n : Int} (n0 : 0 ≤ n) : 0 ≤ wholeQ o hd n := by
  obtain ⟨e, b, a⟩ := wholeQ_mul r n0
  have u := r.unit.1
  have : 0 ≤ wholeQ o hd n * (markQ o hd n).2 := by rw [e]; exact Int.mul_nonneg a (Int.le_of_lt u)
  exact Int.nonneg_of_mul_nonneg_left this b
end
end LW
set_option Elab.async false
set_option linter.all false
set_option maxRecDepth 100000
set_option maxHeartbeats 4000100
set_option exponentiation.threshold 20000
namespace LW
open L2 PySem.Spec PyProof.Rows PySem
abbrev s__moved : Stmt := topS 47
theorem sc__moved : FnScope ["sums", "count", "gain", "filler", "one"] ["sums", "count", "gain", "filler"] (defScope s__moved) := ⟨rfl, rfl, rfl, by decide +kernel, rfl, by decide +kernel, by decide +kernel⟩
abbrev s__with_another_count : Stmt := topS 48
theorem sc__with_another_count : FnScope ["gains", "sums", "choices", "filler", "rows", "count", "gain", "column"] ["gains", "sums"] (defScope s__with_another_count) := ⟨rfl, rfl, rfl, by decide +kernel, rfl, by decide +kernel, by decide +kernel⟩
/-! ### splits.py: the pure parts -/
def moved (sums : List Int) (count : Nat) (gain filler : Int) : List Int := (List.replicate count filler ++ sums.map fun s => s + gain).take sums.length
section
variable {P : Program} {w : World} {K : PySem.W.Frag} {mg : Str → Option Value} {base : Heap} {c : Addr} {TLb : List (Addr × Str)}
def w__moved : WS := (wRet (wSl gSlL (wBin gCat (wBin LW.gMul (wLst (wCons (wV 3) wNil)) (wV 1)) (wLc [4] (wIt (wV 0)) (wgN 4) wYes (wBin LW.gAdd (wV 4) (wV 2)))) wNo (wPart (wCal gLen (wCons (wV 0) wNil)))))
def f__moved : SpF := fun ds k _ => ∃ (sums : List Int) (count : Nat) (gain filler : Int), ds = [.lst (sums.map Dt.int), .int (count : Nat), .int gain, .int filler] ∧ sums.length ≤ 1000 ∧ count ≤ 100 ∧ k (.lst ((moved sums count gain filler).map Dt.int))
theorem ok__moved (ds k e) (ln : ds.length = 4) (h : f__moved ds k e) : wFn 5 w__moved ds k e := by
  obtain ⟨sums, count, gain, filler, rfl, l1, l2, hk⟩ := h
  (simp only [a_wFn, a_wFnF, a_mapS, a_map0, List.replicate, a_appS, a_app0, a_lenS, a_len0, Nat.reduceAdd, Nat.reduceSub, Nat.zero_add]; unfold w__moved; simp only [a_wFn, a_wSeq, a_wNx, a_wBk, a_wCt, a_wEx, a_wSet, a_wOwn, a_wAsg, a_wPar, a_wRet, a_wRetN, a_wRetF, a_wRetFO, a_wParO, a_wFnF, a_wIfS, a_wApp, a_wExt, a_wFrz, a_wAugI, a_wSetIx, a_wAugIx, a_wFor, a_lookL0, a_lookLS, a_look0, a_lookS, a_lookO0, a_lookO1, a_lookOS, a_wV, a_wO, a_wC, a_wBin, a_wUn, a_wTst, a_wTru, a_wAnd, a_wOr, a_wNot, a_wAndV, a_wOrV, a_wNotV, a_wIf, a_wCh, a_wNil, a_wCons, a_wStar, a_wTup, a_wLst, a_wCal, a_wCall, a_wCall0, a_wCallK, a_wCallB, a_wGot, a_noX, a_wCh3, a_wAugC, gInI_i, a_wCalK, a_wSl, a_wNo, a_wPart, a_wFld, a_wMth, a_wM0, a_wM1, a_wgN, a_wgNil, a_wgCons, a_wgT, a_wLc, a_wYes, a_itK, itK_lst, itK_tup, itK_str, seqD_lst, seqD_tup, a_wRg1, a_wRg2, a_wRg3, a_wEnumU, a_wEnumL, a_wZipU, a_wRevU, a_wComb, wipeD, a_mapS, a_map0, a_lenS, a_len0, List.replicate, a_appS, a_app0, a_set0, a_setS, Nat.reduceAdd, Nat.reduceSub, Nat.zero_add, true_and, and_true, gAdd_i, gAdd_s, gAdd_l, gAdd_t, gCat_l, gSub_i, gMul_i, gMul_l, gMul_t, gFdiv_i, gMod_i, gPow_i, gLt_i, gLe_i, gGt_i, gGe_i, gLen_l, gLen_t, gLen_s, gAbs_i, gToInt_i, gToInt_b, gToBl_i, gToBl_b, gToTup_l, gToTup_t, gToLst_l, gToLst_t, gMax2_i, gMin2_i, gNeg_i, gSl_l, gSl_t, gSl_s, gSlL_l, gRevL_l, gIsN_n, gIsN_b, gIsN_i, gIsN_s, gIsN_l, gIsN_t, gNotN_n, gNotN_b, gNotN_i, gNotN_s, gNotN_l, gNotN_t, truD, gEq_int, gNe_int, Bool.not_true, Bool.not_false])
  have fl : ∀ n : Nat, (List.replicate n [Dt.int filler]).flatten = (List.replicate n filler).map Dt.int := fun n => by
    induction n with
    | zero => rfl
    | succ n ih =>
      rw [List.replicate_succ, List.replicate_succ, List.flatten_cons, ih]
      rfl
  refine ⟨by decide, by decide, by omega, by omega, by rw [List.length_map]; omega, ?_⟩
  refine lcL_map (fun d => match d with | .int i => .int (i + gain) | _ => .non) (fun d K hd hK => ?_) ?_
  · obtain ⟨s, hs, rfl⟩ := List.mem_map.mp hd
    simp only [a_wFn, a_wSeq, a_wNx, a_wBk, a_wCt, a_wEx, a_wSet, a_wOwn, a_wAsg, a_wPar, a_wRet, a_wRetN, a_wRetF, a_wRetFO, a_wParO, a_wFnF, a_wIfS, a_wApp, a_wExt, a_wFrz, a_wAugI, a_wSetIx, a_wAugIx, a_wFor, a_lookL0, a_lookLS, a_look0, a_lookS, a_lookO0, a_lookO1, a_lookOS, a_wV, a_wO, a_wC, a_wBin, a_wUn, a_wTst, a_wTru, a_wAnd, a_wOr, a_wNot, a_wAndV, a_wOrV, a_wNotV, a_wIf, a_wCh, a_wNil, a_wCons, a_wStar, a_wTup, a_wLst, a_wCal, a_wCall, a_wCall0, a_wCallK, a_wCallB, a_wGot, a_noX, a_wCh3, a_wAugC, gInI_i, a_wCalK, a_wSl, a_wNo, a_wPart, a_wFld, a_wMth, a_wM0, a_wM1, a_wgN, a_wgNil, a_wgCons, a_wgT, a_wLc, a_wYes, a_itK, itK_lst, itK_tup, itK_str, seqD_lst, seqD_tup, a_wRg1, a_wRg2, a_wRg3, a_wEnumU, a_wEnumL, a_wZipU, a_wRevU, a_wComb, wipeD, a_mapS, a_map0, a_lenS, a_len0, List.replicate, a_appS, a_app0, a_set0, a_setS, Nat.reduceAdd, Nat.reduceSub, Nat.zero_add, true_and, and_true, gAdd_i, gAdd_s, gAdd_l, gAdd_t, gCat_l, gSub_i, gMul_i, gMul_l, gMul_t, gFdiv_i, gMod_i, gPow_i, gLt_i, gLe_i, gGt_i, gGe_i, gLen_l, gLen_t, gLen_s, gAbs_i, gToInt_i, gToInt_b, gToBl_i, gToBl_b, gToTup_l, gToTup_t, gToLst_l, gToLst_t, gMax2_i, gMin2_i, gNeg_i, gSl_l, gSl_t, gSl_s, gSlL_l, gRevL_l, gIsN_n, gIsN_b, gIsN_i, gIsN_s, gIsN_l, gIsN_t, gNotN_n, gNotN_b, gNotN_i, gNotN_s, gNotN_l, gNotN_t, truD, gEq_int, gNe_int, Bool.not_true, Bool.not_false]
    exact hK
  rw [Int.toNat_natCast, fl]
  have e : (sums.map Dt.int).map (fun d => match d with | .int i => .int (i + gain) | _ => .non) = (sums.map fun s => s + gain).map Dt.int := by
    rw [List.map_map,
          List.map_map]
    rfl
  rw [e, ← List.map_append]
  refine ⟨by rw [List.length_map, List.length_map, List.length_map, List.length_replicate, sizeLine_eq]; omega, ?_⟩
  have ct : cutL ((List.replicate count filler ++ sums.map fun s => s + gain).map Dt.int) none (some (((sums.map Dt.int).length : Nat) : Int)) = (moved sums count gain filler).map Dt.int := by
    unfold cutL moved
    rw [HT.sIx_none, HT.sIx_nat, List.length_map, List.length_map, List.length_append, List.length_map, List.length_replicate, List.drop_zero, Nat.min_eq_left (by omega), Nat.sub_zero, List.map_take]
  rw [ct]
  exact hk
def w__with_another_count : WS := (wSeq (wSet 2 (wLst (wStar (wV 0) (wCons (wC (.int 0)) wNil))))
      (wSeq (wSet 3 (wBin LW.gAdd (wCal gMin (wCons (wV 1) wNil)) (wCal gMin (wCons (wV 2) wNil))))
      (wSeq (wSet 4 (wLc [5, 6] (wEnumU (wV 2)) (wgT 2 (wgCons (wgN 5) (wgCons (wgN 6) wgNil))) wYes (wCall0 4 f__moved (wCons (wV 1) (wCons (wV 5) (wCons (wV 6) (wCons (wV 3) wNil)))))))
      (wRet (wLc [7] (wZipS (wV 4)) (wgN 7) wYes (wCal gMaxT (wCons (wV 7) wNil)))))))
/-- .. for one claimant more: at each total the greatest of the rows -/
def f__with_another_count : SpF := fun ds k _ => ∃ (g sums : List Int), ds = [.lst (g.map Dt.int), .lst (sums.map Dt.int)] ∧ g.length ≤ 9 ∧ sums ≠ [] ∧ sums.length ≤ 1000 ∧
  ∀ (filler : Int) (new : List Int), (∀ x ∈ sums, ∀ y ∈ g ++ [0], filler ≤ x + y) → new.length = sums.length →
    (∀ t, t < sums.length → (∃ count, count ≤ g.length ∧ rowAt g sums filler t count = new.getD t 0) ∧ ∀ count, count ≤ g.length → rowAt g sums filler t count ≤ new.getD t 0) → k (.lst (new.map Dt.int))
theorem ok__with_another_count (ds k e) (ln : ds.length = 2) (h : f__with_another_count ds k e) : wFn 8 w__with_another_count ds k e := by
  obtain ⟨g, sums, rfl, g9, ne, l1, hk⟩ := h
  (simp only [a_wFn, a_wFnF, a_mapS, a_map0, List.replicate, a_appS, a_app0, a_lenS, a_len0, Nat.reduceAdd, Nat.reduceSub, Nat.zero_add]; unfold w__with_another_count; simp only [a_wFn, a_wSeq, a_wNx, a_wBk, a_wCt, a_wEx, a_wSet, a_wOwn, a_wAsg, a_wPar, a_wRet, a_wRetN, a_wRetF, a_wRetFO, a_wParO, a_wFnF, a_wIfS, a_wApp, a_wExt, a_wFrz, a_wAugI, a_wSetIx, a_wAugIx, a_wFor, a_lookL0, a_lookLS, a_look0, a_lookS, a_lookO0, a_lookO1, a_lookOS, a_wV, a_wO, a_wC, a_wBin, a_wUn, a_wTst, a_wTru, a_wAnd, a_wOr, a_wNot, a_wAndV, a_wOrV, a_wNotV, a_wIf, a_wCh, a_wNil, a_wCons, a_wStar, a_wTup, a_wLst, a_wCal, a_wCall, a_wCall0, a_wCallK, a_wCallB, a_wGot, a_noX, a_wCh3, a_wAugC, gInI_i, a_wCalK, a_wSl, a_wNo, a_wPart, a_wFld, a_wMth, a_wM0, a_wM1, a_wgN, a_wgNil, a_wgCons, a_wgT, a_wLc, a_wYes, a_itK, itK_lst, itK_tup, itK_str, seqD_lst, seqD_tup, a_wRg1, a_wRg2, a_wRg3, a_wEnumU, a_wEnumL, a_wZipU, a_wRevU, a_wComb, wipeD, a_mapS, a_map0, a_lenS, a_len0, List.replicate, a_appS, a_app0, a_set0, a_setS, Nat.reduceAdd, Nat.reduceSub, Nat.zero_add, true_and, and_true, gAdd_i, gAdd_s, gAdd_l, gAdd_t, gCat_l, gSub_i, gMul_i, gMul_l, gMul_t, gFdiv_i, gMod_i, gPow_i, gLt_i, gLe_i, gGt_i, gGe_i, gLen_l, gLen_t, gLen_s, gAbs_i, gToInt_i, gToInt_b, gToBl_i, gToBl_b, gToTup_l, gToTup_t, gToLst_l, gToLst_t, gMax2_i, gMin2_i, gNeg_i, gSl_l, gSl_t, gSl_s, gSlL_l, gRevL_l, gIsN_n, gIsN_b, gIsN_i, gIsN_s, gIsN_l, gIsN_t, gNotN_n, gNotN_b, gNotN_i, gNotN_s, gNotN_l, gNotN_t, truD, gEq_int, gNe_int, Bool.not_true, Bool.not_false])
  have e0 : g.map Dt.int ++ [Dt.int 0] = (g ++ [0]).map Dt.int := by rw [List.map_append]; rfl
  rw [e0]
  refine ⟨by rw [List.length_map, List.length_append, sizeLine_eq]; simp; omega, ?_⟩
  refine ⟨sums, intsOf_map sums, ne, fun m1 a1 a2 => ?_⟩
  refine ⟨g ++ [0], intsOf_map _, by simp, fun m2 b1 b2 => ?_⟩
  simp only [a_wFn, a_wSeq, a_wNx, a_wBk, a_wCt, a_wEx, a_wSet, a_wOwn, a_wAsg, a_wPar, a_wRet, a_wRetN, a_wRetF, a_wRetFO, a_wParO, a_wFnF, a_wIfS, a_wApp, a_wExt, a_wFrz, a_wAugI, a_wSetIx, a_wAugIx, a_wFor, a_lookL0, a_lookLS, a_look0, a_lookS, a_lookO0, a_lookO1, a_lookOS, a_wV, a_wO, a_wC, a_wBin, a_wUn, a_wTst, a_wTru, a_wAnd, a_wOr, a_wNot, a_wAndV, a_wOrV, a_wNotV, a_wIf, a_wCh, a_wNil, a_wCons, a_wStar, a_wTup, a_wLst, a_wCal, a_wCall, a_wCall0, a_wCallK, a_wCallB, a_wGot, a_noX, a_wCh3, a_wAugC, gInI_i, a_wCalK, a_wSl, a_wNo, a_wPart, a_wFld, a_wMth, a_wM0, a_wM1, a_wgN, a_wgNil, a_wgCons, a_wgT, a_wLc, a_wYes, a_itK, itK_lst, itK_tup, itK_str, seqD_lst, seqD_tup, a_wRg1, a_wRg2, a_wRg3, a_wEnumU, a_wEnumL, a_wZipU, a_wRevU, a_wComb, wipeD, a_mapS, a_map0, a_lenS, a_len0, List.replicate, a_appS, a_app0, a_set0, a_setS, Nat.reduceAdd, Nat.reduceSub, Nat.zero_add, true_and, and_true, gAdd_i, gAdd_s, gAdd_l, gAdd_t, gCat_l, gSub_i, gMul_i, gMul_l, gMul_t, gFdiv_i, gMod_i, gPow_i, gLt_i, gLe_i, gGt_i, gGe_i, gLen_l, gLen_t, gLen_s, gAbs_i, gToInt_i, gToInt_b, gToBl_i, gToBl_b, gToTup_l, gToTup_t, gToLst_l, gToLst_t, gMax2_i, gMin2_i, gNeg_i, gSl_l, gSl_t, gSl_s, gSlL_l, gRevL_l, gIsN_n, gIsN_b, gIsN_i, gIsN_s, gIsN_l, gIsN_t, gNotN_n, gNotN_b, gNotN_i, gNotN_s, gNotN_l, gNotN_t, truD, gEq_int, gNe_int, Bool.not_true, Bool.not_false]
  have fil : ∀ x ∈ sums, ∀ y ∈ g ++ [0], m1 + m2 ≤ x + y := fun x hx y hy => by
    have := a2 x hx
    have := b2 y hy
    omega
  refine ⟨_, rfl, by rw [numbered_len, List.length_map, List.length_append]; simp; omega, ?_⟩
  refine lcL_map (fun d => match d with | .tup [.int i, .int v] => .lst ((moved sums i.toNat v (m1 + m2)).map Dt.int) | _ => .non) (fun d K hd hK => ?_) ?_
  · obtain ⟨i, hi⟩ := List.getElem?_of_mem hd
    rw [numbered_get] at hi
    obtain ⟨xd, hxd, rfl⟩ := Option.map_eq_some_iff.mp hi
    obtain ⟨v, hv, rfl⟩ := some_map hxd
    have li := (List.getElem?_eq_some_iff.mp hv).1
    rw [List.length_append] at li
    refine ⟨rfl, rfl, sums, i, v, m1 + m2, by rw [Int.zero_add], l1, by simp at li; omega, ?_⟩
    have hK : K (some (.lst ((moved sums (0 + ((i : Nat) : Int)).toNat v (m1 + m2)).map Dt.int))) := hK
    rw [Int.zero_add, Int.toNat_natCast] at hK
    exact hK
  have rl : ∀ count gain, (moved sums count gain (m1 + m2)).length = sums.length := fun count gain => by
    unfold moved
    rw [List.length_take, List.length_append, List.length_replicate, List.length_map]
    omega
  have er : (numbered 0 ((g ++ [0]).map Dt.int)).map (fun d => match d with | .tup [.int i, .int v] => Dt.lst ((moved sums i.toNat v (m1 + m2)).map Dt.int) | _ => .non) = ((List.range (g.length + 1)).map fun count => (moved sums count ((g ++ [0]).getD count 0) (m1 + m2)).map Dt.int).map Dt.lst := by
    refine List.ext_getElem? fun i => ?_
    rw [List.getElem?_map, List.getElem?_map, List.getElem?_map, numbered_get, List.getElem?_map]
    rcases Nat.lt_or_ge i (g.length + 1) with z | z
    · have z' : i < (g ++ [0]).length := by rw [List.length_append]; exact z
      rw [List.getElem?_range z, List.getElem?_eq_getElem z', Option.map_some, Option.map_some, Option.map_some, Option.map_some, Option.map_some, List.getD_eq_getElem?_getD, List.getElem?_eq_getElem z', Option.getD_some]
      show some (Dt.lst ((moved sums (0 + ((i : Nat) : Int)).toNat _ _).map Dt.int)) = _
      rw [Int.zero_add, Int.toNat_natCast]
    · rw [List.getElem?_eq_none (by rw [List.length_append]; exact z), List.getElem?_eq_none (by rw [List.length_range]; exact z)]
      rfl
  rw [er, a_wZipS]
  simp only [a_wFn, a_wSeq, a_wNx, a_wBk, a_wCt, a_wEx, a_wSet, a_wOwn, a_wAsg, a_wPar, a_wRet, a_wRetN, a_wRetF, a_wRetFO, a_wParO, a_wFnF, a_wIfS, a_wApp, a_wExt, a_wFrz, a_wAugI, a_wSetIx, a_wAugIx, a_wFor, a_lookL0, a_lookLS, a_look0, a_lookS, a_lookO0, a_lookO1, a_lookOS, a_wV, a_wO, a_wC, a_wBin, a_wUn, a_wTst, a_wTru, a_wAnd, a_wOr, a_wNot, a_wAndV, a_wOrV, a_wNotV, a_wIf, a_wCh, a_wNil, a_wCons, a_wStar, a_wTup, a_wLst, a_wCal, a_wCall, a_wCall0, a_wCallK, a_wCallB, a_wGot, a_noX, a_wCh3, a_wAugC, gInI_i, a_wCalK, a_wSl, a_wNo, a_wPart, a_wFld, a_wMth, a_wM0, a_wM1, a_wgN, a_wgNil, a_wgCons, a_wgT, a_wLc, a_wYes, a_itK, itK_lst, itK_tup, itK_str, seqD_lst, seqD_tup, a_wRg1, a_wRg2, a_wRg3, a_wEnumU, a_wEnumL, a_wZipU, a_wRevU, a_wComb, wipeD, a_mapS, a_map0, a_lenS, a_len0, List.replicate, a_appS, a_app0, a_set0, a_setS, Nat.reduceAdd, Nat.reduceSub, Nat.zero_add, true_and, and_true, gAdd_i, gAdd_s, gAdd_l, gAdd_t, gCat_l, gSub_i, gMul_i, gMul_l, gMul_t, gFdiv_i, gMod_i, gPow_i, gLt_i, gLe_i, gGt_i, gGe_i, gLen_l, gLen_t, gLen_s, gAbs_i, gToInt_i, gToInt_b, gToBl_i, gToBl_b, gToTup_l, gToTup_t, gToLst_l, gToLst_t, gMax2_i, gMin2_i, gNeg_i, gSl_l, gSl_t, gSl_s, gSlL_l, gRevL_l, gIsN_n, gIsN_b, gIsN_i, gIsN_s, gIsN_l, gIsN_t, gNotN_n, gNotN_b, gNotN_i, gNotN_s, gNotN_l, gNotN_t, truD, gEq_int, gNe_int, Bool.not_true, Bool.not_false]
  refine ⟨_, sums.length, rfl, by rw [List.length_map, List.length_range]; omega, by rw [List.length_map, List.length_range]; omega, fun r hr => ?_, ?_⟩
  · obtain ⟨count, _, rfl⟩ := List.mem_map.mp hr
    rw [List.length_map, rl]
  have at_ : ∀ t count, t < sums.length → ((moved sums count ((g ++ [0]).getD count 0) (m1 + m2)).map Dt.int).getD t .non = .int (rowAt g sums (m1 + m2) t count) := fun t count ht => by
    rw [List.getD_eq_getElem?_getD, List.getElem?_map]
    unfold moved
    rw [List.getElem?_take_of_lt ht]
    unfold rowAt
    rcases Nat.lt_or_ge t count with z | z
    · rw [if_pos z, List.getElem?_append_left (by rw [List.length_replicate]; exact z), List.getElem?_replicate, if_pos z]
      rfl
    · rw [if_neg (by omega), List.getElem?_append_right (by rw [List.length_replicate]; exact z), List.length_replicate, List.getElem?_map, List.getElem?_eq_getElem (by omega), List.getD_eq_getElem?_getD (l := sums), List.getElem?_eq_getElem (by omega)]
      rfl
  have col : ∀ t, t < sums.length → (((List.range (g.length + 1)).map fun count => (moved sums count ((g ++ [0]).getD count 0) (m1 + m2)).map Dt.int).map fun r => r.getD t .non) = ((List.range (g.length + 1)).map fun count => rowAt g sums (m1 + m2) t count).map Dt.int := fun t ht => by
    rw [List.map_map,
          List.map_map]
    exact List.map_congr_left fun count _ => at_ t count ht
  refine ⟨by unfold columns; rw [List.length_map, List.length_range]; omega, ?_⟩
  have cl : (columns ((List.range (g.length + 1)).map fun count => (moved sums count ((g ++ [0]).getD count 0) (m1 + m2)).map Dt.int) sums.length).length = sums.length := by unfold columns; rw [List.length_map, List.length_range]
  refine lcL_rel (fun t _ y => ∃ m, y = .int m ∧ (∃ count, count ≤ g.length ∧ rowAt g sums (m1 + m2) t count = m) ∧ ∀ count, count ≤ g.length → rowAt g sums (m1 + m2) t count ≤ m) (fun t d K hd hK => ?_) fun out hl ho => ?_
  · have ht : t < sums.length := by
      have := (List.getElem?_eq_some_iff.mp hd).1
      rwa [cl] at this
    unfold columns at hd
    rw [List.getElem?_map, List.getElem?_range ht, Option.map_some, col t ht] at hd
    cases hd
    refine ⟨_, intsOf_map _, by simp, fun m h1 h2 => hK _ ⟨m, rfl, ?_, fun count hc => ?_⟩⟩
    · obtain ⟨count, hc, e⟩ := List.mem_map.mp h1
      exact ⟨count, by have := List.mem_range.mp hc; omega, e⟩
    · exact h2 _ (List.mem_map.mpr ⟨count, List.mem_range.mpr (by omega), rfl⟩)
  · rw [cl] at hl
    have eo : out = (out.map fun d => match d with | .int m => m | _ => 0).map Dt.int := by
      refine List.ext_getElem? fun t => ?_
      rw [List.getElem?_map,
            List.getElem?_map]
      rcases Nat.lt_or_ge t sums.length with z | z
      · obtain ⟨m, e, _⟩ := ho t _ _ (List.getElem?_eq_getElem (by rw [cl]; exact z)) (List.getElem?_eq_getElem (by omega))
        rw [List.getElem?_eq_getElem (by omega), e]
        rfl
      · rw [List.getElem?_eq_none (by omega)]
        rfl
    rw [eo]
    refine hk (m1 + m2) _ fil (by rw [List.length_map, hl]) fun t ht => ?_
    obtain ⟨m, e, h1, h2⟩ := ho t _ _ (List.getElem?_eq_getElem (by rw [cl]; exact ht)) (List.getElem?_eq_getElem (by omega))
    have em : (out.map fun d => match d with | .int m => m | _ => 0).getD t 0 = m := by
      rw [List.getD_eq_getElem?_getD, List.getElem?_map, List.getElem?_eq_getElem (by omega), e]
      rfl
    rw [em]
    exact ⟨h1, h2⟩
theorem cc__moved (B : Bl mg) (DD : OwnDef K mg "_moved" s__moved)  : Cal P w K mg base 1 "_moved" (spW (suR K mg c TLb) 4 f__moved) [] :=
  (cal_of (N := ["sums", "count", "gain", "filler", "one"]) DD sc__moved rfl (fun fd f F => F.binds (fun _ _ _ _ _ _ us hl => match us, hl with | [_, _, _, _], _ => rfl)) (wb := w__moved) fun f cdv A outer s H E hr =>
      (xsOne (xsRet (xw (xf (xSlF (xw (xf (xBinF op_cat fCat (xw (xBin op_mulU pMul (xw (xf (xLst (xACons (xV (pv 3)) xANil)))) (xw (xV (pv 1))))) (xw (xf (xLc (own := [("one", 4)]) (by rfl) sc__moved.nd (xItC (xw (xV (pv 0)))) (blkOk_by (own := [("one", 4)]) (N := ["sums", "count", "gain", "filler", "one"]) (sc := defScope s__moved) (by decide +kernel)) (fun _ _ _ _ _ => (xgN (pg_name (i := 4) sc__moved.nd rfl (by first | exact Or.inl rfl | exact Or.inr rfl)))) (fun _ _ _ _ _ => xPts0) (fun _ _ _ _ _ => (xBin op_addU pAdd (xw (xV (pv 4))) (xw (xV (pv 2))))) (by decide))))))) xNo (xPart (xCB (pe_callB call_len (by rfl) B.len (by decide +kernel) (xWCons (xw (xV (pv 0))) xWNil)) pLen)))))))).imp (spW_mono fun ds k e ln h => ok__moved ds k e ln h)
theorem cc__with_another_count (B : Bl mg) (DD : OwnDef K mg "_with_another_count" s__with_another_count) (C__moved : Cal P w K mg base 1 "_moved" (spW (suR K mg c TLb) 4 f__moved) []) : Cal P w K mg base 2 "_with_another_count" (spW (suR K mg c TLb) 2 f__with_another_count) [] :=
  (cal_of (N := ["gains", "sums", "choices", "filler", "rows", "count", "gain", "column"]) DD sc__with_another_count rfl (fun fd f F => F.binds (fun _ _ _ _ _ _ us hl => match us, hl with | [_, _], _ => rfl)) (wb := w__with_another_count) fun f cdv A outer s H E hr =>
      (xsCons (xsSet (i := 2) sc__with_another_count.nd rfl (Or.inl rfl) (xf (xLst (xAStar (xw (xV (pv 0))) (xACons (xInt pe_int) xANil)))))
      (xsCons (xsSet (i := 3) sc__with_another_count.nd rfl (Or.inr rfl) (xBin op_addU pAdd (xw (xCB (pe_callB (cr_min rfl) (by rfl) B.min (by decide +kernel) (xWCons (xw (xV (pv 1))) xWNil)) pMin)) (xw (xCB (pe_callB (cr_min rfl) (by rfl) B.min (by decide +kernel) (xWCons (xw (xV (pv 2))) xWNil)) pMin))))
      (xsCons (xsLcSet (i := 4) (ps_setLc (own := [("count", 5), ("gain", 6)]) (by rfl) sc__with_another_count.nd rfl rfl (sw_true rfl rfl rfl (by decide +kernel)) (xic (xEnum (by rfl) B.enumerate (xV (pv 2)))) (blkOk_by (own := [("count", 5), ("gain", 6)]) (N := ["gains", "sums", "choices", "filler", "rows", "count", "gain", "column"]) (sc := defScope s__with_another_count) (by decide +kernel)) (fun _ _ _ _ _ => (xgT (n := 2) (by rfl) (xgCons (xgN (pg_name (i := 5) sc__with_another_count.nd rfl (by first | exact Or.inl rfl | exact Or.inr rfl))) (xgCons (xgN (pg_name (i := 6) sc__with_another_count.nd rfl (by first | exact Or.inl rfl | exact Or.inr rfl))) xgNil)))) (fun _ _ _ _ _ => xPts0) (fun _ _ _ _ _ => (xCall0 (pe_c C__moved hr (by decide) (by rfl) (xACons (xV (pv 1)) (xACons (xV (pv 5)) (xACons (xV (pv 6)) (xACons (xV (pv 3)) xANil)))))))) (by decide))
      (xsOne (xsRet (xw (xf (xLc (own := [("column", 7)]) (by rfl) sc__with_another_count.nd (xic (xZipS (by rfl) B.zip (xV (pv 4)))) (blkOk_by (own := [("column", 7)]) (N := ["gains", "sums", "choices", "filler", "rows", "count", "gain", "column"]) (sc := defScope s__with_another_count) (by decide +kernel)) (fun _ _ _ _ _ => (xgN (pg_name (i := 7) sc__with_another_count.nd rfl (by first | exact Or.inl rfl | exact Or.inr rfl)))) (fun _ _ _ _ _ => xPts0) (fun _ _ _ _ _ => (xCB (pe_callB (cr_maxT rfl hr) (by rfl) B.max (by decide +kernel) (xWCons (xw (xV (pv 7))) xWNil)) pMaxT)) (by decide)))))))))).imp (spW_mono fun ds k e ln h => ok__with_another_count ds k e ln h)
end
end LW
set_option Elab.async false
set_option linter.all false
set_option maxRecDepth 100000
set_option maxHeartbeats 4000100
set_option exponentiation.threshold 20000
namespace LW
open PySem PySem.Spec PyProof.Rows L2 StX
abbrev s_Splits___init__ : Stmt := inClass (topS 49) 0
theorem sc_Splits___init__ : FnScope ["self", "values", "start", "step", "many", "most", "count", "value"] ["self", "values", "start", "step", "many", "most"] (defScope s_Splits___init__) := ⟨rfl, rfl, rfl, by decide +kernel, rfl, by decide +kernel, by decide +kernel⟩
abbrev s_Splits__greatest_gain : Stmt := inClass (topS 49) 1
theorem sc_Splits__greatest_gain : FnScope ["self", "items", "limit", "length", "_"] ["self", "items"] (defScope s_Splits__greatest_gain) := ⟨rfl, rfl, rfl, by decide +kernel, rfl, by decide +kernel, by decide +kernel⟩
abbrev s_Splits_greatest : Stmt := inClass (topS 49) 2
theorem sc_Splits_greatest : FnScope ["self", "items"] ["self", "items"] (defScope s_Splits_greatest) := ⟨rfl, rfl, rfl, by decide +kernel, rfl, by decide +kernel, by decide +kernel⟩
abbrev s_next_mark_splits : Stmt := topS 50
theorem sc_next_mark_splits : FnScope ["rule", "least", "many", "most", "values", "count"] ["rule", "least", "many", "most"] (defScope s_next_mark_splits) := ⟨rfl, rfl, rfl, by decide +kernel, rfl, by decide +kernel, by decide +kernel⟩
/-! ### splits.py: the objects -/
/-- a class that may be made, by a promise of its __init__ -/
structure MakF (P : Program) (w : World) (K : PySem.W.Frag) (mg : Str → Option Value) (base : Heap) (k : Nat) (x : Str) (C : Addr) (sp : Sp) : Prop where
  ex : ∃ (f : Addr) (fd : FuncData) (ps : List Str), Mk K C f ∧ FnOk P w K mg base CX0 k f fd ps sp ∧ L2.Binds K fd ps [] ∧ mg x = some (.ref C)
section
variable {X : Cx} {k j : Nat} {C : Addr} {sp : Sp} {x : Str} {e : Expr} {es : List Expr} {t : TA} {p pos : Pos}
theorem pe_mkF (c : MakF X.prog X.w X.K X.mg X.base k x C sp) (hr : Room j X.A) (hk : k + 1 ≤ j) (hg : Gl X x) (ha : PA X (e :: es) t) (hdb : (x == ("__debug__" : Str)) = false := by decide)
    (he : starEach (e :: es) X.env = (false, eval e X.env) :: starEach es X.env := by
          rfl) (hpl : (backTo pos (starEach es X.env)).any (·.1) = false := by rfl) :
    PE X (.Call (.Name x p) (e :: es) [] pos) (tMake C sp [] E0 t) := by
  obtain ⟨f, fd, ps, M, F, b, m⟩ := c.ex
  exact pe_make M F (hr.mono hk) hg m b .nil pass0 ha hdb he hpl
end
/-- what the top says of the class Splits -/
structure TxS (K : PySem.W.Frag) (mg : Str → Option Value) (cS : Addr) : Prop where
  cl : Cls K cS
  nG : NoAttr K cS "_gains"
  nS : NoAttr K cS "_start"
  nT : NoAttr K cS "_step"
  nM : NoAttr K cS "_many"
  nX : NoAttr K cS "_most"
  nU : NoAttr K cS "_sums"
abbrev sF1 (a : V) : List (Str × V) := [("_gains", a)]
abbrev sF2 (a b : V) : List (Str × V) := [("_gains", a), ("_start", b)]
abbrev sF3 (a b d : V) : List (Str × V) := [("_gains", a), ("_start", b), ("_step", d)]
abbrev sF4 (a b d e : V) : List (Str × V) := [("_gains", a), ("_start", b), ("_step", d), ("_many", e)]
abbrev sF5 (a b d e f : V) : List (Str × V) := [("_gains", a), ("_start", b), ("_step", d), ("_many", e), ("_most", f)]
abbrev sF6 (a b d e f g : V) : List (Str × V) := [("_gains", a), ("_start", b), ("_step", d), ("_many", e), ("_most", f), ("_sums", g)]
theorem sn01 : ¬ (("_gains" : Str) = "_start") := by decide +kernel
theorem sn02 : ¬ (("_gains" : Str) = "_step") := by decide +kernel
theorem sn03 : ¬ (("_gains" : Str) = "_many") := by decide +kernel
theorem sn04 : ¬ (("_gains" : Str) = "_most") := by decide +kernel
theorem sn05 : ¬ (("_gains" : Str) = "_sums") := by decide +kernel
theorem sn10 : ¬ (("_start" : Str) = "_gains") := by decide +kernel
theorem sn12 : ¬ (("_start" : Str) = "_step") := by decide +kernel
theorem sn13 : ¬ (("_start" : Str) = "_many") := by decide +kernel
theorem sn14 : ¬ (("_start" : Str) = "_most") := by decide +kernel
theorem sn15 : ¬ (("_start" : Str) = "_sums") := by decide +kernel
theorem sn20 : ¬ (("_step" : Str) = "_gains") := by decide +kernel
theorem sn21 : ¬ (("_step" : Str) = "_start") := by decide +kernel
theorem sn23 : ¬ (("_step" : Str) = "_many") := by decide +kernel
theorem sn24 : ¬ (("_step" : Str) = "_most") := by decide +kernel
theorem sn25 : ¬ (("_step" : Str) = "_sums") := by decide +kernel
theorem sn30 : ¬ (("_many" : Str) = "_gains") := by decide +kernel
theorem sn31 : ¬ (("_many" : Str) = "_start") := by decide +kernel
theorem sn32 : ¬ (("_many" : Str) = "_step") := by decide +kernel
theorem sn34 : ¬ (("_many" : Str) = "_most") := by decide +kernel
theorem sn35 : ¬ (("_many" : Str) = "_sums") := by decide +kernel
theorem sn40 : ¬ (("_most" : Str) = "_gains") := by decide +kernel
theorem sn41 : ¬ (("_most" : Str) = "_start") := by decide +kernel
theorem sn42 : ¬ (("_most" : Str) = "_step") := by decide +kernel
theorem sn43 : ¬ (("_most" : Str) = "_many") := by decide +kernel
theorem sn45 : ¬ (("_most" : Str) = "_sums") := by decide +kernel
theorem sn50 : ¬ (("_sums" : Str) = "_gains") := by decide +kernel
theorem sn51 : ¬ (("_sums" : Str) = "_start") := by decide +kernel
theorem sn52 : ¬ (("_sums" : Str) = "_step") := by decide +kernel
theorem sn53 : ¬ (("_sums" : Str) = "_many") := by decide +kernel
theorem sn54 : ¬ (("_sums" : Str) = "_most") := by decide +kernel
theorem sp2 (a b : V) : putF "_start" b (sF1 a) = sF2 a b := by rw [put_cons sn01]; rfl
theorem sp3 (a b d : V) : putF "_step" d (sF2 a b) = sF3 a b d := by rw [put_cons sn02, put_cons sn12]; rfl
theorem sp4 (a b d e : V) : putF "_many" e (sF3 a b d) = sF4 a b d e := by rw [put_cons sn03, put_cons sn13, put_cons sn23]; rfl
theorem sp5 (a b d e f : V) : putF "_most" f (sF4 a b d e) = sF5 a b d e f := by rw [put_cons sn04, put_cons sn14, put_cons sn24, put_cons sn34]; rfl
theorem sp6 (a b d e f g : V) : putF "_sums" g (sF5 a b d e f) = sF6 a b d e f g := by rw [put_cons sn05, put_cons sn15, put_cons sn25, put_cons sn35, put_cons sn45]; rfl
theorem sp7 (a b d e f g h : V) : putF "_sums" h (sF6 a b d e f g) = sF6 a b d e f h := by rw [put_cons sn05, put_cons sn15, put_cons sn25, put_cons sn35, put_cons sn45]; exact congrArg _ (congrArg _ (congrArg _ (congrArg _ (congrArg _ (if_pos rfl)))))
theorem sl0 (a b d e f g : V) : (sF6 a b d e f g).lookup ("_gains" : Str) = some a := by show List.lookup _ [_, _, _, _, _, _] = _; rw [lk_cons, if_pos rfl]
theorem sl1 (a b d e f g : V) : (sF6 a b d e f g).lookup ("_start" : Str) = some b := by show List.lookup _ [_, _, _, _, _, _] = _; rw [lk_cons, if_neg sn10, lk_cons, if_pos rfl]
theorem sl2 (a b d e f g : V) : (sF6 a b d e f g).lookup ("_step" : Str) = some d := by show List.lookup _ [_, _, _, _, _, _] = _; rw [lk_cons, if_neg sn20, lk_cons, if_neg sn21, lk_cons, if_pos rfl]
theorem sl3 (a b d e f g : V) : (sF6 a b d e f g).lookup ("_many" : Str) = some e := by show List.lookup _ [_, _, _, _, _, _] = _; rw [lk_cons, if_neg sn30, lk_cons, if_neg sn31, lk_cons, if_neg sn32, lk_cons, if_pos rfl]
theorem sl4 (a b d e f g : V) : (sF6 a b d e f g).lookup ("_most" : Str) = some f := by show List.lookup _ [_, _, _, _, _, _] = _; rw [lk_cons, if_neg sn40, lk_cons, if_neg sn41, lk_cons, if_neg sn42, lk_cons, if_neg sn43, lk_cons, if_pos rfl]
theorem sl5 (a b d e f g : V) : (sF6 a b d e f g).lookup ("_sums" : Str) = some g := by show List.lookup _ [_, _, _, _, _, _] = _; rw [lk_cons, if_neg sn50, lk_cons, if_neg sn51, lk_cons, if_neg sn52, lk_cons, if_neg sn53, lk_cons, if_neg sn54, lk_cons, if_pos rfl]
theorem sg0 : ¬ (("_greatest_gain" : Str) = "_gains") := by decide +kernel
theorem sg1 : ¬ (("_greatest_gain" : Str) = "_start") := by decide +kernel
theorem sg2 : ¬ (("_greatest_gain" : Str) = "_step") := by decide +kernel
theorem sg3 : ¬ (("_greatest_gain" : Str) = "_many") := by decide +kernel
theorem sg4 : ¬ (("_greatest_gain" : Str) = "_most") := by decide +kernel
theorem sg5 : ¬ (("_greatest_gain" : Str) = "_sums") := by decide +kernel
theorem sgN (a b d e f g : V) : (sF6 a b d e f g).lookup ("_greatest_gain" : Str) = none := by show List.lookup _ [_, _, _, _, _, _] = _; rw [lk_cons, if_neg sg0, lk_cons, if_neg sg1, lk_cons, if_neg sg2, lk_cons, if_neg sg3, lk_cons, if_neg sg4, lk_cons, if_neg sg5]; rfl
theorem sh0 : ¬ (("greatest" : Str) = "_gains") := by decide +kernel
theorem sh1 : ¬ (("greatest" : Str) = "_start") := by decide +kernel
theorem sh2 : ¬ (("greatest" : Str) = "_step") := by decide +kernel
theorem sh3 : ¬ (("greatest" : Str) = "_many") := by decide +kernel
theorem sh4 : ¬ (("greatest" : Str) = "_most") := by decide +kernel
theorem sh5 : ¬ (("greatest" : Str) = "_sums") := by decide +kernel
theorem shN (a b d e f g : V) : (sF6 a b d e f g).lookup ("greatest" : Str) = none := by show List.lookup _ [_, _, _, _, _, _] = _; rw [lk_cons, if_neg sh0, lk_cons, if_neg sh1, lk_cons, if_neg sh2, lk_cons, if_neg sh3, lk_cons, if_neg sh4, lk_cons, if_neg sh5]; rfl
/-- the splits at p: gains, start times many, step, many, most, and the sums so far; its lists are not in B -/
structure SplAt (cS : Addr) (B : List Addr) (H : Hp) (p : Addr) (g : List Int) (st step many most : Int) (sums : List Int) : Prop where
  ex : ∃ dx a b, H p = some (.ins cS dx (sF6 (.ref a) (.int st) (.int step) (.int many) (.int most) (.ref b))) ∧ H a = some (.lst (g.map V.int)) ∧ H b = some (.lst (sums.map V.int)) ∧ a ∉ B ∧ b ∉ B
/-- the values that a frame's slots are known to hold -/
inductive FrL (S : Su) (M : Mu) (H : Hp) : L2.St → De → Prop
  | nil : FrL S M H [] []
  | no {x : Option V} {σ : L2.St} {δ : De} : FrL S M H σ δ → FrL S M H (x :: σ) (none :: δ)
  | yes {v : V} {d : Dt} {σ : L2.St} {δ : De} : Da S M H v d → FrL S M H σ δ → FrL S M H (some v :: σ) (some (.val d) :: δ)
section
variable {S : Su} {M : Mu} {A : List Addr} {H : Hp} {σ : L2.St} {δ : De}
theorem FrL.len (h : FrL S M H σ δ) : σ.length = δ.length := by
  induction h with
  | nil => rfl
  | no _ ih => rw [List.length_cons, List.length_cons, ih]
  | yes _ _ ih => rw [List.length_cons, List.length_cons, ih]
theorem FrL.val (h : FrL S M H σ δ) : ∀ (i : Nat) (d : Dt), δ[i]? = some (some (.val d)) → ∃ v, σ[i]? = some (some v) ∧ Da S M H v d := by
  induction h with
  | nil => intro i d e; simp at e
  | no _ ih =>
    intro i d e
    cases i with
    | zero => cases e
    | succ i => exact ih i d e
  | yes hd _ ih =>
    intro i d e
    cases i with
    | zero => cases e; exact ⟨_, rfl, hd⟩
    | succ i => exact ih i d e
theorem FrL.own (h : FrL S M H σ δ) : ∀ (i : Nat) (l : List Dt), δ[i]? ≠ some (some (.own l)) := by
  induction h with
  | nil => intro i l e; simp at e
  | no _ ih =>
    intro i l e
    cases i with
    | zero => cases e
    | succ i => exact ih i l e
  | yes _ _ ih =>
    intro i l e
    cases i with
    | zero => cases e
    | succ i => exact ih i l e
theorem FrL.fr (h : FrL S M (hv A H) σ δ) (hd : Hd A H) (mA : ∀ e ∈ M, e.1 ∈ A) (m : MOk S M H) : Fr S M A [] σ δ H :=
  ⟨h.len, hd, fun p z => (by cases z), mA, m, h.val, fun i l e => absurd e (h.own i l), fun i j l _ _ e => absurd e (h.own i l)⟩
theorem MOk.ins (m : MOk S M H) {r C dx : Addr} {fs : List (Str × V)} (n : r ∉ M.map Prod.fst) (h : ∀ u, H r = some u → ∃ C dx fs, u = .ins C dx fs) : MOk S M (upd H r (.ins C dx fs)) := ⟨fun e he => by
  obtain ⟨o, q, z⟩ := m.ok e he
  refine ⟨o, ?_, S.mdm (fun b u eb _ _ ni => ?_) z⟩
  · rw [upd_ne fun w => n (by rw [← w]; exact List.mem_map.mpr ⟨e, he, rfl⟩)]
    exact q
  · rw [upd_ne fun w => by
      rw [w] at eb
      obtain ⟨C, dx, fs, y⟩ := h u eb
      exact ni C dx fs y]
    exact eb, m.must⟩
end
theorem gains_len (vals : List Int) (st step : Int) : (gains vals st step).length = vals.length := by
  unfold gains
  rw [List.length_map,
        List.length_range]
section
variable {P : Program} {w : World} {K : PySem.W.Frag} {mg : Str → Option Value} {base : Heap} {c : Addr} {TLb : List (Addr × Str)} {cS : Addr}
/-- Splits.__init__ -/
def sp_Splits_init (S : Su) (cS : Addr) : Sp := fun vs H Q _ => ∃ (r dx a : Addr) (vals : List Int) (st step many most : Int) (M : Mu) (A : List Addr), vs = [.ref r, .ref a, .int st, .int step, .int many, .int most] ∧ H r = some (.ins cS dx []) ∧ r ∉ A ∧ Hd A H ∧ (∀ e ∈ M, e.1 ∈ A) ∧ MOk S M H ∧
  H a = some (.lst (vals.map V.int)) ∧ a ∉ A ∧ vals.length ≤ 9 ∧ (∀ k : Nat, k < 9 → CMulW (k : Int) step) ∧ CMulW st many ∧
  ∀ H', (∀ b o, b ≠ r → b ∉ M.map Prod.fst → H b = some o → H' b = some o) → MOk S M H' → SplAt cS (r :: A) H' r (gains vals st step) (st * many) step many most [] → Q .non H'
theorem rd_Splits_init {f : Addr} {cdv : Value} {Ar : Around} {outer : List Env} {s : Shared} {H : Hp} {vs : List V} {Q : VK} {E : XK} (B : Bl mg) (T : TxS K mg cS)
    (hr : Room 1 (Ar.deeper (envOfC "Splits.__init__" (defScope s_Splits___init__) s.heap.objs.size f cdv))) (h : sp_Splits_init (suR K mg c TLb) cS vs H Q E) :
    ∃ t, PSs (cxOf CX0 P w K mg base ["self", "values", "start", "step", "many", "most", "count", "value"] "Splits.__init__" (defScope s_Splits___init__) f cdv Ar outer s H E).nox (defBody s_Splits___init__) t ∧
      t { nx := fun _ H' => Q .non H', rt := Q } (start ["self", "values", "start", "step", "many", "most", "count", "value"] vs) H := by
  obtain ⟨r, dx, a, vals, st, step, many, most, M, A, rfl, er, rA, hA, mA, m, ea, aA, v9, cm, cs, k⟩ := h
  refine ⟨_, (pss_cons (ps_fld (pv 0) (show PE _ _ (tPF (suR K mg c TLb) E0' (wLc [6, 7] (wEnumU (wV 1)) (wgT 2 (wgCons (wgN 6) (wgCons (wgN 7) wgNil))) wYes (wBin LW.gSub (wBin LW.gSub (wV 7) (wV 2)) (wBin LW.gMul (wV 6) (wV 3))))) from (xLc (own := [("count", 6), ("value", 7)]) (by rfl) sc_Splits___init__.nd (xic (xEnum (by rfl) B.enumerate (xV (pv 1)))) (blkOk_by (own := [("count", 6), ("value", 7)]) (N := ["self", "values", "start", "step", "many", "most", "count", "value"]) (sc := defScope s_Splits___init__) (by decide +kernel)) (fun _ _ _ _ _ => (xgT (n := 2) (by rfl) (xgCons (xgN (pg_name (i := 6) sc_Splits___init__.nd rfl (by first | exact Or.inl rfl | exact Or.inr rfl))) (xgCons (xgN (pg_name (i := 7) sc_Splits___init__.nd rfl (by first | exact Or.inl rfl | exact Or.inr rfl))) xgNil)))) (fun _ _ _ _ _ => xPts0) (fun _ _ _ _ _ => (xBin op_sub pSub (xw (xBin op_sub pSub (xw (xV (pv 7))) (xw (xV (pv 2))))) (xw (xBin op_mulU pMul (xw (xV (pv 6))) (xw (xV (pv 3))))))) (by decide))) rfl)
      (pss_cons (ps_fld (pv 0) (pe_op op_mulW (pv 2) (pv 4)) rfl)
      (pss_cons (ps_fld (pv 0) (pv 3) rfl)
      (pss_cons (ps_fld (pv 0) (pv 4) rfl)
      (pss_cons (ps_fld (pv 0) (pv 5) rfl)
      (pss_one (ps_fld (pv 0) (pe_lst pa_nil) rfl))))))), ?_⟩
  have hA' : Hd (r :: A) H := Hd.cons er hA
  have rM : r ∉ M.map Prod.fst := fun z => by
    obtain ⟨e, he, rfl⟩ := List.mem_map.mp z
    exact rA (mA e he)
  have ar : a ≠ r := fun z => by rw [z, er] at ea; cases ea
  have da : Da (suR K mg c TLb) M (hv (r :: A) H) (.ref a) (.lst (vals.map Dt.int)) := .lst' (by rw [hv_out (by simp [ar, aA])]; exact ea) (.ints _)
  refine ⟨M, r :: A, [], [none, some (.val (.lst (vals.map Dt.int))), some (.val (.int st)), some (.val (.int step)), some (.val (.int many)), some (.val (.int most)), none, none], fun d => d = .lst ((gains vals st step).map Dt.int), nE, FrL.fr (.no (.yes da (.yes (.int _) (.yes (.int _) (.yes (.int _) (.yes (.int _) (.no (.no .nil)))))))) hA' (fun e he => List.mem_cons_of_mem _ (mA e he)) m, ?_, ?_, afx0⟩
  · simp only [a_wFn, a_wSeq, a_wNx, a_wBk, a_wCt, a_wEx, a_wSet, a_wOwn, a_wAsg, a_wPar, a_wRet, a_wRetN, a_wRetF, a_wRetFO, a_wParO, a_wFnF, a_wIfS, a_wApp, a_wExt, a_wFrz, a_wAugI, a_wSetIx, a_wAugIx, a_wFor, a_lookL0, a_lookLS, a_look0, a_lookS, a_lookO0, a_lookO1, a_lookOS, a_wV, a_wO, a_wC, a_wBin, a_wUn, a_wTst, a_wTru, a_wAnd, a_wOr, a_wNot, a_wAndV, a_wOrV, a_wNotV, a_wIf, a_wCh, a_wNil, a_wCons, a_wStar, a_wTup, a_wLst, a_wCal, a_wCall, a_wCall0, a_wCallK, a_wCallB, a_wGot, a_noX, a_wCh3, a_wAugC, gInI_i, a_wCalK, a_wSl, a_wNo, a_wPart, a_wFld, a_wMth, a_wM0, a_wM1, a_wgN, a_wgNil, a_wgCons, a_wgT, a_wLc, a_wYes, a_itK, itK_lst, itK_tup, itK_str, seqD_lst, seqD_tup, a_wRg1, a_wRg2, a_wRg3, a_wEnumU, a_wEnumL, a_wZipU, a_wRevU, a_wComb, wipeD, a_mapS, a_map0, a_lenS, a_len0, List.replicate, a_appS, a_app0, a_set0, a_setS, Nat.reduceAdd, Nat.reduceSub, Nat.zero_add, true_and, and_true, gAdd_i, gAdd_s, gAdd_l, gAdd_t, gCat_l, gSub_i, gMul_i, gMul_l, gMul_t, gFdiv_i, gMod_i, gPow_i, gLt_i, gLe_i, gGt_i, gGe_i, gLen_l, gLen_t, gLen_s, gAbs_i, gToInt_i, gToInt_b, gToBl_i, gToBl_b, gToTup_l, gToTup_t, gToLst_l, gToLst_t, gMax2_i, gMin2_i, gNeg_i, gSl_l, gSl_t, gSl_s, gSlL_l, gRevL_l, gIsN_n, gIsN_b, gIsN_i, gIsN_s, gIsN_l, gIsN_t, gNotN_n, gNotN_b, gNotN_i, gNotN_s, gNotN_l, gNotN_t, truD, gEq_int, gNe_int, Bool.not_true, Bool.not_false]
    refine ⟨_, rfl, by rw [numbered_len, List.length_map]; omega, ?_⟩
    refine lcL_map (fun d => match d with | .tup [.int i, .int v] => .int (v - st - i * step) | _ => .non) (fun d K hd hK => ?_) ?_
    · obtain ⟨i, hi⟩ := List.getElem?_of_mem hd
      rw [numbered_get] at hi
      obtain ⟨xd, hxd, rfl⟩ := Option.map_eq_some_iff.mp hi
      obtain ⟨v, hv, rfl⟩ := some_map hxd
      have li := (List.getElem?_eq_some_iff.mp hv).1
      refine ⟨rfl, rfl, ?_, hK⟩
      rw [Int.zero_add]
      exact cm i (by omega)
    · refine congrArg Dt.lst (List.ext_getElem? fun i => ?_)
      rw [List.getElem?_map, numbered_get, List.getElem?_map, List.getElem?_map]
      unfold gains
      rw [List.getElem?_map]
      rcases Nat.lt_or_ge i vals.length with z | z
      · rw [List.getElem?_range z, List.getElem?_eq_getElem z, Option.map_some, Option.map_some, Option.map_some, Option.map_some, Option.map_some, List.getD_eq_getElem?_getD, List.getElem?_eq_getElem z, Option.getD_some]
        show some (Dt.int (vals[i] - st - (0 + ((i : Nat) : Int)) * step)) = _
        rw [Int.zero_add]
      · rw [List.getElem?_eq_none z, List.getElem?_eq_none (by rw [List.length_range]; exact z)]
        rfl
  · intro p ws ds H1 np s1 m1 ep dq hk
    injection hk with hk
    subst hk
    obtain rfl := dq.of_ints
    have er1 : H1 r = some (.ins cS dx []) := s1.keep r _ rM (by simp) er
    have pr : p ≠ r := fun z => by rw [z, er] at np; cases np
    have pA : p ∉ A := fun z => hA p z np
    have isr : ∀ {H' : Hp} {fs : List (Str × V)}, H' r = some (.ins cS dx fs) → ∀ u, H' r = some u → ∃ C dx fs, u = .ins C dx fs := fun {H' fs} e u eu => by
      rw [e] at eu
      cases eu
      exact ⟨_, _, _, rfl⟩
    have d1 : Hd A H1 := held_stp s1 m1 hA
    have dn : ∀ {H' : Hp} {o : HO}, Hd A H' → Hd A (upd H' r o) := fun {H' o} h b hb z => h b hb (by rwa [upd_ne fun y => rA (by rw [← y]; exact hb)] at z)
    have d2 : Hd A (upd H1 r (.ins cS dx (sF1 (.ref p)))) := dn d1
    have m2 := m1.ins (C := cS) (dx := dx) (fs := sF1 (.ref p)) rM (isr er1)
    refine ⟨_, rfl, r, cS, dx, _, rfl, er1, T.cl, T.nG, (by show 0 < 1000; decide), ?_⟩
    have e2 : (upd H1 r (.ins cS dx (sF1 (.ref p)))) r = some (.ins cS dx (sF1 (.ref p))) := upd_same
    have k2 : ∀ b o, b ≠ r → b ∉ M.map Prod.fst → H b = some o → (upd H1 r (.ins cS dx (sF1 (.ref p)))) b = some o := fun b o n1 n2 e => by rw [upd_ne n1]; exact s1.keep b o n2 (by simp) e
    have p2 : (upd H1 r (.ins cS dx (sF1 (.ref p)))) p = some (.lst ((gains vals st step).map V.int)) := by rw [upd_ne pr]; exact ep
    show tSeq _ _ _ _ (upd H1 r (.ins cS dx (sF1 (.ref p))))
    generalize upd H1 r (.ins cS dx (sF1 (.ref p))) = H2 at e2 k2 p2 m2 d2 ⊢
    refine ⟨_, rfl, _, rfl, _, _, rfl, rfl, cs, _, rfl, r, cS, dx, _, rfl, e2, T.cl, T.nS, (by show 1 < 1000; decide), ?_⟩
    rw [sp2]
    refine ⟨_, rfl, _, rfl, r, cS, dx, _, rfl, upd_same, T.cl, T.nT, (by show 2 < 1000; decide), ?_⟩
    rw [sp3]
    refine ⟨_, rfl, _, rfl, r, cS, dx, _, rfl, upd_same, T.cl, T.nM, (by show 3 < 1000; decide), ?_⟩
    rw [sp4]
    refine ⟨_, rfl, _, rfl, r, cS, dx, _, rfl, upd_same, T.cl, T.nX, (by show 4 < 1000; decide), ?_⟩
    rw [sp5, upd_upd, upd_upd, upd_upd]
    have m6 := m2.ins (C := cS) (dx := dx) (fs := sF5 (.ref p) (.int (st * many)) (.int step) (.int many) (.int most)) rM (isr e2)
    have d6 : Hd A (upd H2 r (.ins cS dx (sF5 (.ref p) (.int (st * many)) (.int step) (.int many) (.int most)))) := dn d2
    have e6 : (upd H2 r (.ins cS dx (sF5 (.ref p) (.int (st * many)) (.int step) (.int many) (.int most)))) r = _ := upd_same
    have k6 : ∀ b o, b ≠ r → b ∉ M.map Prod.fst → H b = some o → (upd H2 r (.ins cS dx (sF5 (.ref p) (.int (st * many)) (.int step) (.int many) (.int most)))) b = some o := fun b o n1 n2 e => by rw [upd_ne n1]; exact k2 b o n1 n2 e
    have p6 : (upd H2 r (.ins cS dx (sF5 (.ref p) (.int (st * many)) (.int step) (.int many) (.int most)))) p = some (.lst ((gains vals st step).map V.int)) := by rw [upd_ne pr]; exact p2
    generalize upd H2 r (.ins cS dx (sF5 (.ref p) (.int (st * many)) (.int step) (.int many) (.int most))) = H6 at e6 k6 p6 m6 d6 ⊢
    refine ⟨by decide, fun q nq => ?_⟩
    have qr : q ≠ r := fun z => by rw [z, e6] at nq; cases nq
    have qp : q ≠ p := fun z => by rw [z, p6] at nq; cases nq
    have qA : q ∉ A := fun z => d6 q z nq
    refine ⟨_, rfl, r, cS, dx, _, rfl, (same_new nq) _ _ e6, T.cl, T.nU, (by show 5 < 1000; decide), ?_⟩
    rw [sp6]
    have m7 := (m6.same (same_new nq (o := .lst []))).ins (C := cS) (dx := dx) (fs := sF6 (.ref p) (.int (st * many)) (.int step) (.int many) (.int most) (.ref q)) rM (isr ((same_new nq) _ _ e6))
    refine k _ (fun b o n1 n2 e => ?_) m7 ⟨dx, p, q, upd_same, ?_, ?_, by simp [pr, pA], by simp [qr, qA]⟩
    · rw [upd_ne n1]
      exact same_new nq _ _ (k6 b o n1 n2 e)
    · rw [upd_ne pr]
      exact same_new nq _ _ p6
    · rw [upd_ne qr, upd_same]
      rfl
/-- numbers of a splits object -/
structure SplOk (g : List Int) (many most items : Int) (sums : List Int) : Prop where
  g9 : g.length ≤ 9
  gb : ∀ x ∈ g, x.natAbs < 2 ^ 8000
  m1 : 1 ≤ many
  m2 : many ≤ 11
  it : 0 ≤ items
  le : items ≤ most
  sm : sums = [] ∨ (sums.length = (min most ((g.length : Int) * many - 1)).toNat + 1 ∧ 0 < (g.length : Int) * many ∧ ∀ t, t < sums.length → Best g many.toNat t (sums.getD t 0))
/-- Splits._greatest_gain -/
def sp_Splits_gain (S : Su) (cS : Addr) : Sp := fun vs H Q _ => ∃ (p : Addr) (M : Mu) (A : List Addr) (g : List Int) (st step many most items : Int) (sums : List Int), vs = [.ref p, .int items] ∧ Hd A H ∧ (∀ e ∈ M, e.1 ∈ A) ∧ MOk S M H ∧ p ∈ A ∧ p ∉ M.map Prod.fst ∧
  SplAt cS A H p g st step many most sums ∧ SplOk g many most items sums ∧
  ∀ v H' sums', Best g many.toNat items.toNat v → (∀ b o, b ≠ p → b ∉ M.map Prod.fst → H b = some o → H' b = some o) → MOk S M H' → SplAt cS A H' p g st step many most sums' → SplOk g many most items sums' → Q (.int v) H'
theorem rd_Splits_gain {f : Addr} {cdv : Value} {Ar : Around} {outer : List Env} {s : Shared} {H : Hp} {vs : List V} {Q : VK} {E : XK} (B : Bl mg) (T : TxS K mg cS)
    (C__with_another_count : Cal P w K mg base 2 "_with_another_count" (spW (suR K mg c TLb) 2 f__with_another_count) [])
    (hr : Room 2 (Ar.deeper (envOfC "Splits._greatest_gain" (defScope s_Splits__greatest_gain) s.heap.objs.size f cdv))) (h : sp_Splits_gain (suR K mg c TLb) cS vs H Q E) :
    ∃ t, PSs (cxOf CX0 P w K mg base ["self", "items", "limit", "length", "_"] "Splits._greatest_gain" (defScope s_Splits__greatest_gain) f cdv Ar outer s H E).nox (defBody s_Splits__greatest_gain) t ∧
      t { nx := fun _ H' => Q .non H', rt := Q } (start ["self", "items", "limit", "length", "_"] vs) H := by
  obtain ⟨p, M, A, g, st, step, many, most, items, sums, rfl, hA, mA, m, pA, pM, SA, ok, k⟩ := h
  refine ⟨_, (pss_cons (ps_set (i := 2) sc_Splits__greatest_gain.nd rfl (Or.inl rfl) (pe_op op_mulW (pe_callB call_len_seq (by rfl) B.len (by decide +kernel) (pa_cons (pe_fld (pv 0) rfl) pa_nil)) (pe_fld (pv 0) rfl)))
      (pss_cons (ps_if (pt_cmpR op_ge (pv 1) (pv 2) (nomark _)) (pss_one (ps_ret (pe_op op_mulW (pe_op op_sub (pe_fld (pv 0) rfl) pe_int) (pe_callB (cr_max rfl) (by rfl) B.max (by decide +kernel) (pa_cons (pe_lst (pa_cons pe_int (pa_star (pe_fld (pv 0) rfl) pa_nil))) pa_nil))))) pss_nil)
      (pss_cons (ps_if (pt_not (pt_truth (pe_fld (pv 0) rfl) (by intro _; rfl))) (pss_cons (ps_set (i := 3) sc_Splits__greatest_gain.nd rfl (Or.inl rfl) (pe_op op_add (pe_callB (call_min2 rfl) (by rfl) B.min (by decide +kernel) (pa_cons (pe_fld (pv 0) rfl) (pa_cons (pe_op op_sub (pv 2) pe_int) pa_nil))) pe_int))
      (pss_cons (ps_fld (pv 0) (pe_slice sl_list (pe_op op_cat (pe_fld (pv 0) rfl) (pe_op op_rep (pe_lst (pa_cons pe_int pa_nil)) (pv 3))) po_none (po_some (pv 3))) rfl)
      (pss_one (ps_for PassesOwn.never rfl (pi_range1 (by rfl) B.range (pa_cons (pe_op op_sub (pe_fld (pv 0) rfl) pe_int) pa_nil)) (pg_name (i := 4) sc_Splits__greatest_gain.nd rfl (Or.inl rfl)) (pss_one (ps_fld (pv 0) (pe_c C__with_another_count hr (by decide) (by rfl) (pa_cons (pe_fld (pv 0) rfl) (pa_cons (pe_fld (pv 0) rfl) pa_nil))) rfl)))))) pss_nil)
      (pss_one (ps_ret (pe_ix ix_seq (pe_fld (pv 0) rfl) (pv 1) (fun _ _ => rfl))))))), ?_⟩
  obtain ⟨dx, a, b, e, ea, eb, aA, bA⟩ := SA.ex
  have g9 := ok.g9
  have m1 := ok.m1
  have m2 := ok.m2
  have it := ok.it
  have le := ok.le
  have lm : ((g.map V.int).length : Int) * many = (g.length : Int) * many := by rw [List.length_map]
  refine ⟨_, rfl, p, cS, dx, _, _, rfl, e, T.cl, T.nG, sl0 _ _ _ _ _ _, a, _, rfl, .inl (.inl (.inl ea)), _, rfl, p, cS, dx, _, _, rfl, e, T.cl, T.nM, sl3 _ _ _ _ _ _, _, _, rfl, rfl, wide_mul (a := 10) (b := 10) (by rw [List.length_map]; omega) (by omega) (by decide) (by decide) (by decide), ?_⟩
  dsimp only
  rw [lm]
  generalize hL : (g.length : Int) * many = limit
  refine ⟨_, rfl, _, rfl, _, _, rfl, rfl, _, rfl, ite2 (fun el => ?_) (fun el => ?_)⟩
  · refine ⟨_, rfl, p, cS, dx, _, _, rfl, e, T.cl, T.nM, sl3 _ _ _ _ _ _, _, _, rfl, rfl, ?_⟩
    refine ⟨_, rfl, p, cS, dx, _, _, rfl, e, T.cl, T.nG, sl0 _ _ _ _ _ _, a, _, rfl, .inr (.inl (.inl ea)), ⟨?_, fun l nl => ?_⟩⟩
    · rw [List.append_nil, List.length_cons, List.length_map, sizeLine_eq]; omega
    rw [List.append_nil]
    refine ⟨l, 0 :: g, rfl, .inl (.inl upd_same), by simp, fun mx hm hmx => ?_⟩
    have m0 := hmx 0 (by simp)
    have mb : mx.natAbs < 2 ^ 8000 := by
      rcases List.mem_cons.mp hm with z | z
      · rw [z]; exact Nat.lt_of_le_of_lt (Nat.zero_le 0) (by decide +kernel)
      · exact ok.gb _ z
    refine ⟨_, _, rfl, rfl, wide_mul (a := 10) (b := 8000) (by omega) mb (by decide) (by decide) (by decide), ?_⟩
    have ll : limit ≤ items := of_decide_eq_true el
    have eb' : ((many.toNat - 1 : Nat) : Int) * mx = (many - 1) * mx := by
      rw [show ((many.toNat - 1 : Nat) : Int) = many - 1 by omega]
    have nn : g.length * many.toNat ≤ items.toNat := by
      have : ((g.length * many.toNat : Nat) : Int) = limit := by rw [Int.natCast_mul, Int.toNat_of_nonneg (by omega), hL]
      omega
    have bm := best_many (g := g) (c := many.toNat) (t := items.toNat) (by omega) nn (M := mx) ((List.mem_cons.mp hm).imp id id) ⟨m0, fun x hx => hmx x (List.mem_cons_of_mem _ hx)⟩
    rw [eb'] at bm
    exact k _ _ sums bm (fun b o _ _ e => same_new nl _ _ e) (m.same (same_new nl)) ⟨dx, a, b, same_new nl _ _ e, same_new nl _ _ ea, same_new nl _ _ eb, aA, bA⟩ ok
  · have ll : items < limit := Int.not_le.mp fun z => el (decide_eq_true z)
    have l99 : limit ≤ 99 := by
      rw [← hL]
      exact Int.le_trans (Int.mul_le_mul (show (g.length : Int) ≤ 9 by omega) m2 (by omega) (by omega)) (by decide)
    dsimp only [tNext, tSeq]
    refine viaIf (fun σ' H' => ∃ x y sums', σ' = [some (.ref p), some (.int items), some (.int limit), x, y] ∧ (∀ b o, b ≠ p → b ∉ M.map Prod.fst → H b = some o → H' b = some o) ∧ MOk (suR K mg c TLb) M H' ∧ SplAt cS A H' p g st step many most sums' ∧ SplOk g many most items sums' ∧ sums' ≠ []) (fun D' hP => ?_) (fun σ' H' hP => ?_)
    · refine ⟨_, rfl, p, cS, dx, _, _, rfl, e, T.cl, T.nU, sl5 _ _ _ _ _ _, _, .inl ⟨_, .inl (.inl eb), rfl⟩, ite2 (fun es => ?_) (fun es => ?_)⟩
      · refine ⟨_, rfl, p, cS, dx, _, _, rfl, e, T.cl, T.nX, sl4 _ _ _ _ _ _, _, rfl, _, _, rfl, rfl, _, _, rfl, _, _, rfl, rfl, ?_⟩
        dsimp only
        generalize hlen : (if limit - 1 < most then limit - 1 else most) + 1 = len
        have ln : 1 ≤ len ∧ len ≤ limit ∧ len = min most (limit - 1) + 1 ∧ items < len := by
          split at hlen <;> omega
        refine ⟨_, rfl, p, cS, dx, _, _, rfl, e, T.cl, T.nG, sl0 _ _ _ _ _ _, ⟨by decide, fun l nl => ⟨_, rfl, l, _, [.int 0], rfl, rfl, upd_same, by omega, by omega, ?_, fun l2 nl2 => ?_⟩⟩⟩
        · rw [sizeLine_eq]; simp; omega
        have rf : (List.replicate len.toNat [V.int 0]).flatten = (List.replicate len.toNat (0 : Int)).map V.int := by
          generalize len.toNat = n
          induction n with
          | zero => rfl
          | succ n ih => rw [List.replicate_succ, List.replicate_succ, List.flatten_cons, ih]; rfl
        have s1 : Same H (upd (upd H l (.lst [.int 0])) l2 (.lst (List.replicate len.toNat [V.int 0]).flatten)) := (same_new nl).trans (same_new nl2)
        refine ⟨a, l2, _, _, rfl, rfl, s1 _ _ ea, upd_same, ?_, fun l3 nl3 => ?_⟩
        · rw [rf]
          simp only [List.length_map, List.length_replicate, sizeLine_eq]
          omega
        have ct : cutV (g.map V.int ++ (List.replicate len.toNat [V.int 0]).flatten) none (some len) = ((g ++ List.replicate len.toNat 0).take len.toNat).map V.int := by
          rw [rf, ← List.map_append]
          have lle : min len.toNat ((g ++ List.replicate len.toNat 0).map V.int).length = len.toNat := by
            rw [List.length_map, List.length_append, List.length_replicate]
            omega
          show (((g ++ List.replicate len.toNat 0).map V.int).drop 0).take ((if len < 0 then _ else min len.toNat ((g ++ List.replicate len.toNat 0).map V.int).length) - 0) = _
          rw [if_neg (by omega), lle, List.drop_zero, Nat.sub_zero, List.map_take]
        refine ⟨_, rfl, _, rfl, l3, _, rfl, .inl (.inl upd_same), fun l4 nl4 => ?_⟩
        rw [ct]
        have s4 : Same H (upd (upd (upd (upd H l (.lst [.int 0])) l2 (.lst (List.replicate len.toNat [V.int 0]).flatten)) l3 (.lst (g.map V.int ++ (List.replicate len.toNat [V.int 0]).flatten))) l4 (.lst (((g ++ List.replicate len.toNat 0).take len.toNat).map V.int))) := (s1.trans (same_new nl3)).trans (same_new nl4)
        have e4 := s4 _ _ e
        refine ⟨_, rfl, p, cS, dx, _, rfl, e4, T.cl, T.nU, (by show 6 < 1000; decide), ?_⟩
        rw [sp7]
        have nA : ∀ {q : Addr} {H' : Hp}, Same H H' → H' q = none → q ∉ A := fun {q H'} s n z => by
          cases y : H q with
          | none => exact hA q z y
          | some o => rw [s _ _ y] at n; cases n
        have m4 := (m.same s4).ins (C := cS) (dx := dx) (fs := sF6 (.ref a) (.int st) (.int step) (.int many) (.int most) (.ref l4)) pM (fun u eu => by rw [e4] at eu; cases eu; exact ⟨_, _, _, rfl⟩)
        have l4p : l4 ≠ p := fun z => by rw [z, (s1.trans (same_new nl3)) _ _ e] at nl4; cases nl4
        have ap : a ≠ p := fun z => by rw [z, e] at ea; cases ea
        have S4 : SplAt cS A (upd (upd (upd (upd (upd H l (.lst [.int 0])) l2 (.lst (List.replicate len.toNat [V.int 0]).flatten)) l3 (.lst (g.map V.int ++ (List.replicate len.toNat [V.int 0]).flatten))) l4 (.lst (((g ++ List.replicate len.toNat 0).take len.toNat).map V.int))) p (.ins cS dx (sF6 (.ref a) (.int st) (.int step) (.int many) (.int most) (.ref l4)))) p g st step many most ((g ++ List.replicate len.toNat 0).take len.toNat) :=
          ⟨dx, a, l4, upd_same, by rw [upd_ne ap]; exact s4 _ _ ea, by rw [upd_ne l4p, upd_same], aA, nA (s1.trans (same_new nl3)) nl4⟩
        have k4 : ∀ b o, b ≠ p → b ∉ M.map Prod.fst → H b = some o → (upd (upd (upd (upd (upd H l (.lst [.int 0])) l2 (.lst (List.replicate len.toNat [V.int 0]).flatten)) l3 (.lst (g.map V.int ++ (List.replicate len.toNat [V.int 0]).flatten))) l4 (.lst (((g ++ List.replicate len.toNat 0).take len.toNat).map V.int))) p (.ins cS dx (sF6 (.ref a) (.int st) (.int step) (.int many) (.int most) (.ref l4)))) b = some o := fun b o n1 _ eb => by rw [upd_ne n1]; exact s4 _ _ eb
        generalize upd (upd (upd (upd (upd H l (.lst [.int 0])) l2 (.lst (List.replicate len.toNat [V.int 0]).flatten)) l3 (.lst (g.map V.int ++ (List.replicate len.toNat [V.int 0]).flatten))) l4 (.lst (((g ++ List.replicate len.toNat 0).take len.toNat).map V.int))) p (.ins cS dx (sF6 (.ref a) (.int st) (.int step) (.int many) (.int most) (.ref l4))) = H5 at m4 S4 k4 ⊢
        have l5 : ((g ++ List.replicate len.toNat 0).take len.toNat).length = len.toNat := by
          rw [List.length_take, List.length_append, List.length_replicate]; omega
        have b5 : ∀ t, t < len.toNat → Best g 1 t (((g ++ List.replicate len.toNat 0).take len.toNat).getD t 0) := fun t ht => by
          have z : ((g ++ List.replicate len.toNat 0).take len.toNat).getD t 0 = gn g t := by
            unfold gn
            rw [List.getD_eq_getElem?_getD, List.getD_eq_getElem?_getD, List.getElem?_take_of_lt ht]
            rcases Nat.lt_or_ge t g.length with y | y
            · rw [List.getElem?_append_left y]
            · rw [List.getElem?_append_right y, List.getElem?_replicate, List.getElem?_eq_none y]
              split <;> rfl
          rw [z]
          exact best_one g t
        generalize (g ++ List.replicate len.toNat 0).take len.toNat = sums1 at S4 l5 b5
        obtain ⟨dx5, a5, b5', e5, ea5, eb5, aA5, bA5⟩ := S4.ex
        refine ⟨_, rfl, p, cS, dx5, _, _, rfl, e5, T.cl, T.nM, sl3 _ _ _ _ _ _, _, _, rfl, rfl, ?_⟩
        refine ⟨_, rfl, by omega, by omega, ?_⟩
        refine for_range (fun i σ' H' => ∃ x, σ' = [some (.ref p), some (.int items), some (.int limit), some (.int len), x] ∧ (∀ b o, b ≠ p → b ∉ M.map Prod.fst → H b = some o → H' b = some o) ∧ MOk (suR K mg c TLb) M H' ∧ ∃ sumsI : List Int, SplAt cS A H' p g st step many most sumsI ∧ sumsI.length = len.toNat ∧ ∀ t, t < len.toNat → Best g (i + 1) t (sumsI.getD t 0)) ⟨none, rfl, k4, m4, sums1, S4, l5, b5⟩ ?_ ?_
        · rintro i σ' H' hi ⟨x, rfl, kk, mm, sumsI, SI, lI, bI⟩
          obtain ⟨dxI, aI, bI', eI, eaI, ebI, aAI, bAI⟩ := SI.ex
          have dI : Hd A H' := fun q hq z => by
            by_cases y : q = p
            · rw [y, eI] at z; cases z
            · by_cases w : q ∈ M.map Prod.fst
              · exact mm.held w z
              · cases u : H q with
                | none => exact hA q hq u
                | some o => rw [kk q o y w u] at z; cases z
          refine ⟨_, rfl, p, cS, dxI, _, _, rfl, eI, T.cl, T.nG, sl0 _ _ _ _ _ _, _, rfl, p, cS, dxI, _, _, rfl, eI, T.cl, T.nU, sl5 _ _ _ _ _ _, ?_⟩
          refine ⟨M, A, [.lst (g.map Dt.int), .lst (sumsI.map Dt.int)], fun d => ∃ (filler : Int) (new : List Int), d = .lst (new.map Dt.int) ∧ (∀ x ∈ sumsI, ∀ y ∈ g ++ [0], filler ≤ x + y) ∧ new.length = sumsI.length ∧ ∀ t, t < sumsI.length → (∃ count, count ≤ g.length ∧ rowAt g sumsI filler t count = new.getD t 0) ∧ ∀ count, count ≤ g.length → rowAt g sumsI filler t count ≤ new.getD t 0, nE, rfl, dI, mA, mm, ?_, ?_, ?_, afx0⟩
          · refine .cons (.lst' (by rw [hv_out aAI]; exact eaI) (.ints _)) (.cons (.lst' (by rw [hv_out bAI]; exact ebI) (.ints _)) .nil)
          · refine ⟨g, sumsI, rfl, g9, fun z => by rw [z] at lI; simp at lI; omega, by omega, fun filler new h1 h2 h3 => ⟨filler, new, rfl, h1, h2, h3⟩⟩
          · rintro v d H2 s2 m2 hv ⟨filler, new, rfl, h1, h2, h3⟩
            obtain ⟨q, ws, rfl, eq, dq⟩ := hv.list
            obtain rfl := dq.of_ints
            have qA : q ∉ A := fun z => by rw [hv_in z] at eq; cases eq
            have eq' := hv_le _ _ eq
            have qp : q ≠ p := fun z => qA (by rw [z]; exact pA)
            have e2 := s2.keep p _ pM (by simp) eI
            have aM : aI ∉ M.map Prod.fst := fun z => by
              obtain ⟨x, hx, rfl⟩ := List.mem_map.mp z
              exact aAI (mA x hx)
            have ap : aI ≠ p := fun z => aAI (by rw [z]; exact pA)
            refine ⟨_, rfl, p, cS, dxI, _, rfl, e2, T.cl, T.nU, (by show 6 < 1000; decide), ?_⟩
            rw [sp7]
            refine ⟨_, rfl, fun b o n1 n2 eb => by rw [upd_ne n1]; exact s2.keep b o n2 (by simp) (kk b o n1 n2 eb), m2.ins pM (fun u eu => by rw [e2] at eu; cases eu; exact ⟨_, _, _, rfl⟩), new, ⟨dxI, aI, q, upd_same, by rw [upd_ne ap]; exact s2.keep aI _ aM (by simp) eaI, by rw [upd_ne qp]; exact eq', aAI, qA⟩, by omega, fun t ht => ?_⟩
            have ht' : t < sumsI.length := by omega
            obtain ⟨h4, h5⟩ := h3 t ht'
            refine best_step (c := i + 1) (by omega) (fun t ht => bI t (by omega)) ht' (filler := filler) ?_ h4 h5
            unfold rowAt
            rw [if_neg (Nat.not_lt_zero _), Nat.sub_zero, List.getD_eq_getElem?_getD, List.getElem?_eq_getElem ht']
            refine h1 _ (List.getElem_mem _) _ ?_
            cases g with
            | nil => simp
            | cons x r => simp
        · rintro σ' H' ⟨x, rfl, kk, mm, sumsI, SI, lI, bI⟩
          refine hP _ _ ⟨_, _, sumsI, rfl, kk, mm, SI, ⟨g9, ok.gb, m1, m2, it, le, .inr ⟨?_, ?_, fun t ht => ?_⟩⟩, fun z => by rw [z] at lI; simp at lI; omega⟩
          · rw [lI, hL]
            omega
          · rw [hL]; omega
          · have := bI t (by omega)
            rwa [show (many - 1).toNat + 1 = many.toNat by omega] at this
      · refine hP _ _ ⟨_, _, sums, rfl, fun _ _ _ _ z => z, m, SA, ok, fun z => es ?_⟩
        rw [z]
        rfl
    · obtain ⟨x, y, sums', rfl, kk, mm, S', ok', ne'⟩ := hP
      obtain ⟨dx', a', b', e', ea', eb', aA', bA'⟩ := S'.ex
      rcases ok'.sm with z | ⟨l', c', B'⟩
      · exact absurd z ne'
      · have hi : items.toNat < sums'.length := by rw [hL] at l'; omega
        have get : (sums'.map V.int)[items.toNat]? = some (.int (sums'.getD items.toNat 0)) := by
          rw [List.getElem?_map, List.getD_eq_getElem?_getD, List.getElem?_eq_getElem hi]
          rfl
        exact ⟨_, rfl, p, cS, dx', _, _, rfl, e', T.cl, T.nU, sl5 _ _ _ _ _ _, _, rfl, .inl ⟨b', _, items, _, rfl, rfl, .inl (.inl eb'), atI_of it get, k _ _ sums' (B' _ hi) kk mm S' ok'⟩⟩
/-- Splits.greatest -/
def sp_Splits_greatest (S : Su) (cS : Addr) : Sp := fun vs H Q _ => ∃ (p : Addr) (M : Mu) (A : List Addr) (g : List Int) (st step many most items : Int) (sums : List Int), vs = [.ref p, .int items] ∧ Hd A H ∧ (∀ e ∈ M, e.1 ∈ A) ∧ MOk S M H ∧ p ∈ A ∧ p ∉ M.map Prod.fst ∧
  SplAt cS A H p g st step many most sums ∧ SplOk g many most items sums ∧ CMulW items step ∧
  ∀ v H' sums', Best g many.toNat items.toNat v → (∀ b o, b ≠ p → b ∉ M.map Prod.fst → H b = some o → H' b = some o) → MOk S M H' → SplAt cS A H' p g st step many most sums' → SplOk g many most items sums' → Q (.int (st + items * step + v)) H'
theorem rd_Splits_greatest {f : Addr} {cdv : Value} {Ar : Around} {outer : List Env} {s : Shared} {H : Hp} {vs : List V} {Q : VK} {E : XK} (B : Bl mg) (T : TxS K mg cS)
    (M_gain : Met P w K mg base 3 cS "_greatest_gain" (sp_Splits_gain (suR K mg c TLb) cS))
    (hr : Room 3 (Ar.deeper (envOfC "Splits.greatest" (defScope s_Splits_greatest) s.heap.objs.size f cdv))) (h : sp_Splits_greatest (suR K mg c TLb) cS vs H Q E) :
    ∃ t, PSs (cxOf CX0 P w K mg base ["self", "items"] "Splits.greatest" (defScope s_Splits_greatest) f cdv Ar outer s H E).nox (defBody s_Splits_greatest) t ∧
      t { nx := fun _ H' => Q .non H', rt := Q } (start ["self", "items"] vs) H := by
  obtain ⟨p, M, A, g, st, step, many, most, items, sums, rfl, hA, mA, m, pA, pM, SA, ok, cm, k⟩ := h
  refine ⟨_, (pss_one (ps_ret (pe_op op_add (pe_op op_add (pe_fld (pv 0) rfl) (pe_op op_mulW (pv 1) (pe_fld (pv 0) rfl))) (pe_mt M_gain hr (by decide) (pv 0) (pa_cons (pv 1) pa_nil))))), ?_⟩
  obtain ⟨dx, a, b, e, ea, eb, aA, bA⟩ := SA.ex
  refine ⟨_, rfl, p, cS, dx, _, _, rfl, e, T.cl, T.nS, sl1 _ _ _ _ _ _, _, rfl, _, rfl, p, cS, dx, _, _, rfl, e, T.cl, T.nT, sl2 _ _ _ _ _ _, _, _, rfl, rfl, cm, _, _, rfl, rfl, ?_⟩
  refine ⟨_, rfl, p, dx, _, rfl, e, sgN _ _ _ _ _ _, _, rfl, ?_⟩
  refine ⟨p, M, A, g, st, step, many, most, items, sums, rfl, hA, mA, m, pA, pM, SA, ok, fun v H' sums' h1 h2 h3 h4 h5 => ?_⟩
  exact ⟨_, _, rfl, rfl, k v H' sums' h1 h2 h3 h4 h5⟩
/-- next_mark_splits: a new thing -/
def sp_next_mark_splits (S : Su) (c cS : Addr) : Sp := fun vs H Q _ => ∃ (r : Addr) (M : Mu) (A : List Addr) (o : Int × Int) (hd : List (Int × Int)) (least many most : Int), vs = [.ref r, .int least, .int many, .int most] ∧ Hd A H ∧ (∀ e ∈ M, e.1 ∈ A) ∧ MOk S M H ∧ RuleAt S.K c [] H r o hd ∧ VR o hd ∧
  0 ≤ least ∧ least ≤ 1 ∧ 1 ≤ many ∧ many ≤ 11 ∧
  ∀ p H', H p = none → (∀ b o, b ∉ M.map Prod.fst → H b = some o → H' b = some o) → MOk S M H' → SplAt cS (p :: A) H' p (gains ((List.range (hd.length - least.toNat)).map fun k => wholeQ o hd (least + (k : Nat))) (timesQ (unitQ o hd) o + least * unitQ o hd) (unitQ o hd)) ((timesQ (unitQ o hd) o + least * unitQ o hd) * many) (unitQ o hd) many most [] → Q (.ref p) H'
theorem rd_next_mark_splits {f : Addr} {cdv : Value} {Ar : Around} {outer : List Env} {s : Shared} {H : Hp} {vs : List V} {Q : VK} {E : XK} (B : Bl mg) (T : Tx K mg c)
    (M_Splits : MakF P w K mg base 2 "Splits" cS (sp_Splits_init (suR K mg c TLb) cS)) (M_whole_mark : Met P w K mg base 1 c "whole_mark" (sp_Rule_whole_mark K c))
    (hr : Room 3 (Ar.deeper (envOfC "next_mark_splits" (defScope s_next_mark_splits) s.heap.objs.size f cdv))) (h : sp_next_mark_splits (suR K mg c TLb) c cS vs H Q E) :
    ∃ t, PSs (cxOf CX0 P w K mg base ["rule", "least", "many", "most", "values", "count"] "next_mark_splits" (defScope s_next_mark_splits) f cdv Ar outer s H E).nox (defBody s_next_mark_splits) t ∧
      t { nx := fun _ H' => Q .non H', rt := Q } (start ["rule", "least", "many", "most", "values", "count"] vs) H := by
  obtain ⟨r, M, A, o, hd, least, many, most, rfl, hA, mA, m, R, vr, l0, l1, m1, m2, k⟩ := h
  refine ⟨_, (pss_cons (ps_setLc (i := 4) (own := [("count", 5)]) (by rfl) sc_next_mark_splits.nd rfl rfl (sw_true rfl rfl rfl (by decide +kernel)) (pi_range2 (by rfl) B.range (pa_cons (pv 1) (pa_cons (pe_callB call_len_seq (by rfl) B.len (by decide +kernel) (pa_cons (pe_fld (pv 0) rfl) pa_nil)) pa_nil))) (blkOk_by (own := [("count", 5)]) (N := ["rule", "least", "many", "most", "values", "count"]) (sc := defScope s_next_mark_splits) (by decide +kernel)) (fun _ _ _ _ _ => (pg_name (i := 5) sc_next_mark_splits.nd rfl (Or.inl rfl))) (fun _ _ _ _ _ => pts_nil) (fun _ _ _ _ _ => (pe_mt M_whole_mark hr (by decide) (pv 0) (pa_cons (pv 5) pa_nil))))
      (pss_one (ps_ret (pe_mkF M_Splits hr (by decide) (by rfl) (pa_cons (pv 4) (pa_cons (pe_op op_add (pe_fld (pv 0) rfl) (pe_op op_mulW (pv 1) (pe_fld (pv 0) rfl))) (pa_cons (pe_fld (pv 0) rfl) (pa_cons (pv 2) (pa_cons (pv 3) pa_nil))))))))), ?_⟩
  obtain ⟨dx, v0, v1, v2, v3, er, h0, h1, h2, h3⟩ := R.ex
  obtain ⟨a, ws, rfl, sq, all⟩ := is_tup h1
  have wl : ws.length = hd.length := by rw [all.len, List.length_map]
  have v8 := vr.len
  have U := vr.unit
  have t1 : 0 ≤ timesQ (unitQ o hd) o ∧ timesQ (unitQ o hd) o ≤ unitQ o hd := by
    obtain ⟨x, hx⟩ := U.2.2 o List.mem_cons_self
    have b := (vr.bots o List.mem_cons_self).1
    have a0 := vr.ok.a
    have a1 := vr.le1
    unfold timesQ
    rw [hx, Int.mul_ediv_cancel_left _ (by omega)]
    have x0 : 0 ≤ x := by
      have : 0 < o.2 * x := by rw [← hx]; exact U.1
      exact Int.not_lt.mp fun z => by have := Int.mul_neg_of_pos_of_neg b z; omega
    exact ⟨Int.mul_nonneg a0 x0, Int.mul_le_mul_of_nonneg_right a1 x0⟩
  refine ⟨_, rfl, _, rfl, r, c, dx, _, _, rfl, er, T.cl, T.nH, lkH _ _ _, a, _, rfl, .inr (sqT_full sq), _, _, rfl, ⟨by omega, by omega, by omega, by omega⟩, fun D0 nD => ?_⟩
  have DA : D0 ∉ A := fun z => hA D0 z nD
  refine lc_range (lo := least) (fun i H8 => Same H H8 ∧ H8 D0 = some (.lst (((List.range i).map fun k => wholeQ o hd (least + ((k : Nat) : Int))).map V.int))) ⟨same_new nD, upd_same⟩ ?_ ?_
  · rintro i H8 hi ⟨s8, eD⟩
    have i9 : i ≤ 8 := by omega
    refine ⟨rfl, _, rfl, r, dx, _, rfl, s8 _ _ er, by simp [rFs, putF]; decide +kernel, _, rfl, ?_⟩
    refine ⟨r, [], o, hd, _, rfl, R.same s8, vr, by omega, Nat.lt_of_le_of_lt (show (least + ((i : Nat) : Int)).natAbs ≤ 9 by omega) (by decide +kernel), _, eD, ?_, fun b' o' e' => ?_, ?_⟩
    · rw [List.length_map, List.length_map, List.length_range]
      exact small1000 (by omega)
    · rw [upd_ne (ne_of_none e' nD)]
      exact s8 _ _ e'
    · rw [upd_same, List.range_succ, List.map_append, List.map_append]
      rfl
  · rintro H8 ⟨s8, eD⟩
    have er8 := s8 _ _ er
    have ul := U.2.1
    refine ⟨_, rfl, _, rfl, r, c, dx, _, _, rfl, er8, T.cl, T.nX, lkX _ _ _ _ _ _, _, rfl, _, rfl, r, c, dx, _, _, rfl, er8, T.cl, T.nU, lkU _ _ _ _, _, _, rfl, rfl, wide_mul (a := 10) (b := 3201) (by omega) ul (by decide) (by decide) (by decide), _, _, rfl, rfl, _, rfl, r, c, dx, _, _, rfl, er8, T.cl, T.nU, lkU _ _ _ _, _, rfl, _, rfl, fun x dx' nx ndx ne => ?_⟩
    have s9 : Same H (upd (upd H8 dx' (.own x)) x (.ins cS dx' [])) := s8.trans ((same_new ndx).trans (same_new (by rw [upd_ne fun z => ne z.symm]; exact nx)))
    have xA : x ∉ A := fun z => by
      cases y : H x with
      | none => exact hA x z y
      | some u => rw [s8 _ _ y] at nx; cases nx
    have Dx : D0 ≠ x := fun z => by rw [z, nx] at eD; cases eD
    have Ddx : D0 ≠ dx' := fun z => by rw [z, ndx] at eD; cases eD
    have wn : ((ws.length : Int) - least).toNat = hd.length - least.toNat := by omega
    have ll : least * unitQ o hd = 0 ∨ least * unitQ o hd = unitQ o hd := by
      rcases (show least = 0 ∨ least = 1 by omega) with z | z
      · rw [z, Int.zero_mul]; exact .inl rfl
      · rw [z, Int.one_mul]; exact .inr rfl
    rw [wn] at eD
    refine ⟨x, dx', D0, _, _, _, many, most, M, A, rfl, upd_same, xA, (Go.of s9).held hA, mA, m.same s9, by rw [upd_ne Dx, upd_ne Ddx]; exact eD, DA, by rw [List.length_map, List.length_range]; omega, fun k hk => wide_mul (a := 10) (b := 3201) (by omega) ul (by decide) (by decide) (by decide), wide_mul (a := 3203) (b := 10) ?_ (by omega) (by decide) (by decide) (by decide), fun H' kk mm SA => ⟨rfl, k x H' ?_ (fun b ob n2 eb => ?_) mm SA⟩⟩
    · have : (unitQ o hd).natAbs + (unitQ o hd).natAbs < 2 ^ 3203 := Nat.lt_of_lt_of_le (Nat.add_lt_add ul ul) (by decide +kernel)
      omega
    · cases y : H x with
      | none => rfl
      | some u => rw [s8 _ _ y] at nx; cases nx
    · exact kk b ob (fun z => by rw [z] at eb; rw [s8 _ _ eb] at nx; cases nx) n2 (s9 _ _ eb)
theorem mak_Splits {f : Addr} {fd : FuncData} (B : Bl mg) (T : TxS K mg cS) (hg : mg "Splits" = some (.ref cS)) (F : Fun K "__init__" "Splits.__init__" s_Splits___init__ f fd) (M : Mk K cS f) : MakF P w K mg base 2 "Splits" cS (sp_Splits_init (suR K mg c TLb) cS) :=
  ⟨f, fd, ["self", "values", "start", "step", "many", "most"], M, F.ok sc_Splits___init__ (fun vs H Q E h => by obtain ⟨_, _, _, _, _, _, _, _, _, _, rfl, _⟩ := h; rfl) (fun cdv A outer s H vs Q E hr h => rd_Splits_init B T hr h), F.binds (fun _ _ _ _ _ _ us hl => match us, hl with | [_, _, _, _, _, _], _ => rfl), hg⟩
theorem met_Splits_gain {f : Addr} {fd : FuncData} (B : Bl mg) (T : TxS K mg cS) (F : Fun K "_greatest_gain" "Splits._greatest_gain" s_Splits__greatest_gain f fd) (me : Meth K cS "_greatest_gain" f)
    (C__with_another_count : Cal P w K mg base 2 "_with_another_count" (spW (suR K mg c TLb) 2 f__with_another_count) []) : Met P w K mg base 3 cS "_greatest_gain" (sp_Splits_gain (suR K mg c TLb) cS) :=
  ⟨f, fd, ["self", "items"], T.cl, me, F.ok sc_Splits__greatest_gain (fun vs H Q E h => by obtain ⟨_, _, _, _, _, _, _, _, _, _, rfl, _⟩ := h; rfl) (fun cdv A outer s H vs Q E hr h => rd_Splits_gain B T C__with_another_count hr h), F.binds (fun _ _ _ _ _ _ us hl => match us, hl with | [_, _], _ => rfl)⟩
theorem met_Splits_greatest {f : Addr} {fd : FuncData} (B : Bl mg) (T : TxS K mg cS) (F : Fun K "greatest" "Splits.greatest" s_Splits_greatest f fd) (me : Meth K cS "greatest" f)
    (M_gain : Met P w K mg base 3 cS "_greatest_gain" (sp_Splits_gain (suR K mg c TLb) cS)) : Met P w K mg base 4 cS "greatest" (sp_Splits_greatest (suR K mg c TLb) cS) :=
  ⟨f, fd, ["self", "items"], T.cl, me, F.ok sc_Splits_greatest (fun vs H Q E h => by obtain ⟨_, _, _, _, _, _, _, _, _, _, rfl, _⟩ := h; rfl) (fun cdv A outer s H vs Q E hr h => rd_Splits_greatest B T M_gain hr h), F.binds (fun _ _ _ _ _ _ us hl => match us, hl with | [_, _], _ => rfl)⟩
theorem cal_next_mark_splits (B : Bl mg) (T : Tx K mg c) (DD : OwnDef K mg "next_mark_splits" s_next_mark_splits) (M_Splits : MakF P w K mg base 2 "Splits" cS (sp_Splits_init (suR K mg c TLb) cS)) (M_whole_mark : Met P w K mg base 1 c "whole_mark" (sp_Rule_whole_mark K c)) :
    Cal P w K mg base 4 "next_mark_splits" (sp_next_mark_splits (suR K mg c TLb) c cS) [] := by
  obtain ⟨f, fd, F, hm⟩ := DD.ex
  exact ⟨f, fd, ["rule", "least", "many", "most"], [], F.ok sc_next_mark_splits (fun vs H Q E h => by obtain ⟨_, _, _, _, _, _, _, _, rfl, _⟩ := h; rfl) (fun cdv A outer s H vs Q E hr h => rd_next_mark_splits B T M_Splits M_whole_mark hr h), hm, F.kp, F.binds (fun _ _ _ _ _ _ us hl => match us, hl with | [_, _, _, _], _ => rfl), .nil⟩
end
end LW
set_option Elab.async false
set_option linter.all false
set_option maxRecDepth 100000
set_option maxHeartbeats 4000100
set_option exponentiation.threshold 20000
namespace LW
open L2 PySem.Spec PyProof.Rows PySem
abbrev s_is_number_of_claimants : Stmt := topS 24
theorem sc_is_number_of_claimants : FnScope ["value", "most"] ["value", "most"] (defScope s_is_number_of_claimants) := ⟨rfl, rfl, rfl, by decide +kernel, rfl, by decide +kernel, by decide +kernel⟩
abbrev s_check_claimants : Stmt := topS 41
theorem sc_check_claimants : FnScope ["value", "most"] ["value", "most"] (defScope s_check_claimants) := ⟨rfl, rfl, rfl, by decide +kernel, rfl, by decide +kernel, by decide +kernel⟩
abbrev s_check_count : Stmt := topS 42
theorem sc_check_count : FnScope ["value"] ["value"] (defScope s_check_count) := ⟨rfl, rfl, rfl, by decide +kernel, rfl, by decide +kernel, by decide +kernel⟩
abbrev s_check_at_most : Stmt := topS 43
theorem sc_check_at_most : FnScope ["items", "limit"] ["items", "limit"] (defScope s_check_at_most) := ⟨rfl, rfl, rfl, by decide +kernel, rfl, by decide +kernel, by decide +kernel⟩
abbrev s__check : Stmt := topS 53
theorem sc__check : FnScope ["rule", "claimants", "items"] ["rule", "claimants", "items"] (defScope s__check) := ⟨rfl, rfl, rfl, by decide +kernel, rfl, by decide +kernel, by decide +kernel⟩
abbrev s_least_possible : Stmt := topS 54
theorem sc_least_possible : FnScope ["rule", "claimants", "items", "count", "least", "others", "spare", "mark", "marks"] ["rule", "claimants", "items", "count"] (defScope s_least_possible) := ⟨rfl, rfl, rfl, by decide +kernel, rfl, by decide +kernel, by decide +kernel⟩
theorem IO_of {K : PySem.W.Frag} {mg : Str → Option Value} {c : Addr} {TLb : List (Addr × Str)} (T : Tx K mg c) (CI : ClsI K c) : InsOk (suR K mg c TLb) 0 "Rule" c := ⟨T.g_Rule, fun d H v h => by
  obtain ⟨_, r, o, hd, rfl, rfl, vr, R⟩ := h
  obtain ⟨dx, v0, v1, v2, v3, e, _⟩ := R.ex
  exact ⟨r, rfl, .base (.ins e T.cl CI.ca CI.sp CI.tk CI.mr)⟩⟩
section
variable {P : Program} {w : World} {K : PySem.W.Frag} {mg : Str → Option Value} {base : Heap} {c : Addr} {TLb : List (Addr × Str)}
def w_check_rule : WS := (wIfS (wNot (wTst (wCal (gIsC 0 "Rule") (wCons (wV 0) (wCons (wC (.fn "Rule")) wNil))))) wNev wNx)
theorem pb_check_rule (B : Bl mg)  (g_Rule : mg "Rule" = some (.ref c)) (IO_Rule : InsOk (suR K mg c TLb) 0 "Rule" c) : Bdy P w K mg base 0 "check_rule" s_check_rule ["value"] (suR K mg c TLb) w_check_rule := fun f cdv A outer s H E hr quiet =>
      (xsOne (xsIf (xTNot (xTV (xCB (pe_callB call_isi (by rfl) B.isinstance (by decide +kernel) (xWCons (xw (xV (pv 0))) (xWCons (xw (xFn (pe_glob (v := .ref _) (by rfl) (g_Rule) rfl) g_Rule rfl)) xWNil))) (pIsC IO_Rule)))) (xsOne xsNev) xsNil))
theorem pc_check_rule (B : Bl mg) (DD : OwnDef K mg "check_rule" s_check_rule)  (g_Rule : mg "Rule" = some (.ref c)) (IO_Rule : InsOk (suR K mg c TLb) 0 "Rule" c) : CalG P w K mg base 1 "check_rule" (spW (suR K mg c TLb) 1 (wFn 1 w_check_rule)) [] :=
  calG_by DD sc_check_rule rfl (fun fd f F => F.binds (fun _ _ _ _ _ _ us hl => match us, hl with | [_], _ => rfl)) (pb_check_rule B g_Rule IO_Rule)
def f_check_rule : SpF := fun ds k _ => ∃ d, ds = [.obj 0 d] ∧ k .non
theorem ok_check_rule (ds k e) (ln : ds.length = 1) (h : f_check_rule ds k e) : wFn 1 w_check_rule ds k e := by
  obtain ⟨d, rfl, hk⟩ := h
  (simp only [a_wFn, a_wFnF, a_mapS, a_map0, List.replicate, a_appS, a_app0, a_lenS, a_len0, Nat.reduceAdd, Nat.reduceSub, Nat.zero_add]; unfold w_check_rule; simp only [a_wFn, a_wSeq, a_wNx, a_wBk, a_wCt, a_wEx, a_wSet, a_wOwn, a_wAsg, a_wPar, a_wRet, a_wRetN, a_wRetF, a_wRetFO, a_wParO, a_wFnF, a_wIfS, a_wApp, a_wExt, a_wFrz, a_wAugI, a_wSetIx, a_wAugIx, a_wFor, a_lookL0, a_lookLS, a_look0, a_lookS, a_lookO0, a_lookO1, a_lookOS, a_wV, a_wO, a_wC, a_wBin, a_wUn, a_wTst, a_wTru, a_wAnd, a_wOr, a_wNot, a_wAndV, a_wOrV, a_wNotV, a_wIf, a_wCh, a_wNil, a_wCons, a_wStar, a_wTup, a_wLst, a_wCal, a_wCall, a_wCall0, a_wCallK, a_wCallB, a_wGot, a_noX, a_wCh3, a_wAugC, gInI_i, a_wCalK, a_wSl, a_wNo, a_wPart, a_wFld, a_wMth, a_wM0, a_wM1, a_wgN, a_wgNil, a_wgCons, a_wgT, a_wLc, a_wYes, a_itK, itK_lst, itK_tup, itK_str, seqD_lst, seqD_tup, a_wRg1, a_wRg2, a_wRg3, a_wEnumU, a_wEnumL, a_wZipU, a_wRevU, a_wComb, wipeD, a_mapS, a_map0, a_lenS, a_len0, List.replicate, a_appS, a_app0, a_set0, a_setS, Nat.reduceAdd, Nat.reduceSub, Nat.zero_add, true_and, and_true, gAdd_i, gAdd_s, gAdd_l, gAdd_t, gCat_l, gSub_i, gMul_i, gMul_l, gMul_t, gFdiv_i, gMod_i, gPow_i, gLt_i, gLe_i, gGt_i, gGe_i, gLen_l, gLen_t, gLen_s, gAbs_i, gToInt_i, gToInt_b, gToBl_i, gToBl_b, gToTup_l, gToTup_t, gToLst_l, gToLst_t, gMax2_i, gMin2_i, gNeg_i, gSl_l, gSl_t, gSl_s, gSlL_l, gRevL_l, gIsN_n, gIsN_b, gIsN_i, gIsN_s, gIsN_l, gIsN_t, gNotN_n, gNotN_b, gNotN_i, gNotN_s, gNotN_l, gNotN_t, truD, gEq_int, gNe_int, Bool.not_true, Bool.not_false])
  exact ⟨rfl, rfl, hk⟩
theorem cs_check_rule (B : Bl mg) (DD : OwnDef K mg "check_rule" s_check_rule)  (g_Rule : mg "Rule" = some (.ref c)) (IO_Rule : InsOk (suR K mg c TLb) 0 "Rule" c) : CalG P w K mg base 1 "check_rule" (spW (suR K mg c TLb) 1 f_check_rule) [] :=
  (pc_check_rule B DD g_Rule IO_Rule).imp (spW_mono fun ds k e ln h => ok_check_rule ds k e ln h)
end
structure TxD (mg : Str → Option Value) : Prop where
  g_MOST_ITEMS : ∃ t, mg "MOST_ITEMS" = some (.int (10 ^ 18) t)
section
variable {P : Program} {w : World} {K : PySem.W.Frag} {mg : Str → Option Value} {base : Heap} {c : Addr} {TLb : List (Addr × Str)}
def w_check_count : WS := (wIfS (wNot (wTst (wCall0 1 f_is_count (wCons (wV 0) wNil)))) wNev wNx)
theorem pb_check_count (B : Bl mg) (C_is_count : CalG P w K mg base 2 "is_count" (spW (suR K mg c TLb) 1 f_is_count) [])  : Bdy P w K mg base 2 "check_count" s_check_count ["value"] (suR K mg c TLb) w_check_count := fun f cdv A outer s H E hr quiet =>
      (xsOne (xsIf (xTNot (xTV (xCall0 (pe_cG quiet C_is_count hr (by decide) (by rfl) (xACons (xV (pv 0)) xANil))))) (xsOne xsNev) xsNil))
theorem pc_check_count (B : Bl mg) (DD : OwnDef K mg "check_count" s_check_count) (C_is_count : CalG P w K mg base 2 "is_count" (spW (suR K mg c TLb) 1 f_is_count) [])  : CalG P w K mg base 3 "check_count" (spW (suR K mg c TLb) 1 (wFn 1 w_check_count)) [] :=
  calG_by DD sc_check_count rfl (fun fd f F => F.binds (fun _ _ _ _ _ _ us hl => match us, hl with | [_], _ => rfl)) (pb_check_count B C_is_count)
def f_check_count : SpF := fun ds k _ => ∃ n : Int, ds = [.int n] ∧ 0 ≤ n ∧ k .non
theorem ok_check_count (ds k e) (ln : ds.length = 1) (h : f_check_count ds k e) : wFn 1 w_check_count ds k e := by
  obtain ⟨n, rfl, n0, hk⟩ := h
  (simp only [a_wFn, a_wFnF, a_mapS, a_map0, List.replicate, a_appS, a_app0, a_lenS, a_len0, Nat.reduceAdd, Nat.reduceSub, Nat.zero_add]; unfold w_check_count; simp only [a_wFn, a_wSeq, a_wNx, a_wBk, a_wCt, a_wEx, a_wSet, a_wOwn, a_wAsg, a_wPar, a_wRet, a_wRetN, a_wRetF, a_wRetFO, a_wParO, a_wFnF, a_wIfS, a_wApp, a_wExt, a_wFrz, a_wAugI, a_wSetIx, a_wAugIx, a_wFor, a_lookL0, a_lookLS, a_look0, a_lookS, a_lookO0, a_lookO1, a_lookOS, a_wV, a_wO, a_wC, a_wBin, a_wUn, a_wTst, a_wTru, a_wAnd, a_wOr, a_wNot, a_wAndV, a_wOrV, a_wNotV, a_wIf, a_wCh, a_wNil, a_wCons, a_wStar, a_wTup, a_wLst, a_wCal, a_wCall, a_wCall0, a_wCallK, a_wCallB, a_wGot, a_noX, a_wCh3, a_wAugC, gInI_i, a_wCalK, a_wSl, a_wNo, a_wPart, a_wFld, a_wMth, a_wM0, a_wM1, a_wgN, a_wgNil, a_wgCons, a_wgT, a_wLc, a_wYes, a_itK, itK_lst, itK_tup, itK_str, seqD_lst, seqD_tup, a_wRg1, a_wRg2, a_wRg3, a_wEnumU, a_wEnumL, a_wZipU, a_wRevU, a_wComb, wipeD, a_mapS, a_map0, a_lenS, a_len0, List.replicate, a_appS, a_app0, a_set0, a_setS, Nat.reduceAdd, Nat.reduceSub, Nat.zero_add, true_and, and_true, gAdd_i, gAdd_s, gAdd_l, gAdd_t, gCat_l, gSub_i, gMul_i, gMul_l, gMul_t, gFdiv_i, gMod_i, gPow_i, gLt_i, gLe_i, gGt_i, gGe_i, gLen_l, gLen_t, gLen_s, gAbs_i, gToInt_i, gToInt_b, gToBl_i, gToBl_b, gToTup_l, gToTup_t, gToLst_l, gToLst_t, gMax2_i, gMin2_i, gNeg_i, gSl_l, gSl_t, gSl_s, gSlL_l, gRevL_l, gIsN_n, gIsN_b, gIsN_i, gIsN_s, gIsN_l, gIsN_t, gNotN_n, gNotN_b, gNotN_i, gNotN_s, gNotN_l, gNotN_t, truD, gEq_int, gNe_int, Bool.not_true, Bool.not_false])
  refine ⟨_, rfl, rfl, ?_⟩
  rw [show uCount (.int n) = true from decide_eq_true n0]
  exact hk
theorem cs_check_count (B : Bl mg) (DD : OwnDef K mg "check_count" s_check_count) (C_is_count : CalG P w K mg base 2 "is_count" (spW (suR K mg c TLb) 1 f_is_count) [])  : CalG P w K mg base 3 "check_count" (spW (suR K mg c TLb) 1 f_check_count) [] :=
  (pc_check_count B DD C_is_count).imp (spW_mono fun ds k e ln h => ok_check_count ds k e ln h)
def w_check_at_most : WS := (wIfS (wTst (wBin gGt (wV 0) (wV 1))) wNev wNx)
theorem pb_check_at_most (B : Bl mg)   : Bdy P w K mg base 0 "check_at_most" s_check_at_most ["items", "limit"] (suR K mg c TLb) w_check_at_most := fun f cdv A outer s H E hr quiet =>
      (xsOne (xsIf (xTCmp op_gt pGt (xw (xV (pv 0))) (xw (xV (pv 1))) (nomark _)) (xsOne xsNev) xsNil))
theorem pc_check_at_most (B : Bl mg) (DD : OwnDef K mg "check_at_most" s_check_at_most)   : CalG P w K mg base 1 "check_at_most" (spW (suR K mg c TLb) 2 (wFn 2 w_check_at_most)) [] :=
  calG_by DD sc_check_at_most rfl (fun fd f F => F.binds (fun _ _ _ _ _ _ us hl => match us, hl with | [_, _], _ => rfl)) (pb_check_at_most B )
def f_check_at_most : SpF := fun ds k _ => ∃ n m : Int, ds = [.int n, .int m] ∧ n ≤ m ∧ k .non
theorem ok_check_at_most (ds k e) (ln : ds.length = 2) (h : f_check_at_most ds k e) : wFn 2 w_check_at_most ds k e := by
  obtain ⟨n, m, rfl, n0, hk⟩ := h
  (simp only [a_wFn, a_wFnF, a_mapS, a_map0, List.replicate, a_appS, a_app0, a_lenS, a_len0, Nat.reduceAdd, Nat.reduceSub, Nat.zero_add]; unfold w_check_at_most; simp only [a_wFn, a_wSeq, a_wNx, a_wBk, a_wCt, a_wEx, a_wSet, a_wOwn, a_wAsg, a_wPar, a_wRet, a_wRetN, a_wRetF, a_wRetFO, a_wParO, a_wFnF, a_wIfS, a_wApp, a_wExt, a_wFrz, a_wAugI, a_wSetIx, a_wAugIx, a_wFor, a_lookL0, a_lookLS, a_look0, a_lookS, a_lookO0, a_lookO1, a_lookOS, a_wV, a_wO, a_wC, a_wBin, a_wUn, a_wTst, a_wTru, a_wAnd, a_wOr, a_wNot, a_wAndV, a_wOrV, a_wNotV, a_wIf, a_wCh, a_wNil, a_wCons, a_wStar, a_wTup, a_wLst, a_wCal, a_wCall, a_wCall0, a_wCallK, a_wCallB, a_wGot, a_noX, a_wCh3, a_wAugC, gInI_i, a_wCalK, a_wSl, a_wNo, a_wPart, a_wFld, a_wMth, a_wM0, a_wM1, a_wgN, a_wgNil, a_wgCons, a_wgT, a_wLc, a_wYes, a_itK, itK_lst, itK_tup, itK_str, seqD_lst, seqD_tup, a_wRg1, a_wRg2, a_wRg3, a_wEnumU, a_wEnumL, a_wZipU, a_wRevU, a_wComb, wipeD, a_mapS, a_map0, a_lenS, a_len0, List.replicate, a_appS, a_app0, a_set0, a_setS, Nat.reduceAdd, Nat.reduceSub, Nat.zero_add, true_and, and_true, gAdd_i, gAdd_s, gAdd_l, gAdd_t, gCat_l, gSub_i, gMul_i, gMul_l, gMul_t, gFdiv_i, gMod_i, gPow_i, gLt_i, gLe_i, gGt_i, gGe_i, gLen_l, gLen_t, gLen_s, gAbs_i, gToInt_i, gToInt_b, gToBl_i, gToBl_b, gToTup_l, gToTup_t, gToLst_l, gToLst_t, gMax2_i, gMin2_i, gNeg_i, gSl_l, gSl_t, gSl_s, gSlL_l, gRevL_l, gIsN_n, gIsN_b, gIsN_i, gIsN_s, gIsN_l, gIsN_t, gNotN_n, gNotN_b, gNotN_i, gNotN_s, gNotN_l, gNotN_t, truD, gEq_int, gNe_int, Bool.not_true, Bool.not_false])
  rw [decide_eq_false (show ¬ m < n by omega)]
  exact hk
theorem cs_check_at_most (B : Bl mg) (DD : OwnDef K mg "check_at_most" s_check_at_most)   : CalG P w K mg base 1 "check_at_most" (spW (suR K mg c TLb) 2 f_check_at_most) [] :=
  (pc_check_at_most B DD ).imp (spW_mono fun ds k e ln h => ok_check_at_most ds k e ln h)
end
/-! ### parts.py, in plain data -/
structure TxP (K : PySem.W.Frag) (mg : Str → Option Value) : Prop where
  g_MOST_SHARERS : ∃ t, mg "MOST_SHARERS" = some (.int 12 t)
  g_NOTHING : ∃ a, mg "NOTHING" = some (.ref a) ∧ ∀ H, SqT K H a [.int 0, .int 1]
theorem xNothing {K : PySem.W.Frag} {mg : Str → Option Value} {X : Cx} {S : Su} {E : XK} {pos : Pos} (TP : TxP K mg) (hg : Gl X "NOTHING" := by rfl) (hm : X.mg = mg := by rfl) (hK : S.K = K := by rfl) : PE X (.Name "NOTHING" pos) (tP S E (wC (.tup [.int 0, .int 1]))) := by
  obtain ⟨a, h1, h2⟩ := TP.g_NOTHING
  refine peTo (pe_glob (v := .ref a) hg (by rw [hm]; exact h1) rfl) fun σ H Q ⟨M, A, L, δ, k, e, f, hw, ad, _⟩ => ?_
  exact ad _ _ _ .refl f.mu (.tup' (by rw [hK]; exact h2 _) (.cons (.int _) (.cons (.int _) .nil))) hw
/-- the greatest sum of values at z + the counts, over all splits of t items among c claimants -/
def Top (a : Nat → Int) (z c t : Nat) (S : Int) : Prop := (∃ ks : List Nat, ks.length = c ∧ ks.sum = t ∧ (ks.map fun k => a (z + k)).sum = S) ∧ ∀ ks : List Nat, ks.length = c → ks.sum = t → (ks.map fun k => a (z + k)).sum ≤ S
theorem wholeQ_far {o : Int × Int} {hd : List (Int × Int)} (vr : VR o hd) {n : Int} (h : (hd.length : Int) ≤ n) : wholeQ o hd n = timesQ (unitQ o hd) o + n * unitQ o hd := by
  rw [← wholeQ_plain vr]
  unfold wholeQ markQ
  rw [if_neg (by omega)]
theorem whole_small {o : Int × Int} {hd : List (Int × Int)} (vr : VR o hd) {n : Int} (n0 : 0 ≤ n) (n1 : n.natAbs < 2 ^ 100) : (wholeQ o hd n).natAbs < 2 ^ 3600 := by
  obtain ⟨e, b, t0⟩ := wholeQ_mul vr n0
  have top : (markQ o hd n).1.natAbs < 2 ^ 310 := by
    unfold markQ
    split
    · rename_i h
      rw [List.getD_eq_getElem?_getD, List.getElem?_eq_getElem
            (by omega), Option.getD_some]
      have ok := (vr.oks _ (List.getElem_mem (by omega : n.toNat < hd.length))).1
      refine Nat.lt_trans (m := 2 ^ 200) (by have := ok.a; have := ok.a2; omega) (Nat.pow_lt_pow_right (by decide) (by decide))
    · have ok := vr.ok
      show (o.1 + n * o.2).natAbs < _
      have h1 : (n * o.2).natAbs < 2 ^ (100 + 200) := wide_lt n1 (vr.bots o List.mem_cons_self).2
      have h2 : o.1.natAbs < 2 ^ (100 + 200) := Nat.lt_trans (m := 2 ^ 200) (by have := ok.a; have := ok.a2; omega) (Nat.pow_lt_pow_right (by decide) (by decide))
      have h3 : (2 : Nat) ^ (100 + 200) + 2 ^ (100 + 200) ≤ 2 ^ 310 := by
        rw [← Nat.two_mul, ← Nat.pow_succ']
        exact Nat.pow_le_pow_right (by decide) (by decide)
      omega
  have le : (wholeQ o hd n).natAbs ≤ (wholeQ o hd n * (markQ o hd n).2).natAbs := by
    rw [Int.natAbs_mul]
    exact Nat.le_mul_of_pos_right _ (by omega)
  refine Nat.lt_of_le_of_lt le ?_
  rw [e]
  exact Nat.lt_of_lt_of_le (wide_lt top vr.unit.2.1) (Nat.pow_le_pow_right (by decide) (by decide))
/-- the values of the marks from the least count on -/
def nextVals (o : Int × Int) (hd : List (Int × Int)) (least : Int) : List Int := (List.range (hd.length - least.toNat)).map fun k => wholeQ o hd (least + (k : Nat))
theorem nextVals_at {o : Int × Int} {hd : List (Int × Int)} (vr : VR o hd) {least : Int} (l0 : 0 ≤ least) (k : Nat) : valAt (nextVals o hd least) (timesQ (unitQ o hd) o + least * unitQ o hd) (unitQ o hd) k = wholeQ o hd ((least.toNat + k : Nat) : Int) := by
  have ll : (nextVals o hd least).length = hd.length - least.toNat := by unfold nextVals; rw [List.length_map, List.length_range]
  have e : ((least.toNat + k : Nat) : Int) = least + (k : Nat) := by omega
  unfold valAt
  rw [ll, e]
  by_cases h : k < hd.length - least.toNat
  · rw [if_pos h]
    unfold nextVals
    rw [List.getD_eq_getElem?_getD, List.getElem?_map,
          List.getElem?_range h]
    rfl
  · rw [if_neg h, wholeQ_far vr (by omega), Int.add_mul]
    omega
theorem best_top {o : Int × Int} {hd : List (Int × Int)} (vr : VR o hd) {least many items v : Int} (l0 : 0 ≤ least) (m0 : 1 ≤ many) (i0 : 0 ≤ items) (b : Best (gains (nextVals o hd least) (timesQ (unitQ o hd) o + least * unitQ o hd) (unitQ o hd)) many.toNat items.toNat v) :
    Top (fun k => wholeQ o hd ((k : Nat) : Int)) least.toNat many.toNat items.toNat ((timesQ (unitQ o hd) o + least * unitQ o hd) * many + items * unitQ o hd + v) := by
  have h := best_val b
  have em : ((many.toNat : Nat) : Int) = many := Int.toNat_of_nonneg (by omega)
  have ei : ((items.toNat : Nat) : Int) = items := Int.toNat_of_nonneg i0
  rw [em, ei] at h
  have ev : ∀ ks : List Nat, (ks.map (valAt (nextVals o hd least) (timesQ (unitQ o hd) o + least * unitQ o hd) (unitQ o hd))) = ks.map fun k => wholeQ o hd ((least.toNat + k : Nat) : Int) := fun ks => List.map_congr_left fun k _ => nextVals_at vr l0 k
  refine ⟨?_, fun ks h1 h2 => ?_⟩
  · obtain ⟨ks, h1, h2, h3⟩ := h.1
    rw [ev] at h3
    exact ⟨ks, h1, h2, h3⟩
  · have := h.2 ks h1 h2
    rwa [ev] at this
theorem gains_small {o : Int × Int} {hd : List (Int × Int)} (vr : VR o hd) {least : Int} (l0 : 0 ≤ least) (l1 : least ≤ 1) : ∀ x ∈ gains (nextVals o hd least) (timesQ (unitQ o hd) o + least * unitQ o hd) (unitQ o hd), x.natAbs < 2 ^ 8000 := fun x hx => by
  have ll : (nextVals o hd least).length = hd.length - least.toNat := by unfold nextVals; rw [List.length_map, List.length_range]
  unfold gains at hx
  obtain ⟨k, hk, rfl⟩ := List.mem_map.mp hx
  have hk := List.mem_range.mp hk
  have v8 := vr.len
  have t2 : (2 : Nat) ^ 100 = 1267650600228229401496703205376 := by decide
  have a1 := whole_small vr (n := ((least.toNat + k : Nat) : Int)) (by omega) (by rw [t2]; omega)
  rw [← nextVals_at vr l0 k] at a1
  unfold valAt at a1
  rw [if_pos hk] at a1
  have a2 := whole_small vr (n := ((hd.length + least.toNat : Nat) : Int)) (by omega) (by rw [t2]; omega)
  have a3 := whole_small vr (n := ((hd.length : Nat) : Int)) (by omega) (by rw [t2]; omega)
  have a4 := whole_small vr (n := ((hd.length + k : Nat) : Int)) (by omega) (by rw [t2]; omega)
  rw [wholeQ_far vr (by omega)] at a2 a3 a4
  have e2 : ((hd.length + least.toNat : Nat) : Int) * unitQ o hd = ((hd.length : Nat) : Int) * unitQ o hd + least * unitQ o hd := by
    rw [Int.natCast_add, Int.add_mul, Int.toNat_of_nonneg l0]
  have e4 : ((hd.length + k : Nat) : Int) * unitQ o hd = ((hd.length : Nat) : Int) * unitQ o hd + ((k : Nat) : Int) * unitQ o hd := by
    rw [Int.natCast_add, Int.add_mul]
  rw [e2] at a2
  rw [e4] at a4
  have a5 := whole_small vr (n := 0) (by omega) (by rw [t2]; omega)
  have big : (2 : Nat) ^ 3600 * 10 ≤ 2 ^ 8000 := by decide +kernel
  have o0 : (timesQ (unitQ o hd) o).natAbs < 2 ^ 3600 := by
    have z : timesQ (unitQ o hd) o = wholeQ o [] 0 ∨ True := .inr trivial
    have U := vr.unit
    have b := (vr.bots o List.mem_cons_self).1
    have a0 := vr.ok.a
    have a1 := vr.le1
    obtain ⟨x, hx⟩ := U.2.2 o List.mem_cons_self
    have x0 : 0 ≤ x := Int.not_lt.mp fun z => by
      have := Int.mul_neg_of_pos_of_neg b z
      have := U.1
      omega
    have le : timesQ (unitQ o hd) o ≤ unitQ o hd := by
      unfold timesQ
      rw [hx, Int.mul_ediv_cancel_left _ (by omega)]
      exact Int.mul_le_mul_of_nonneg_right a1 x0
    have nn : 0 ≤ timesQ (unitQ o hd) o := by
      unfold timesQ
      rw [hx, Int.mul_ediv_cancel_left _ (by omega)]
      exact Int.mul_nonneg a0 x0
    exact Nat.lt_of_le_of_lt (show (timesQ (unitQ o hd) o).natAbs ≤ (unitQ o hd).natAbs by omega) (Nat.lt_of_lt_of_le U.2.1 (Nat.pow_le_pow_right (by decide) (by decide)))
  generalize (2 : Nat) ^ 3600 = N at *
  omega
/-- next_mark_splits(..).greatest(..) -/
def wNmg (wa : WA) (w : WE) : WE := fun δ k e => wa δ (fun ds => ∃ o hd, ∃ (least many most : Int), ds = [.obj 0 (ruD o hd), .int least, .int many, .int most] ∧ VR o hd ∧ 0 ≤ least ∧ least ≤ 1 ∧ 1 ≤ many ∧ many ≤ 11 ∧
  w δ (fun x => ∃ items : Int, x = .int items ∧ 0 ≤ items ∧ items ≤ most ∧ items < 2 ^ 62 ∧ ∀ S, Top (fun k => wholeQ o hd ((k : Nat) : Int)) least.toNat many.toNat items.toNat S → k (.int S)) nE) e
theorem a_wNmg (wa : WA) (w : WE) (δ : De) (k : Dt → Prop) (e : Er → Prop) : wNmg wa w δ k e = wa δ (fun ds => ∃ o hd, ∃ (least many most : Int), ds = [.obj 0 (ruD o hd), .int least, .int many, .int most] ∧ VR o hd ∧ 0 ≤ least ∧ least ≤ 1 ∧ 1 ≤ many ∧ many ≤ 11 ∧
  w δ (fun x => ∃ items : Int, x = .int items ∧ 0 ≤ items ∧ items ≤ most ∧ items < 2 ^ 62 ∧ ∀ S, Top (fun k => wholeQ o hd ((k : Nat) : Int)) least.toNat many.toNat items.toNat S → k (.int S)) nE) e := Eq.trans rfl rfl
section
variable {K : PySem.W.Frag} {mg : Str → Option Value} {c : Addr} {TLb : List (Addr × Str)} {cS : Addr} {X : Cx} {E : XK} {j : Nat} {x e : Expr} {es : List Expr} {wa : WA} {w : WE} {p pos apos pos2 : Pos}
theorem xNmg {pl : Sem Bool} (CN : Cal X.prog X.w X.K X.mg X.base 4 "next_mark_splits" (sp_next_mark_splits (suR K mg c TLb) c cS) []) (MG : Met X.prog X.w X.K X.mg X.base 4 cS "greatest" (sp_Splits_greatest (suR K mg c TLb) cS)) (hr : Room j X.A) (hj : 4 ≤ j) (hg : Gl X "next_mark_splits")
    (ha : PA X (e :: es) (tPA (suR K mg c TLb) E wa)) (h : PE X x (tP (suR K mg c TLb) E0' w)) (hdb : (("next_mark_splits" : Str) == ("__debug__" : Str)) = false := by decide)
    (he : starEach (e :: es) X.env = (false, eval e X.env) :: starEach es X.env := by
          rfl) (hpl : (backTo pos (starEach es X.env)).any (·.1) = false := by rfl)
    (hst2 : starEach [x] X.env = (false, eval x X.env) :: starEach [] X.env := by rfl) (hpl2 : (backTo pos2 (starEach [] X.env)).any (·.1) = false := by rfl)
    (ht : eval (.Call (.Attribute (.Call (.Name "next_mark_splits" p) (e :: es) [] pos) "greatest" apos) [x] [] pos2) X.env = (do
        let v ← eval (.Call (.Name "next_mark_splits" p) (e :: es) [] pos) X.env
        standAt apos.atName
        let (g, fst) ← holding [v] (getMethod v "greatest" pl)
        callWith pos2 g fst (backTo pos2 (starEach [x] X.env)) (backToKw pos2 (keywordEach [] X.env))) := by rfl) :
    PE X (.Call (.Attribute (.Call (.Name "next_mark_splits" p) (e :: es) [] pos) "greatest" apos) [x] [] pos2) (tP (suR K mg c TLb) E (wNmg wa w)) :=
  peTo (pe_mt (pl := pl) MG hr hj (pe_c CN hr hj hg ha hdb he hpl) (pa_cons h pa_nil hst2) hst2 hpl2 ht) fun σ H Q ⟨M, A, L, δ, k, er, f, hw, a, ax⟩ =>
  ⟨M, A, L, δ, _, er, f, hw, fun vs ds H1 s1 m1 hv hk => by
    obtain ⟨o, hd, least, many, most, rfl, vr, l0, l1, m0, m11, hk⟩ := hk
    obtain ⟨v0, vs, rfl, h0, hv⟩ := hv.of_cons
    obtain ⟨v1, vs, rfl, h1, hv⟩ := hv.of_cons
    obtain ⟨v2, vs, rfl, h2, hv⟩ := hv.of_cons
    obtain ⟨v3, vs, rfl, h3, hv⟩ := hv.of_cons
    rw [hv.of_nil, h1.int_eq, h2.int_eq, h3.int_eq]
    cases h0 with
    | obj h0 =>
      obtain ⟨_, r, o2, hd2, rfl, e2, vr2, R⟩ := h0
      obtain ⟨rfl, rfl⟩ := ruD_inj e2
      have f1 := f.step s1 m1
      have mA1 : ∀ e ∈ M, e.1 ∈ L ++ A := fun e he => List.mem_append_right _ (f.mA e he)
      refine ⟨r, M, L ++ A, o, hd, least, many, most, rfl, f1.hd, mA1, m1, R.same hv_le, vr, l0, l1, m0, m11, fun p H2 np keep2 m2 SA => ?_⟩
      obtain ⟨dx, al, bl, ep, eal, ebl, aB, bB⟩ := SA.ex
      have s2 : Stp M [] H1 [] H2 := ⟨fun b o n _ q => keep2 b o n q, fun _ z => by cases z⟩
      have f2 : Fr (suR K mg c TLb) M (p :: A) L σ δ H2 := f1.hide np s2 m2 (by rw [ep]; exact fun z => by cases z)
      have pLA : p ∉ L ++ A := fun z => f1.hd p z np
      have pM : p ∉ M.map Prod.fst := fun z => by
        obtain ⟨e, he, rfl⟩ := List.mem_map.mp z
        exact pLA (mA1 e he)
      have nM : ∀ {b : Addr}, b ∉ p :: (L ++ A) → b ∉ M.map Prod.fst := fun {b} nb z => by
        obtain ⟨e, he, rfl⟩ := List.mem_map.mp z
        exact nb (List.mem_cons_of_mem _ (mA1 e he))
      refine ⟨p, dx, _, rfl, ep, shN _ _ _ _ _ _, M, p :: A, L, δ, _, nE, f2, hk, fun v d H3 s3 m3 hvd hk3 => ?_, afx0⟩
      obtain ⟨items, rfl, i0, i1, i2, hk3⟩ := hk3
      rw [hvd.int_eq]
      have f3 := f2.step s3 m3
      have v8 := vr.len
      have ul := vr.unit.2.1
      refine ⟨p, M, L ++ p :: A, _, _, _, many, most, items, [], rfl, f3.hd, fun e he => List.mem_append_right _ (List.mem_cons_of_mem _ (f.mA e he)), m3, by simp, pM, ⟨dx, al, bl, s3.keep p _ pM (by simp) ep, s3.keep al _ (nM aB) (by simp) eal, s3.keep bl _ (nM bB) (by simp) ebl, fun z => aB (mem_mid.mp z), fun z => bB (mem_mid.mp z)⟩,
        ⟨by rw [gains_len, List.length_map, List.length_range]; omega, gains_small vr l0 l1, m0, m11, i0, i1, .inl rfl⟩, wide_mul (a := 63) (b := 3201) (by omega) ul (by decide) (by decide) (by decide), fun v H4 sums' best kk m4 _ _ => ?_⟩
      refine a _ _ H4 ⟨fun b ob n1 _ eb => ?_, fun _ z => by cases z⟩ m4 (.int _) (hk3 _ (best_top vr l0 m0 i0 best))
      have e1 := s1.keep b ob n1 (by simp) eb
      exact kk b ob (fun z => by rw [z, np] at e1; cases e1) n1 (s3.keep b ob n1 (by simp) (s2.keep b ob n1 (by simp) e1)), ax⟩
end
/-- the first mark is 0: every claimant has an item first -/
def zerQ (o : Int × Int) (hd : List (Int × Int)) : Int := if wholeQ o hd 0 = 0 then 1 else 0
def zer (a : Nat → Int) : Nat := if a 0 = 0 then 1 else 0
theorem top_bounds {a : Nat → Int} {z c t : Nat} {S B : Int} (h : Top a z c t S) (hB : ∀ k, k ≤ z + t → 0 ≤ a k ∧ a k ≤ B) : 0 ≤ S ∧ S ≤ (c : Int) * B := by
  obtain ⟨ks, h1, h2, h3⟩ := h.1
  have key : ∀ ks : List Nat, ks.sum ≤ t → 0 ≤ (ks.map fun k => a (z + k)).sum ∧ (ks.map fun k => a (z + k)).sum ≤ (ks.length : Int) * B := fun ks => by
    induction ks with
    | nil => intro _; simp
    | cons k ks ih =>
      intro hs
      rw [List.sum_cons] at hs
      obtain ⟨i1, i2⟩ := ih (by omega)
      obtain ⟨b1, b2⟩ := hB (z + k) (by omega)
      rw [List.map_cons, List.sum_cons, List.length_cons, Int.natCast_add, Int.add_mul]
      omega
  have := key ks (by omega)
  rw [h3, h1] at this
  exact this
/-- what least_possible tells, by the marks -/
def LeastR (a : Nat → Int) (n items count : Nat) (r : Option ((Int × Int) × Bool)) : Prop :=
  (items < count ∧ r = none) ∨ (count ≤ items ∧ (count = 0 ∨ a (count - 1) = 0) ∧ r = some ((0, 1), false)) ∨
  (count ≤ items ∧ 0 < count ∧ a (count - 1) ≠ 0 ∧ items < count + zer a * (n - 1) ∧ r = none) ∨
  (0 < count ∧ a (count - 1) ≠ 0 ∧ count + zer a * (n - 1) ≤ items ∧ ∃ S, Top a (zer a) (n - 1) (items - count - zer a * (n - 1)) S ∧ r = some (lowQ (a (count - 1)) (a (count - 1) + S), true))
def paD : Option ((Int × Int) × Bool) → Dt
  | none => .non
  | some (q, b) => .tup [prD q, .bl b]
section
variable {P : Program} {w : World} {K : PySem.W.Frag} {mg : Str → Option Value} {base : Heap} {c : Addr} {TLb : List (Addr × Str)} {cS : Addr}
def w_is_number_of_claimants : WS := (wRet (wAndV (wCall0 1 f_is_int (wCons (wV 0) wNil)) (wCh gLe gLe (wC (.int 2)) (wV 0) (wV 1))))
theorem pb_is_number_of_claimants (B : Bl mg) (C_is_int : CalG P w K mg base 1 "is_int" (spW (suR K mg c TLb) 1 f_is_int) [])  : Bdy P w K mg base 1 "is_number_of_claimants" s_is_number_of_claimants ["value", "most"] (suR K mg c TLb) w_is_number_of_claimants := fun f cdv A outer s H E hr quiet =>
      (xsOne (xsRet (xw (xAnd (xCall0 (pe_cG quiet C_is_int hr (by decide) (by rfl) (xACons (xV (pv 0)) xANil))) (xOne (xCh op_le op_le pLe pLe (xw (xInt pe_int)) (xw (xV (pv 0))) (xw (xV (pv 1)))))))))
theorem pc_is_number_of_claimants (B : Bl mg) (DD : OwnDefD K mg "is_number_of_claimants" s_is_number_of_claimants (.int 6)) (C_is_int : CalG P w K mg base 1 "is_int" (spW (suR K mg c TLb) 1 f_is_int) [])  : CalG P w K mg base 2 "is_number_of_claimants" (spW (suR K mg c TLb) 2 (wFn 2 w_is_number_of_claimants)) [] :=
  calGD_by DD sc_is_number_of_claimants rfl (fun f fd F => bindsD2 F (fun T kV doc pm an cdv ct u1 u2 i => ⟨_, rfl, rfl⟩)) (pb_is_number_of_claimants B C_is_int)
def f_is_number_of_claimants : SpF := fun ds k _ => ∃ n m : Int, ds = [.int n, .int m] ∧ 2 ≤ n ∧ n ≤ m ∧ k (.bl true)
theorem ok_is_number_of_claimants (ds k e) (ln : ds.length = 2) (h : f_is_number_of_claimants ds k e) : wFn 2 w_is_number_of_claimants ds k e := by
  obtain ⟨n, m, rfl, h1, h2, hk⟩ := h
  (simp only [a_wFn, a_wFnF, a_mapS, a_map0, List.replicate, a_appS, a_app0, a_lenS, a_len0, Nat.reduceAdd, Nat.reduceSub, Nat.zero_add]; unfold w_is_number_of_claimants; simp only [a_wFn, a_wSeq, a_wNx, a_wBk, a_wCt, a_wEx, a_wSet, a_wOwn, a_wAsg, a_wPar, a_wRet, a_wRetN, a_wRetF, a_wRetFO, a_wParO, a_wFnF, a_wIfS, a_wApp, a_wExt, a_wFrz, a_wAugI, a_wSetIx, a_wAugIx, a_wFor, a_lookL0, a_lookLS, a_look0, a_lookS, a_lookO0, a_lookO1, a_lookOS, a_wV, a_wO, a_wC, a_wBin, a_wUn, a_wTst, a_wTru, a_wAnd, a_wOr, a_wNot, a_wAndV, a_wOrV, a_wNotV, a_wIf, a_wCh, a_wNil, a_wCons, a_wStar, a_wTup, a_wLst, a_wCal, a_wCall, a_wCall0, a_wCallK, a_wCallB, a_wGot, a_noX, a_wCh3, a_wAugC, gInI_i, a_wCalK, a_wSl, a_wNo, a_wPart, a_wFld, a_wMth, a_wM0, a_wM1, a_wgN, a_wgNil, a_wgCons, a_wgT, a_wLc, a_wYes, a_itK, itK_lst, itK_tup, itK_str, seqD_lst, seqD_tup, a_wRg1, a_wRg2, a_wRg3, a_wEnumU, a_wEnumL, a_wZipU, a_wRevU, a_wComb, wipeD, a_mapS, a_map0, a_lenS, a_len0, List.replicate, a_appS, a_app0, a_set0, a_setS, Nat.reduceAdd, Nat.reduceSub, Nat.zero_add, true_and, and_true, gAdd_i, gAdd_s, gAdd_l, gAdd_t, gCat_l, gSub_i, gMul_i, gMul_l, gMul_t, gFdiv_i, gMod_i, gPow_i, gLt_i, gLe_i, gGt_i, gGe_i, gLen_l, gLen_t, gLen_s, gAbs_i, gToInt_i, gToInt_b, gToBl_i, gToBl_b, gToTup_l, gToTup_t, gToLst_l, gToLst_t, gMax2_i, gMin2_i, gNeg_i, gSl_l, gSl_t, gSl_s, gSlL_l, gRevL_l, gIsN_n, gIsN_b, gIsN_i, gIsN_s, gIsN_l, gIsN_t, gNotN_n, gNotN_b, gNotN_i, gNotN_s, gNotN_l, gNotN_t, truD, gEq_int, gNe_int, Bool.not_true, Bool.not_false])
  refine ⟨_, rfl, rfl, ?_⟩
  rw [show uIsInt (.int n) = true from rfl, decide_eq_true h1]
  rw [decide_eq_true h2]
  exact hk
theorem cs_is_number_of_claimants (B : Bl mg) (DD : OwnDefD K mg "is_number_of_claimants" s_is_number_of_claimants (.int 6)) (C_is_int : CalG P w K mg base 1 "is_int" (spW (suR K mg c TLb) 1 f_is_int) [])  : CalG P w K mg base 2 "is_number_of_claimants" (spW (suR K mg c TLb) 2 f_is_number_of_claimants) [] :=
  (pc_is_number_of_claimants B DD C_is_int).imp (spW_mono fun ds k e ln h => ok_is_number_of_claimants ds k e ln h)
def w_check_claimants : WS := (wIfS (wNot (wTst (wCall0 2 f_is_number_of_claimants (wCons (wV 0) (wCons (wV 1) wNil))))) wNev wNx)
theorem pb_check_claimants (B : Bl mg) (C_is_number_of_claimants : CalG P w K mg base 2 "is_number_of_claimants" (spW (suR K mg c TLb) 2 f_is_number_of_claimants) []) (TP : TxP K mg) : Bdy P w K mg base 2 "check_claimants" s_check_claimants ["value", "most"] (suR K mg c TLb) w_check_claimants := fun f cdv A outer s H E hr quiet =>
      (xsOne (xsIf (xTNot (xTV (xCall0 (pe_cG quiet C_is_number_of_claimants hr (by decide) (by rfl) (xACons (xV (pv 0)) (xACons (xV (pv 1)) xANil)))))) (xsOne xsNev) xsNil))
theorem pc_check_claimants (B : Bl mg) (DD : OwnDefD K mg "check_claimants" s_check_claimants (.int 6)) (C_is_number_of_claimants : CalG P w K mg base 2 "is_number_of_claimants" (spW (suR K mg c TLb) 2 f_is_number_of_claimants) []) (TP : TxP K mg) : CalG P w K mg base 3 "check_claimants" (spW (suR K mg c TLb) 2 (wFn 2 w_check_claimants)) [] :=
  calGD_by DD sc_check_claimants rfl (fun f fd F => bindsD2 F (fun T kV doc pm an cdv ct u1 u2 i => ⟨_, rfl, rfl⟩)) (pb_check_claimants B C_is_number_of_claimants TP)
def f_check_claimants : SpF := fun ds k _ => ∃ n m : Int, ds = [.int n, .int m] ∧ 2 ≤ n ∧ n ≤ m ∧ k .non
theorem ok_check_claimants (ds k e) (ln : ds.length = 2) (h : f_check_claimants ds k e) : wFn 2 w_check_claimants ds k e := by
  obtain ⟨n, m, rfl, h1, h2, hk⟩ := h
  (simp only [a_wFn, a_wFnF, a_mapS, a_map0, List.replicate, a_appS, a_app0, a_lenS, a_len0, Nat.reduceAdd, Nat.reduceSub, Nat.zero_add]; unfold w_check_claimants; simp only [a_wFn, a_wSeq, a_wNx, a_wBk, a_wCt, a_wEx, a_wSet, a_wOwn, a_wAsg, a_wPar, a_wRet, a_wRetN, a_wRetF, a_wRetFO, a_wParO, a_wFnF, a_wIfS, a_wApp, a_wExt, a_wFrz, a_wAugI, a_wSetIx, a_wAugIx, a_wFor, a_lookL0, a_lookLS, a_look0, a_lookS, a_lookO0, a_lookO1, a_lookOS, a_wV, a_wO, a_wC, a_wBin, a_wUn, a_wTst, a_wTru, a_wAnd, a_wOr, a_wNot, a_wAndV, a_wOrV, a_wNotV, a_wIf, a_wCh, a_wNil, a_wCons, a_wStar, a_wTup, a_wLst, a_wCal, a_wCall, a_wCall0, a_wCallK, a_wCallB, a_wGot, a_noX, a_wCh3, a_wAugC, gInI_i, a_wCalK, a_wSl, a_wNo, a_wPart, a_wFld, a_wMth, a_wM0, a_wM1, a_wgN, a_wgNil, a_wgCons, a_wgT, a_wLc, a_wYes, a_itK, itK_lst, itK_tup, itK_str, seqD_lst, seqD_tup, a_wRg1, a_wRg2, a_wRg3, a_wEnumU, a_wEnumL, a_wZipU, a_wRevU, a_wComb, wipeD, a_mapS, a_map0, a_lenS, a_len0, List.replicate, a_appS, a_app0, a_set0, a_setS, Nat.reduceAdd, Nat.reduceSub, Nat.zero_add, true_and, and_true, gAdd_i, gAdd_s, gAdd_l, gAdd_t, gCat_l, gSub_i, gMul_i, gMul_l, gMul_t, gFdiv_i, gMod_i, gPow_i, gLt_i, gLe_i, gGt_i, gGe_i, gLen_l, gLen_t, gLen_s, gAbs_i, gToInt_i, gToInt_b, gToBl_i, gToBl_b, gToTup_l, gToTup_t, gToLst_l, gToLst_t, gMax2_i, gMin2_i, gNeg_i, gSl_l, gSl_t, gSl_s, gSlL_l, gRevL_l, gIsN_n, gIsN_b, gIsN_i, gIsN_s, gIsN_l, gIsN_t, gNotN_n, gNotN_b, gNotN_i, gNotN_s, gNotN_l, gNotN_t, truD, gEq_int, gNe_int, Bool.not_true, Bool.not_false])
  exact ⟨n, m, rfl, h1, h2, hk⟩
theorem cs_check_claimants (B : Bl mg) (DD : OwnDefD K mg "check_claimants" s_check_claimants (.int 6)) (C_is_number_of_claimants : CalG P w K mg base 2 "is_number_of_claimants" (spW (suR K mg c TLb) 2 f_is_number_of_claimants) []) (TP : TxP K mg) : CalG P w K mg base 3 "check_claimants" (spW (suR K mg c TLb) 2 f_check_claimants) [] :=
  (pc_check_claimants B DD C_is_number_of_claimants TP).imp (spW_mono fun ds k e ln h => ok_check_claimants ds k e ln h)
def w__check : WS := (wSeq (wEx (wCall0 1 f_check_rule (wCons (wV 0) wNil)))
      (wSeq (wEx (wCall0 2 f_check_claimants (wCons (wV 1) (wCons (wC (.int 12)) wNil))))
      (wEx (wCall0 1 f_check_count (wCons (wV 2) wNil)))))
theorem pb__check (B : Bl mg) (C_check_rule : CalG P w K mg base 1 "check_rule" (spW (suR K mg c TLb) 1 f_check_rule) []) (C_check_claimants : CalG P w K mg base 3 "check_claimants" (spW (suR K mg c TLb) 2 f_check_claimants) []) (C_check_count : CalG P w K mg base 3 "check_count" (spW (suR K mg c TLb) 1 f_check_count) []) (TP : TxP K mg) : Bdy P w K mg base 3 "_check" s__check ["rule", "claimants", "items"] (suR K mg c TLb) w__check := fun f cdv A outer s H E hr quiet =>
      (xsCons (xsEx (xw (xCall0 (pe_cG quiet C_check_rule hr (by decide) (by rfl) (xACons (xV (pv 0)) xANil)))))
      (xsCons (xsEx (xw (xCall0 (pe_cG quiet C_check_claimants hr (by decide) (by rfl) (xACons (xV (pv 1)) (xACons (xInt (i := 12) (pe_gint (by rfl) TP.g_MOST_SHARERS)) xANil))))))
      (xsOne (xsEx (xw (xCall0 (pe_cG quiet C_check_count hr (by decide) (by rfl) (xACons (xV (pv 2)) xANil))))))))
theorem pc__check (B : Bl mg) (DD : OwnDef K mg "_check" s__check) (C_check_rule : CalG P w K mg base 1 "check_rule" (spW (suR K mg c TLb) 1 f_check_rule) []) (C_check_claimants : CalG P w K mg base 3 "check_claimants" (spW (suR K mg c TLb) 2 f_check_claimants) []) (C_check_count : CalG P w K mg base 3 "check_count" (spW (suR K mg c TLb) 1 f_check_count) []) (TP : TxP K mg) : CalG P w K mg base 4 "_check" (spW (suR K mg c TLb) 3 (wFn 3 w__check)) [] :=
  calG_by DD sc__check rfl (fun fd f F => F.binds (fun _ _ _ _ _ _ us hl => match us, hl with | [_, _, _], _ => rfl)) (pb__check B C_check_rule C_check_claimants C_check_count TP)
def f__check : SpF := fun ds k _ => ∃ d, ∃ n i : Int, ds = [.obj 0 d, .int n, .int i] ∧ 2 ≤ n ∧ n ≤ 12 ∧ 0 ≤ i ∧ k .non
theorem ok__check (ds k e) (ln : ds.length = 3) (h : f__check ds k e) : wFn 3 w__check ds k e := by
  obtain ⟨d, n, i, rfl, h1, h2, h3, hk⟩ := h
  (simp only [a_wFn, a_wFnF, a_mapS, a_map0, List.replicate, a_appS, a_app0, a_lenS, a_len0, Nat.reduceAdd, Nat.reduceSub, Nat.zero_add]; unfold w__check; simp only [a_wFn, a_wSeq, a_wNx, a_wBk, a_wCt, a_wEx, a_wSet, a_wOwn, a_wAsg, a_wPar, a_wRet, a_wRetN, a_wRetF, a_wRetFO, a_wParO, a_wFnF, a_wIfS, a_wApp, a_wExt, a_wFrz, a_wAugI, a_wSetIx, a_wAugIx, a_wFor, a_lookL0, a_lookLS, a_look0, a_lookS, a_lookO0, a_lookO1, a_lookOS, a_wV, a_wO, a_wC, a_wBin, a_wUn, a_wTst, a_wTru, a_wAnd, a_wOr, a_wNot, a_wAndV, a_wOrV, a_wNotV, a_wIf, a_wCh, a_wNil, a_wCons, a_wStar, a_wTup, a_wLst, a_wCal, a_wCall, a_wCall0, a_wCallK, a_wCallB, a_wGot, a_noX, a_wCh3, a_wAugC, gInI_i, a_wCalK, a_wSl, a_wNo, a_wPart, a_wFld, a_wMth, a_wM0, a_wM1, a_wgN, a_wgNil, a_wgCons, a_wgT, a_wLc, a_wYes, a_itK, itK_lst, itK_tup, itK_str, seqD_lst, seqD_tup, a_wRg1, a_wRg2, a_wRg3, a_wEnumU, a_wEnumL, a_wZipU, a_wRevU, a_wComb, wipeD, a_mapS, a_map0, a_lenS, a_len0, List.replicate, a_appS, a_app0, a_set0, a_setS, Nat.reduceAdd, Nat.reduceSub, Nat.zero_add, true_and, and_true, gAdd_i, gAdd_s, gAdd_l, gAdd_t, gCat_l, gSub_i, gMul_i, gMul_l, gMul_t, gFdiv_i, gMod_i, gPow_i, gLt_i, gLe_i, gGt_i, gGe_i, gLen_l, gLen_t, gLen_s, gAbs_i, gToInt_i, gToInt_b, gToBl_i, gToBl_b, gToTup_l, gToTup_t, gToLst_l, gToLst_t, gMax2_i, gMin2_i, gNeg_i, gSl_l, gSl_t, gSl_s, gSlL_l, gRevL_l, gIsN_n, gIsN_b, gIsN_i, gIsN_s, gIsN_l, gIsN_t, gNotN_n, gNotN_b, gNotN_i, gNotN_s, gNotN_l, gNotN_t, truD, gEq_int, gNe_int, Bool.not_true, Bool.not_false])
  exact ⟨d, rfl, n, 12, rfl, h1, h2, i, rfl, h3, hk⟩
theorem cs__check (B : Bl mg) (DD : OwnDef K mg "_check" s__check) (C_check_rule : CalG P w K mg base 1 "check_rule" (spW (suR K mg c TLb) 1 f_check_rule) []) (C_check_claimants : CalG P w K mg base 3 "check_claimants" (spW (suR K mg c TLb) 2 f_check_claimants) []) (C_check_count : CalG P w K mg base 3 "check_count" (spW (suR K mg c TLb) 1 f_check_count) []) (TP : TxP K mg) : CalG P w K mg base 4 "_check" (spW (suR K mg c TLb) 3 f__check) [] :=
  (pc__check B DD C_check_rule C_check_claimants C_check_count TP).imp (spW_mono fun ds k e ln h => ok__check ds k e ln h)
def w_items_at_0 : WS := (wRet (wIf (wTst (wBin gEq (wMth 0 2 f_whole_mark (wV 0) (wCons (wC (.int 0)) wNil)) (wC (.int 0)))) (wC (.int 1)) (wC (.int 0))))
theorem pb_items_at_0 (B : Bl mg)  (M_whole_mark : Met P w K mg base 1 c "whole_mark" (spW (suR K mg c TLb) 2 f_whole_mark))  : Bdy P w K mg base 1 "items_at_0" s_items_at_0 ["rule"] (suR K mg c TLb) w_items_at_0 := fun f cdv A outer s H E hr quiet =>
      (xsOne (xsRet (xw (xIf (xTCmp (op_eqD hr.units) pEq (xw (xMth MO_whole_mark (pe_mt M_whole_mark hr (by decide) (xV (pv 0)) (xACons (xInt pe_int) xANil)))) (xw (xInt pe_int)) (nomark _)) (xInt pe_int) (xInt pe_int)))))
theorem pc_items_at_0 (B : Bl mg) (DD : OwnDef K mg "items_at_0" s_items_at_0)  (M_whole_mark : Met P w K mg base 1 c "whole_mark" (spW (suR K mg c TLb) 2 f_whole_mark))  : CalG P w K mg base 2 "items_at_0" (spW (suR K mg c TLb) 1 (wFn 1 w_items_at_0)) [] :=
  calG_by DD sc_items_at_0 rfl (fun fd f F => F.binds (fun _ _ _ _ _ _ us hl => match us, hl with | [_], _ => rfl)) (pb_items_at_0 B M_whole_mark)
def f_items_at_0 : SpF := fun ds k _ => ∃ o hd, ds = [.obj 0 (ruD o hd)] ∧ VR o hd ∧ k (.int (zerQ o hd))
theorem ok_items_at_0 (ds k e) (ln : ds.length = 1) (h : f_items_at_0 ds k e) : wFn 1 w_items_at_0 ds k e := by
  obtain ⟨o, hd, rfl, vr, hk⟩ := h
  (simp only [a_wFn, a_wFnF, a_mapS, a_map0, List.replicate, a_appS, a_app0, a_lenS, a_len0, Nat.reduceAdd, Nat.reduceSub, Nat.zero_add]; unfold w_items_at_0; simp only [a_wFn, a_wSeq, a_wNx, a_wBk, a_wCt, a_wEx, a_wSet, a_wOwn, a_wAsg, a_wPar, a_wRet, a_wRetN, a_wRetF, a_wRetFO, a_wParO, a_wFnF, a_wIfS, a_wApp, a_wExt, a_wFrz, a_wAugI, a_wSetIx, a_wAugIx, a_wFor, a_lookL0, a_lookLS, a_look0, a_lookS, a_lookO0, a_lookO1, a_lookOS, a_wV, a_wO, a_wC, a_wBin, a_wUn, a_wTst, a_wTru, a_wAnd, a_wOr, a_wNot, a_wAndV, a_wOrV, a_wNotV, a_wIf, a_wCh, a_wNil, a_wCons, a_wStar, a_wTup, a_wLst, a_wCal, a_wCall, a_wCall0, a_wCallK, a_wCallB, a_wGot, a_noX, a_wCh3, a_wAugC, gInI_i, a_wCalK, a_wSl, a_wNo, a_wPart, a_wFld, a_wMth, a_wM0, a_wM1, a_wgN, a_wgNil, a_wgCons, a_wgT, a_wLc, a_wYes, a_itK, itK_lst, itK_tup, itK_str, seqD_lst, seqD_tup, a_wRg1, a_wRg2, a_wRg3, a_wEnumU, a_wEnumL, a_wZipU, a_wRevU, a_wComb, wipeD, a_mapS, a_map0, a_lenS, a_len0, List.replicate, a_appS, a_app0, a_set0, a_setS, Nat.reduceAdd, Nat.reduceSub, Nat.zero_add, true_and, and_true, gAdd_i, gAdd_s, gAdd_l, gAdd_t, gCat_l, gSub_i, gMul_i, gMul_l, gMul_t, gFdiv_i, gMod_i, gPow_i, gLt_i, gLe_i, gGt_i, gGe_i, gLen_l, gLen_t, gLen_s, gAbs_i, gToInt_i, gToInt_b, gToBl_i, gToBl_b, gToTup_l, gToTup_t, gToLst_l, gToLst_t, gMax2_i, gMin2_i, gNeg_i, gSl_l, gSl_t, gSl_s, gSlL_l, gRevL_l, gIsN_n, gIsN_b, gIsN_i, gIsN_s, gIsN_l, gIsN_t, gNotN_n, gNotN_b, gNotN_i, gNotN_s, gNotN_l, gNotN_t, truD, gEq_int, gNe_int, Bool.not_true, Bool.not_false])
  refine ⟨o, hd, 0, rfl, vr, by omega, by decide, ?_⟩
  simp only [a_wFn, a_wSeq, a_wNx, a_wBk, a_wCt, a_wEx, a_wSet, a_wOwn, a_wAsg, a_wPar, a_wRet, a_wRetN, a_wRetF, a_wRetFO, a_wParO, a_wFnF, a_wIfS, a_wApp, a_wExt, a_wFrz, a_wAugI, a_wSetIx, a_wAugIx, a_wFor, a_lookL0, a_lookLS, a_look0, a_lookS, a_lookO0, a_lookO1, a_lookOS, a_wV, a_wO, a_wC, a_wBin, a_wUn, a_wTst, a_wTru, a_wAnd, a_wOr, a_wNot, a_wAndV, a_wOrV, a_wNotV, a_wIf, a_wCh, a_wNil, a_wCons, a_wStar, a_wTup, a_wLst, a_wCal, a_wCall, a_wCall0, a_wCallK, a_wCallB, a_wGot, a_noX, a_wCh3, a_wAugC, gInI_i, a_wCalK, a_wSl, a_wNo, a_wPart, a_wFld, a_wMth, a_wM0, a_wM1, a_wgN, a_wgNil, a_wgCons, a_wgT, a_wLc, a_wYes, a_itK, itK_lst, itK_tup, itK_str, seqD_lst, seqD_tup, a_wRg1, a_wRg2, a_wRg3, a_wEnumU, a_wEnumL, a_wZipU, a_wRevU, a_wComb, wipeD, a_mapS, a_map0, a_lenS, a_len0, List.replicate, a_appS, a_app0, a_set0, a_setS, Nat.reduceAdd, Nat.reduceSub, Nat.zero_add, true_and, and_true, gAdd_i, gAdd_s, gAdd_l, gAdd_t, gCat_l, gSub_i, gMul_i, gMul_l, gMul_t, gFdiv_i, gMod_i, gPow_i, gLt_i, gLe_i, gGt_i, gGe_i, gLen_l, gLen_t, gLen_s, gAbs_i, gToInt_i, gToInt_b, gToBl_i, gToBl_b, gToTup_l, gToTup_t, gToLst_l, gToLst_t, gMax2_i, gMin2_i, gNeg_i, gSl_l, gSl_t, gSl_s, gSlL_l, gRevL_l, gIsN_n, gIsN_b, gIsN_i, gIsN_s, gIsN_l, gIsN_t, gNotN_n, gNotN_b, gNotN_i, gNotN_s, gNotN_l, gNotN_t, truD, gEq_int, gNe_int, Bool.not_true, Bool.not_false]
  unfold zerQ at hk
  by_cases z : wholeQ o hd 0 = 0
  · rw [if_pos z] at hk
    rw [decide_eq_true z]
    exact hk
  · rw [if_neg z] at hk
    rw [decide_eq_false z]
    exact hk
theorem cs_items_at_0 (B : Bl mg) (DD : OwnDef K mg "items_at_0" s_items_at_0)  (M_whole_mark : Met P w K mg base 1 c "whole_mark" (spW (suR K mg c TLb) 2 f_whole_mark))  : CalG P w K mg base 2 "items_at_0" (spW (suR K mg c TLb) 1 f_items_at_0) [] :=
  (pc_items_at_0 B DD M_whole_mark).imp (spW_mono fun ds k e ln h => ok_items_at_0 ds k e ln h)
def w_least_possible : WS := (wSeq (wEx (wCall0 3 f__check (wCons (wV 0) (wCons (wV 1) (wCons (wV 2) wNil)))))
      (wSeq (wEx (wCall0 1 f_check_count (wCons (wV 3) wNil)))
      (wSeq (wEx (wCall0 2 f_check_at_most (wCons (wV 2) (wCons (wC (.int 1000000000000000000)) wNil))))
      (wSeq (wIfS (wTst (wBin gGt (wV 3) (wV 2))) (wRet (wC .non)) wNx)
      (wSeq (wIfS (wOr (wTst (wBin gEq (wV 3) (wC (.int 0)))) (wTst (wBin gEq (wMth 0 2 f_whole_mark (wV 0) (wCons (wBin LW.gSub (wV 3) (wC (.int 1))) wNil)) (wC (.int 0))))) (wRet (wTup (wCons (wC (.tup [.int 0, .int 1])) (wCons (wC (.bl false)) wNil)))) wNx)
      (wSeq (wPar 4 5 (wCons (wCall0 1 f_items_at_0 (wCons (wV 0) wNil)) (wCons (wBin LW.gSub (wV 1) (wC (.int 1))) wNil)))
      (wSeq (wSet 6 (wBin LW.gSub (wBin LW.gSub (wV 2) (wV 3)) (wBin LW.gMul (wV 4) (wV 5))))
      (wSeq (wIfS (wTst (wBin gLt (wV 6) (wC (.int 0)))) (wRet (wC .non)) wNx)
      (wSeq (wSet 7 (wMth 0 2 f_whole_mark (wV 0) (wCons (wBin LW.gSub (wV 3) (wC (.int 1))) wNil)))
      (wSeq (wSet 8 (wNmg (wCons (wV 0) (wCons (wV 4) (wCons (wV 5) (wCons (wV 6) wNil)))) (wV 6)))
      (wRet (wTup (wCons (wCall0 1 f_lowest (wCons (wTup (wCons (wV 7) (wCons (wBin LW.gAdd (wV 7) (wV 8)) wNil))) wNil)) (wCons (wC (.bl true)) wNil))))))))))))))
theorem pb_least_possible (B : Bl mg) (C__check : CalG P w K mg base 4 "_check" (spW (suR K mg c TLb) 3 f__check) []) (C_check_count : CalG P w K mg base 3 "check_count" (spW (suR K mg c TLb) 1 f_check_count) []) (C_check_at_most : CalG P w K mg base 1 "check_at_most" (spW (suR K mg c TLb) 2 f_check_at_most) []) (C_items_at_0 : CalG P w K mg base 2 "items_at_0" (spW (suR K mg c TLb) 1 f_items_at_0) []) (C_lowest : CalG P w K mg base 2 "lowest" (spW (suR K mg c TLb) 1 f_lowest) []) (M_whole_mark : Met P w K mg base 1 c "whole_mark" (spW (suR K mg c TLb) 2 f_whole_mark)) (TP : TxP K mg) (TD : TxD mg) (CN : Cal P w K mg base 4 "next_mark_splits" (sp_next_mark_splits (suR K mg c TLb) c cS) []) (MG : Met P w K mg base 4 cS "greatest" (sp_Splits_greatest (suR K mg c TLb) cS)) : Bdy P w K mg base 5 "least_possible" s_least_possible ["rule", "claimants", "items", "count", "least", "others", "spare", "mark", "marks"] (suR K mg c TLb) w_least_possible := fun f cdv A outer s H E hr quiet =>
      (xsCons (xsEx (xw (xCall0 (pe_cG quiet C__check hr (by decide) (by rfl) (xACons (xV (pv 0)) (xACons (xV (pv 1)) (xACons (xV (pv 2)) xANil)))))))
      (xsCons (xsEx (xw (xCall0 (pe_cG quiet C_check_count hr (by decide) (by rfl) (xACons (xV (pv 3)) xANil)))))
      (xsCons (xsEx (xw (xCall0 (pe_cG quiet C_check_at_most hr (by decide) (by rfl) (xACons (xV (pv 2)) (xACons (xInt (i := 1000000000000000000) (pe_gint (by rfl) TD.g_MOST_ITEMS)) xANil))))))
      (xsCons (xsIf (xTCmp op_gt pGt (xw (xV (pv 3))) (xw (xV (pv 2))) (nomark _)) (xsOne (xsRet (xw (xNon pe_non)))) xsNil)
      (xsCons (xsIf (PW.pt (xWOr (xTCmp (op_eqD hr.units) pEq (xw (xV (pv 3))) (xw (xInt pe_int)) (nomark _)) (xWOr1 (xTCmp (op_eqD hr.units) pEq (xw (xMth MO_whole_mark (pe_mt M_whole_mark hr (by decide) (xV (pv 0)) (xACons (xBin op_sub pSub (xw (xV (pv 3))) (xw (xInt pe_int))) xANil)))) (xw (xInt pe_int)) (nomark _))))) (xsOne (xsRet (xw (xTup (xACons (xNothing TP) (xACons (xBl pe_bl) xANil)))))) xsNil)
      (xsCons (xsPar (i := 4) (j := 5) (by rfl) sc_least_possible.nd rfl rfl (by decide) rfl rfl (xACons (xCall0 (pe_cG quiet C_items_at_0 hr (by decide) (by rfl) (xACons (xV (pv 0)) xANil))) (xACons (xBin op_sub pSub (xw (xV (pv 1))) (xw (xInt pe_int))) xANil)) (by rfl))
      (xsCons (xsSet (i := 6) sc_least_possible.nd rfl (Or.inl rfl) (xBin op_sub pSub (xw (xBin op_sub pSub (xw (xV (pv 2))) (xw (xV (pv 3))))) (xw (xBin op_mulU pMul (xw (xV (pv 4))) (xw (xV (pv 5)))))))
      (xsCons (xsIf (xTCmp op_lt pLt (xw (xV (pv 6))) (xw (xInt pe_int)) (nomark _)) (xsOne (xsRet (xw (xNon pe_non)))) xsNil)
      (xsCons (xsSet (i := 7) sc_least_possible.nd rfl (Or.inl rfl) (xMth MO_whole_mark (pe_mt M_whole_mark hr (by decide) (xV (pv 0)) (xACons (xBin op_sub pSub (xw (xV (pv 3))) (xw (xInt pe_int))) xANil))))
      (xsCons (xsSet (i := 8) sc_least_possible.nd rfl (Or.inl rfl) (xNmg CN MG hr (by decide) (by rfl) (xACons (xV (pv 0)) (xACons (xV (pv 4)) (xACons (xV (pv 5)) (xACons (xV (pv 6)) xANil)))) (xV (pv 6))))
      (xsOne (xsRet (xw (xTup (xACons (xCall0 (pe_cG quiet C_lowest hr (by decide) (by rfl) (xACons (xTup (xACons (xV (pv 7)) (xACons (xBin op_addU pAdd (xw (xV (pv 7))) (xw (xV (pv 8)))) xANil))) xANil))) (xACons (xBl pe_bl) xANil))))))))))))))))
theorem pc_least_possible (B : Bl mg) (DD : OwnDef K mg "least_possible" s_least_possible) (C__check : CalG P w K mg base 4 "_check" (spW (suR K mg c TLb) 3 f__check) []) (C_check_count : CalG P w K mg base 3 "check_count" (spW (suR K mg c TLb) 1 f_check_count) []) (C_check_at_most : CalG P w K mg base 1 "check_at_most" (spW (suR K mg c TLb) 2 f_check_at_most) []) (C_items_at_0 : CalG P w K mg base 2 "items_at_0" (spW (suR K mg c TLb) 1 f_items_at_0) []) (C_lowest : CalG P w K mg base 2 "lowest" (spW (suR K mg c TLb) 1 f_lowest) []) (M_whole_mark : Met P w K mg base 1 c "whole_mark" (spW (suR K mg c TLb) 2 f_whole_mark)) (TP : TxP K mg) (TD : TxD mg) (CN : Cal P w K mg base 4 "next_mark_splits" (sp_next_mark_splits (suR K mg c TLb) c cS) []) (MG : Met P w K mg base 4 cS "greatest" (sp_Splits_greatest (suR K mg c TLb) cS)) : CalG P w K mg base 6 "least_possible" (spW (suR K mg c TLb) 4 (wFn 9 w_least_possible)) [] :=
  calG_by DD sc_least_possible rfl (fun fd f F => F.binds (fun _ _ _ _ _ _ us hl => match us, hl with | [_, _, _, _], _ => rfl)) (pb_least_possible B C__check C_check_count C_check_at_most C_items_at_0 C_lowest M_whole_mark TP TD CN MG)
def f_least_possible : SpF := fun ds k _ => ∃ o hd, ∃ n items count : Nat, ds = [.obj 0 (ruD o hd), .int n, .int items, .int count] ∧ VR o hd ∧ 2 ≤ n ∧ n ≤ 12 ∧ items ≤ 10 ^ 18 ∧ count < 2 ^ 100 ∧ ∀ r, LeastR (fun k => wholeQ o hd ((k : Nat) : Int)) n items count r → k (paD r)
theorem ok_least_possible (ds k e) (ln : ds.length = 4) (h : f_least_possible ds k e) : wFn 9 w_least_possible ds k e := by
  obtain ⟨o, hd, n, items, count, rfl, vr, n2, n12, i18, c0, hk⟩ := h
  (simp only [a_wFn, a_wFnF, a_mapS, a_map0, List.replicate, a_appS, a_app0, a_lenS, a_len0, Nat.reduceAdd, Nat.reduceSub, Nat.zero_add]; unfold w_least_possible; simp only [a_wFn, a_wSeq, a_wNx, a_wBk, a_wCt, a_wEx, a_wSet, a_wOwn, a_wAsg, a_wPar, a_wRet, a_wRetN, a_wRetF, a_wRetFO, a_wParO, a_wFnF, a_wIfS, a_wApp, a_wExt, a_wFrz, a_wAugI, a_wSetIx, a_wAugIx, a_wFor, a_lookL0, a_lookLS, a_look0, a_lookS, a_lookO0, a_lookO1, a_lookOS, a_wV, a_wO, a_wC, a_wBin, a_wUn, a_wTst, a_wTru, a_wAnd, a_wOr, a_wNot, a_wAndV, a_wOrV, a_wNotV, a_wIf, a_wCh, a_wNil, a_wCons, a_wStar, a_wTup, a_wLst, a_wCal, a_wCall, a_wCall0, a_wCallK, a_wCallB, a_wGot, a_noX, a_wCh3, a_wAugC, gInI_i, a_wCalK, a_wSl, a_wNo, a_wPart, a_wFld, a_wMth, a_wM0, a_wM1, a_wgN, a_wgNil, a_wgCons, a_wgT, a_wLc, a_wYes, a_itK, itK_lst, itK_tup, itK_str, seqD_lst, seqD_tup, a_wRg1, a_wRg2, a_wRg3, a_wEnumU, a_wEnumL, a_wZipU, a_wRevU, a_wComb, wipeD, a_mapS, a_map0, a_lenS, a_len0, List.replicate, a_appS, a_app0, a_set0, a_setS, Nat.reduceAdd, Nat.reduceSub, Nat.zero_add, true_and, and_true, gAdd_i, gAdd_s, gAdd_l, gAdd_t, gCat_l, gSub_i, gMul_i, gMul_l, gMul_t, gFdiv_i, gMod_i, gPow_i, gLt_i, gLe_i, gGt_i, gGe_i, gLen_l, gLen_t, gLen_s, gAbs_i, gToInt_i, gToInt_b, gToBl_i, gToBl_b, gToTup_l, gToTup_t, gToLst_l, gToLst_t, gMax2_i, gMin2_i, gNeg_i, gSl_l, gSl_t, gSl_s, gSlL_l, gRevL_l, gIsN_n, gIsN_b, gIsN_i, gIsN_s, gIsN_l, gIsN_t, gNotN_n, gNotN_b, gNotN_i, gNotN_s, gNotN_l, gNotN_t, truD, gEq_int, gNe_int, Bool.not_true, Bool.not_false])
  refine ⟨_, _, _, rfl, by omega, by omega, by omega, _, rfl, by omega, _, _, rfl, by omega, ?_⟩
  by_cases c1 : items < count
  · rw [decide_eq_true (show ((items : Nat) : Int) < ((count : Nat) : Int) by omega)]
    exact hk none (.inl ⟨c1, rfl⟩)
  rw [decide_eq_false (show ¬ ((items : Nat) : Int) < ((count : Nat) : Int) by omega)]
  simp only [a_wFn, a_wSeq, a_wNx, a_wBk, a_wCt, a_wEx, a_wSet, a_wOwn, a_wAsg, a_wPar, a_wRet, a_wRetN, a_wRetF, a_wRetFO, a_wParO, a_wFnF, a_wIfS, a_wApp, a_wExt, a_wFrz, a_wAugI, a_wSetIx, a_wAugIx, a_wFor, a_lookL0, a_lookLS, a_look0, a_lookS, a_lookO0, a_lookO1, a_lookOS, a_wV, a_wO, a_wC, a_wBin, a_wUn, a_wTst, a_wTru, a_wAnd, a_wOr, a_wNot, a_wAndV, a_wOrV, a_wNotV, a_wIf, a_wCh, a_wNil, a_wCons, a_wStar, a_wTup, a_wLst, a_wCal, a_wCall, a_wCall0, a_wCallK, a_wCallB, a_wGot, a_noX, a_wCh3, a_wAugC, gInI_i, a_wCalK, a_wSl, a_wNo, a_wPart, a_wFld, a_wMth, a_wM0, a_wM1, a_wgN, a_wgNil, a_wgCons, a_wgT, a_wLc, a_wYes, a_itK, itK_lst, itK_tup, itK_str, seqD_lst, seqD_tup, a_wRg1, a_wRg2, a_wRg3, a_wEnumU, a_wEnumL, a_wZipU, a_wRevU, a_wComb, wipeD, a_mapS, a_map0, a_lenS, a_len0, List.replicate, a_appS, a_app0, a_set0, a_setS, Nat.reduceAdd, Nat.reduceSub, Nat.zero_add, true_and, and_true, gAdd_i, gAdd_s, gAdd_l, gAdd_t, gCat_l, gSub_i, gMul_i, gMul_l, gMul_t, gFdiv_i, gMod_i, gPow_i, gLt_i, gLe_i, gGt_i, gGe_i, gLen_l, gLen_t, gLen_s, gAbs_i, gToInt_i, gToInt_b, gToBl_i, gToBl_b, gToTup_l, gToTup_t, gToLst_l, gToLst_t, gMax2_i, gMin2_i, gNeg_i, gSl_l, gSl_t, gSl_s, gSlL_l, gRevL_l, gIsN_n, gIsN_b, gIsN_i, gIsN_s, gIsN_l, gIsN_t, gNotN_n, gNotN_b, gNotN_i, gNotN_s, gNotN_l, gNotN_t, truD, gEq_int, gNe_int, Bool.not_true, Bool.not_false]
  by_cases c2 : count = 0
  · rw [decide_eq_true (show ((count : Nat) : Int) = 0 by omega)]
    exact ⟨by decide, hk _ (.inr (.inl ⟨by omega, .inl c2, rfl⟩))⟩
  rw [decide_eq_false (show ¬ ((count : Nat) : Int) = 0 by omega)]
  simp only [a_wFn, a_wSeq, a_wNx, a_wBk, a_wCt, a_wEx, a_wSet, a_wOwn, a_wAsg, a_wPar, a_wRet, a_wRetN, a_wRetF, a_wRetFO, a_wParO, a_wFnF, a_wIfS, a_wApp, a_wExt, a_wFrz, a_wAugI, a_wSetIx, a_wAugIx, a_wFor, a_lookL0, a_lookLS, a_look0, a_lookS, a_lookO0, a_lookO1, a_lookOS, a_wV, a_wO, a_wC, a_wBin, a_wUn, a_wTst, a_wTru, a_wAnd, a_wOr, a_wNot, a_wAndV, a_wOrV, a_wNotV, a_wIf, a_wCh, a_wNil, a_wCons, a_wStar, a_wTup, a_wLst, a_wCal, a_wCall, a_wCall0, a_wCallK, a_wCallB, a_wGot, a_noX, a_wCh3, a_wAugC, gInI_i, a_wCalK, a_wSl, a_wNo, a_wPart, a_wFld, a_wMth, a_wM0, a_wM1, a_wgN, a_wgNil, a_wgCons, a_wgT, a_wLc, a_wYes, a_itK, itK_lst, itK_tup, itK_str, seqD_lst, seqD_tup, a_wRg1, a_wRg2, a_wRg3, a_wEnumU, a_wEnumL, a_wZipU, a_wRevU, a_wComb, wipeD, a_mapS, a_map0, a_lenS, a_len0, List.replicate, a_appS, a_app0, a_set0, a_setS, Nat.reduceAdd, Nat.reduceSub, Nat.zero_add, true_and, and_true, gAdd_i, gAdd_s, gAdd_l, gAdd_t, gCat_l, gSub_i, gMul_i, gMul_l, gMul_t, gFdiv_i, gMod_i, gPow_i, gLt_i, gLe_i, gGt_i, gGe_i, gLen_l, gLen_t, gLen_s, gAbs_i, gToInt_i, gToInt_b, gToBl_i, gToBl_b, gToTup_l, gToTup_t, gToLst_l, gToLst_t, gMax2_i, gMin2_i, gNeg_i, gSl_l, gSl_t, gSl_s, gSlL_l, gRevL_l, gIsN_n, gIsN_b, gIsN_i, gIsN_s, gIsN_l, gIsN_t, gNotN_n, gNotN_b, gNotN_i, gNotN_s, gNotN_l, gNotN_t, truD, gEq_int, gNe_int, Bool.not_true, Bool.not_false]
  have t100 : (2 : Nat) ^ 100 = 1267650600228229401496703205376 := by decide
  have c100 : (((count : Nat) : Int) - 1).natAbs < 2 ^ 8000 := Nat.lt_trans (show (((count : Nat) : Int) - 1).natAbs < 2 ^ 100 by omega) (by decide +kernel)
  have ec : ((count : Nat) : Int) - 1 = ((count - 1 : Nat) : Int) := by omega
  refine ⟨o, hd, _, rfl, vr, by omega, c100, ?_⟩
  simp only [a_wFn, a_wSeq, a_wNx, a_wBk, a_wCt, a_wEx, a_wSet, a_wOwn, a_wAsg, a_wPar, a_wRet, a_wRetN, a_wRetF, a_wRetFO, a_wParO, a_wFnF, a_wIfS, a_wApp, a_wExt, a_wFrz, a_wAugI, a_wSetIx, a_wAugIx, a_wFor, a_lookL0, a_lookLS, a_look0, a_lookS, a_lookO0, a_lookO1, a_lookOS, a_wV, a_wO, a_wC, a_wBin, a_wUn, a_wTst, a_wTru, a_wAnd, a_wOr, a_wNot, a_wAndV, a_wOrV, a_wNotV, a_wIf, a_wCh, a_wNil, a_wCons, a_wStar, a_wTup, a_wLst, a_wCal, a_wCall, a_wCall0, a_wCallK, a_wCallB, a_wGot, a_noX, a_wCh3, a_wAugC, gInI_i, a_wCalK, a_wSl, a_wNo, a_wPart, a_wFld, a_wMth, a_wM0, a_wM1, a_wgN, a_wgNil, a_wgCons, a_wgT, a_wLc, a_wYes, a_itK, itK_lst, itK_tup, itK_str, seqD_lst, seqD_tup, a_wRg1, a_wRg2, a_wRg3, a_wEnumU, a_wEnumL, a_wZipU, a_wRevU, a_wComb, wipeD, a_mapS, a_map0, a_lenS, a_len0, List.replicate, a_appS, a_app0, a_set0, a_setS, Nat.reduceAdd, Nat.reduceSub, Nat.zero_add, true_and, and_true, gAdd_i, gAdd_s, gAdd_l, gAdd_t, gCat_l, gSub_i, gMul_i, gMul_l, gMul_t, gFdiv_i, gMod_i, gPow_i, gLt_i, gLe_i, gGt_i, gGe_i, gLen_l, gLen_t, gLen_s, gAbs_i, gToInt_i, gToInt_b, gToBl_i, gToBl_b, gToTup_l, gToTup_t, gToLst_l, gToLst_t, gMax2_i, gMin2_i, gNeg_i, gSl_l, gSl_t, gSl_s, gSlL_l, gRevL_l, gIsN_n, gIsN_b, gIsN_i, gIsN_s, gIsN_l, gIsN_t, gNotN_n, gNotN_b, gNotN_i, gNotN_s, gNotN_l, gNotN_t, truD, gEq_int, gNe_int, Bool.not_true, Bool.not_false]
  rw [ec]
  by_cases c3 : wholeQ o hd ((count - 1 : Nat) : Int) = 0
  · rw [decide_eq_true c3]
    exact ⟨by decide, hk _ (.inr (.inl ⟨by omega, .inr c3, rfl⟩))⟩
  rw [decide_eq_false c3]
  simp only [a_wFn, a_wSeq, a_wNx, a_wBk, a_wCt, a_wEx, a_wSet, a_wOwn, a_wAsg, a_wPar, a_wRet, a_wRetN, a_wRetF, a_wRetFO, a_wParO, a_wFnF, a_wIfS, a_wApp, a_wExt, a_wFrz, a_wAugI, a_wSetIx, a_wAugIx, a_wFor, a_lookL0, a_lookLS, a_look0, a_lookS, a_lookO0, a_lookO1, a_lookOS, a_wV, a_wO, a_wC, a_wBin, a_wUn, a_wTst, a_wTru, a_wAnd, a_wOr, a_wNot, a_wAndV, a_wOrV, a_wNotV, a_wIf, a_wCh, a_wNil, a_wCons, a_wStar, a_wTup, a_wLst, a_wCal, a_wCall, a_wCall0, a_wCallK, a_wCallB, a_wGot, a_noX, a_wCh3, a_wAugC, gInI_i, a_wCalK, a_wSl, a_wNo, a_wPart, a_wFld, a_wMth, a_wM0, a_wM1, a_wgN, a_wgNil, a_wgCons, a_wgT, a_wLc, a_wYes, a_itK, itK_lst, itK_tup, itK_str, seqD_lst, seqD_tup, a_wRg1, a_wRg2, a_wRg3, a_wEnumU, a_wEnumL, a_wZipU, a_wRevU, a_wComb, wipeD, a_mapS, a_map0, a_lenS, a_len0, List.replicate, a_appS, a_app0, a_set0, a_setS, Nat.reduceAdd, Nat.reduceSub, Nat.zero_add, true_and, and_true, gAdd_i, gAdd_s, gAdd_l, gAdd_t, gCat_l, gSub_i, gMul_i, gMul_l, gMul_t, gFdiv_i, gMod_i, gPow_i, gLt_i, gLe_i, gGt_i, gGe_i, gLen_l, gLen_t, gLen_s, gAbs_i, gToInt_i, gToInt_b, gToBl_i, gToBl_b, gToTup_l, gToTup_t, gToLst_l, gToLst_t, gMax2_i, gMin2_i, gNeg_i, gSl_l, gSl_t, gSl_s, gSlL_l, gRevL_l, gIsN_n, gIsN_b, gIsN_i, gIsN_s, gIsN_l, gIsN_t, gNotN_n, gNotN_b, gNotN_i, gNotN_s, gNotN_l, gNotN_t, truD, gEq_int, gNe_int, Bool.not_true, Bool.not_false]
  refine ⟨o, hd, rfl, vr, ?_⟩
  have z01 : zerQ o hd = 0 ∨ zerQ o hd = 1 := by
    unfold zerQ
    split
    · exact .inr rfl
    · exact .inl rfl
  have ez : zerQ o hd = ((zer fun k : Nat => wholeQ o hd ((k : Nat) : Int) : Nat) : Int) := by
    unfold zerQ zer
    show _ = (((if wholeQ o hd ((0 : Nat) : Int) = 0 then 1 else 0 : Nat)) : Int)
    rw [show (((0 : Nat)) : Int) = 0 from rfl]
    split <;> rfl
  generalize hz : (zer fun k : Nat => wholeQ o hd ((k : Nat) : Int)) = z at ez
  simp only [a_wFn, a_wSeq, a_wNx, a_wBk, a_wCt, a_wEx, a_wSet, a_wOwn, a_wAsg, a_wPar, a_wRet, a_wRetN, a_wRetF, a_wRetFO, a_wParO, a_wFnF, a_wIfS, a_wApp, a_wExt, a_wFrz, a_wAugI, a_wSetIx, a_wAugIx, a_wFor, a_lookL0, a_lookLS, a_look0, a_lookS, a_lookO0, a_lookO1, a_lookOS, a_wV, a_wO, a_wC, a_wBin, a_wUn, a_wTst, a_wTru, a_wAnd, a_wOr, a_wNot, a_wAndV, a_wOrV, a_wNotV, a_wIf, a_wCh, a_wNil, a_wCons, a_wStar, a_wTup, a_wLst, a_wCal, a_wCall, a_wCall0, a_wCallK, a_wCallB, a_wGot, a_noX, a_wCh3, a_wAugC, gInI_i, a_wCalK, a_wSl, a_wNo, a_wPart, a_wFld, a_wMth, a_wM0, a_wM1, a_wgN, a_wgNil, a_wgCons, a_wgT, a_wLc, a_wYes, a_itK, itK_lst, itK_tup, itK_str, seqD_lst, seqD_tup, a_wRg1, a_wRg2, a_wRg3, a_wEnumU, a_wEnumL, a_wZipU, a_wRevU, a_wComb, wipeD, a_mapS, a_map0, a_lenS, a_len0, List.replicate, a_appS, a_app0, a_set0, a_setS, Nat.reduceAdd, Nat.reduceSub, Nat.zero_add, true_and, and_true, gAdd_i, gAdd_s, gAdd_l, gAdd_t, gCat_l, gSub_i, gMul_i, gMul_l, gMul_t, gFdiv_i, gMod_i, gPow_i, gLt_i, gLe_i, gGt_i, gGe_i, gLen_l, gLen_t, gLen_s, gAbs_i, gToInt_i, gToInt_b, gToBl_i, gToBl_b, gToTup_l, gToTup_t, gToLst_l, gToLst_t, gMax2_i, gMin2_i, gNeg_i, gSl_l, gSl_t, gSl_s, gSlL_l, gRevL_l, gIsN_n, gIsN_b, gIsN_i, gIsN_s, gIsN_l, gIsN_t, gNotN_n, gNotN_b, gNotN_i, gNotN_s, gNotN_l, gNotN_t, truD, gEq_int, gNe_int, Bool.not_true, Bool.not_false]
  rw [ez] at z01 ⊢
  refine ⟨wide_mul (a := 10) (b := 10) (by omega) (by omega) (by decide) (by decide) (by decide), ?_⟩
  have ep : ((z : Nat) : Int) * (((n : Nat) : Int) - 1) = ((z * (n - 1) : Nat) : Int) := by
    rw [Int.natCast_mul, show ((n - 1 : Nat) : Int) = ((n : Nat) : Int) - 1 by omega]
  rw [ep]
  by_cases c4 : items < count + z * (n - 1)
  · rw [decide_eq_true (show ((items : Nat) : Int) - ((count : Nat) : Int) - ((z * (n - 1) : Nat) : Int) < 0 by omega)]
    exact hk none (.inr (.inr (.inl ⟨by omega, by omega, c3, by rw [hz]; exact c4, rfl⟩)))
  rw [decide_eq_false (show ¬ ((items : Nat) : Int) - ((count : Nat) : Int) - ((z * (n - 1) : Nat) : Int) < 0 by omega)]
  simp only [a_wFn, a_wSeq, a_wNx, a_wBk, a_wCt, a_wEx, a_wSet, a_wOwn, a_wAsg, a_wPar, a_wRet, a_wRetN, a_wRetF, a_wRetFO, a_wParO, a_wFnF, a_wIfS, a_wApp, a_wExt, a_wFrz, a_wAugI, a_wSetIx, a_wAugIx, a_wFor, a_lookL0, a_lookLS, a_look0, a_lookS, a_lookO0, a_lookO1, a_lookOS, a_wV, a_wO, a_wC, a_wBin, a_wUn, a_wTst, a_wTru, a_wAnd, a_wOr, a_wNot, a_wAndV, a_wOrV, a_wNotV, a_wIf, a_wCh, a_wNil, a_wCons, a_wStar, a_wTup, a_wLst, a_wCal, a_wCall, a_wCall0, a_wCallK, a_wCallB, a_wGot, a_noX, a_wCh3, a_wAugC, gInI_i, a_wCalK, a_wSl, a_wNo, a_wPart, a_wFld, a_wMth, a_wM0, a_wM1, a_wgN, a_wgNil, a_wgCons, a_wgT, a_wLc, a_wYes, a_itK, itK_lst, itK_tup, itK_str, seqD_lst, seqD_tup, a_wRg1, a_wRg2, a_wRg3, a_wEnumU, a_wEnumL, a_wZipU, a_wRevU, a_wComb, wipeD, a_mapS, a_map0, a_lenS, a_len0, List.replicate, a_appS, a_app0, a_set0, a_setS, Nat.reduceAdd, Nat.reduceSub, Nat.zero_add, true_and, and_true, gAdd_i, gAdd_s, gAdd_l, gAdd_t, gCat_l, gSub_i, gMul_i, gMul_l, gMul_t, gFdiv_i, gMod_i, gPow_i, gLt_i, gLe_i, gGt_i, gGe_i, gLen_l, gLen_t, gLen_s, gAbs_i, gToInt_i, gToInt_b, gToBl_i, gToBl_b, gToTup_l, gToTup_t, gToLst_l, gToLst_t, gMax2_i, gMin2_i, gNeg_i, gSl_l, gSl_t, gSl_s, gSlL_l, gRevL_l, gIsN_n, gIsN_b, gIsN_i, gIsN_s, gIsN_l, gIsN_t, gNotN_n, gNotN_b, gNotN_i, gNotN_s, gNotN_l, gNotN_t, truD, gEq_int, gNe_int, Bool.not_true, Bool.not_false]
  have c101 : (((count - 1 : Nat) : Int)).natAbs < 2 ^ 8000 := by rw [← ec]; exact c100
  refine ⟨o, hd, _, rfl, vr, by omega, c101, ?_⟩
  dsimp only
  rw [a_wNmg]
  simp only [a_wFn, a_wSeq, a_wNx, a_wBk, a_wCt, a_wEx, a_wSet, a_wOwn, a_wAsg, a_wPar, a_wRet, a_wRetN, a_wRetF, a_wRetFO, a_wParO, a_wFnF, a_wIfS, a_wApp, a_wExt, a_wFrz, a_wAugI, a_wSetIx, a_wAugIx, a_wFor, a_lookL0, a_lookLS, a_look0, a_lookS, a_lookO0, a_lookO1, a_lookOS, a_wV, a_wO, a_wC, a_wBin, a_wUn, a_wTst, a_wTru, a_wAnd, a_wOr, a_wNot, a_wAndV, a_wOrV, a_wNotV, a_wIf, a_wCh, a_wNil, a_wCons, a_wStar, a_wTup, a_wLst, a_wCal, a_wCall, a_wCall0, a_wCallK, a_wCallB, a_wGot, a_noX, a_wCh3, a_wAugC, gInI_i, a_wCalK, a_wSl, a_wNo, a_wPart, a_wFld, a_wMth, a_wM0, a_wM1, a_wgN, a_wgNil, a_wgCons, a_wgT, a_wLc, a_wYes, a_itK, itK_lst, itK_tup, itK_str, seqD_lst, seqD_tup, a_wRg1, a_wRg2, a_wRg3, a_wEnumU, a_wEnumL, a_wZipU, a_wRevU, a_wComb, wipeD, a_mapS, a_map0, a_lenS, a_len0, List.replicate, a_appS, a_app0, a_set0, a_setS, Nat.reduceAdd, Nat.reduceSub, Nat.zero_add, true_and, and_true, gAdd_i, gAdd_s, gAdd_l, gAdd_t, gCat_l, gSub_i, gMul_i, gMul_l, gMul_t, gFdiv_i, gMod_i, gPow_i, gLt_i, gLe_i, gGt_i, gGe_i, gLen_l, gLen_t, gLen_s, gAbs_i, gToInt_i, gToInt_b, gToBl_i, gToBl_b, gToTup_l, gToTup_t, gToLst_l, gToLst_t, gMax2_i, gMin2_i, gNeg_i, gSl_l, gSl_t, gSl_s, gSlL_l, gRevL_l, gIsN_n, gIsN_b, gIsN_i, gIsN_s, gIsN_l, gIsN_t, gNotN_n, gNotN_b, gNotN_i, gNotN_s, gNotN_l, gNotN_t, truD, gEq_int, gNe_int, Bool.not_true, Bool.not_false]
  have t62 : (2 : Int) ^ 62 = 4611686018427387904 := by decide
  refine ⟨o, hd, _, _, _, rfl, vr, by omega, by omega, by omega, by omega, _, rfl, by omega, Int.le_refl _, by rw [t62]; omega, fun S top => ?_⟩
  have e1 : (((z : Nat) : Int)).toNat = z := by omega
  have e2 : (((n : Nat) : Int) - 1).toNat = n - 1 := by omega
  have e3 : (((items : Nat) : Int) - ((count : Nat) : Int) - ((z * (n - 1) : Nat) : Int)).toNat = items - count - z * (n - 1) := by omega
  rw [e1, e2, e3] at top
  have sm : ∀ k : Nat, k ≤ z + (items - count - z * (n - 1)) → 0 ≤ wholeQ o hd ((k : Nat) : Int) ∧ wholeQ o hd ((k : Nat) : Int) ≤ 2 ^ 3600 := fun k hk => by
    have h1 := whole_small vr (n := ((k : Nat) : Int)) (by omega) (by omega)
    have h2 := wholeQ_nn vr (n := ((k : Nat) : Int)) (by omega)
    refine ⟨h2, ?_⟩
    have : ((2 : Int) ^ 3600) = ((2 ^ 3600 : Nat) : Int) := by rw [Int.natCast_pow]; rfl
    rw [this]
    omega
  obtain ⟨S0, S1⟩ := top_bounds top sm
  have m0 := wholeQ_nn vr (n := ((count - 1 : Nat) : Int)) (by omega)
  have m1 := whole_small vr (n := ((count - 1 : Nat) : Int)) (by omega) (by omega)
  refine ⟨by decide, _, _, rfl, rfl, ?_, ?_, by decide, ?_⟩
  · show 0 < wholeQ o hd ((count - 1 : Nat) : Int) + S
    omega
  · show (wholeQ o hd ((count - 1 : Nat) : Int) + S).natAbs < _
    have : ((2 : Int) ^ 3600) = ((2 ^ 3600 : Nat) : Int) := by rw [Int.natCast_pow]; rfl
    rw [this] at S1
    have big : (2 : Nat) ^ 3600 * 20 ≤ 2 ^ 8000 := by decide +kernel
    generalize (2 : Nat) ^ 3600 = N at *
    have le : ((n - 1 : Nat) : Int) * (N : Int) ≤ 11 * (N : Int) := Int.mul_le_mul_of_nonneg_right (by omega) (by omega)
    omega
  · exact hk _ (.inr (.inr (.inr ⟨by omega, c3, by rw [hz]; omega, S, by rw [hz]; exact top, rfl⟩)))
theorem cs_least_possible (B : Bl mg) (DD : OwnDef K mg "least_possible" s_least_possible) (C__check : CalG P w K mg base 4 "_check" (spW (suR K mg c TLb) 3 f__check) []) (C_check_count : CalG P w K mg base 3 "check_count" (spW (suR K mg c TLb) 1 f_check_count) []) (C_check_at_most : CalG P w K mg base 1 "check_at_most" (spW (suR K mg c TLb) 2 f_check_at_most) []) (C_items_at_0 : CalG P w K mg base 2 "items_at_0" (spW (suR K mg c TLb) 1 f_items_at_0) []) (C_lowest : CalG P w K mg base 2 "lowest" (spW (suR K mg c TLb) 1 f_lowest) []) (M_whole_mark : Met P w K mg base 1 c "whole_mark" (spW (suR K mg c TLb) 2 f_whole_mark)) (TP : TxP K mg) (TD : TxD mg) (CN : Cal P w K mg base 4 "next_mark_splits" (sp_next_mark_splits (suR K mg c TLb) c cS) []) (MG : Met P w K mg base 4 cS "greatest" (sp_Splits_greatest (suR K mg c TLb) cS)) : CalG P w K mg base 6 "least_possible" (spW (suR K mg c TLb) 4 f_least_possible) [] :=
  (pc_least_possible B DD C__check C_check_count C_check_at_most C_items_at_0 C_lowest M_whole_mark TP TD CN MG).imp (spW_mono fun ds k e ln h => ok_least_possible ds k e ln h)
theorem ck_least_possible_3210 (B : Bl mg) (DD : OwnDef K mg "least_possible" s_least_possible) (C__check : CalG P w K mg base 4 "_check" (spW (suR K mg c TLb) 3 f__check) []) (C_check_count : CalG P w K mg base 3 "check_count" (spW (suR K mg c TLb) 1 f_check_count) []) (C_check_at_most : CalG P w K mg base 1 "check_at_most" (spW (suR K mg c TLb) 2 f_check_at_most) []) (C_items_at_0 : CalG P w K mg base 2 "items_at_0" (spW (suR K mg c TLb) 1 f_items_at_0) []) (C_lowest : CalG P w K mg base 2 "lowest" (spW (suR K mg c TLb) 1 f_lowest) []) (M_whole_mark : Met P w K mg base 1 c "whole_mark" (spW (suR K mg c TLb) 2 f_whole_mark)) (TP : TxP K mg) (TD : TxD mg) (CN : Cal P w K mg base 4 "next_mark_splits" (sp_next_mark_splits (suR K mg c TLb) c cS) []) (MG : Met P w K mg base 4 cS "greatest" (sp_Splits_greatest (suR K mg c TLb) cS)) : CalPG P w K mg base 6 "least_possible" ["count", "items", "claimants", "rule"] [3, 2, 1, 0] (spW (suR K mg c TLb) 4 f_least_possible) :=
  (calPG_by DD sc_least_possible rfl (fun f fd F s ws _ hl => by
    obtain ⟨oc, od, kV, doc, pm, an, cdv, ct, osl,
          rfl, lk, hcd⟩ := F.ex
    match ws, hl with
    | [u0, u1, u2, u3], _ => exact .of_eq rfl) (pb_least_possible B C__check C_check_count C_check_at_most C_items_at_0 C_lowest M_whole_mark TP TD CN MG)).imp (spW_mono fun ds k e ln h => ok_least_possible ds k e ln h)
end
end LW
set_option Elab.async false
set_option linter.all false
set_option maxRecDepth 100000
set_option maxHeartbeats 4000100
set_option exponentiation.threshold 9000
namespace LW
open L2 PySem.Spec PyProof.Rows PySem
abbrev s__law_at : Stmt := topS 60
theorem sc__law_at : FnScope ["_law_own", "_law_at_here"] ["_law_own", "_law_at_here"] (defScope s__law_at) := ⟨rfl, rfl, rfl, by decide +kernel, rfl, by decide +kernel, by decide +kernel⟩
abbrev s__law_common : Stmt := topS 61
theorem sc__law_common : FnScope ["_law_one", "_law_two"] ["_law_one", "_law_two"] (defScope s__law_common) := ⟨rfl, rfl, rfl, by decide +kernel, rfl, by decide +kernel, by decide +kernel⟩
abbrev s__law_word : Stmt := topS 62
theorem sc__law_word : FnScope ["_law_top", "_law_bottom", "_law_by"] ["_law_top", "_law_bottom"] (defScope s__law_word) := ⟨rfl, rfl, rfl, by decide +kernel, rfl, by decide +kernel, by decide +kernel⟩
abbrev s__law_made : Stmt := topS 63
theorem sc__law_made : FnScope ["_law_own", "_law_words", "_law_mark"] ["_law_own"] (defScope s__law_made) := ⟨rfl, rfl, rfl, by decide +kernel, rfl, by decide +kernel, by decide +kernel⟩
local macro_rules | `(tactic| walk_at "len") => `(tactic| skip)
def irD (b : Int) (ms : List Int) (s : Int) : PyData := .tuple [.int b, .list (ms.map PyData.int), .int s]
/-! ### a mark -/
/-! ### words, the rule itself -/
section
variable {P : Program} {w : World} {K : PySem.W.Frag} {mg : Str → Option Value} {base : Heap} {c : Addr} {TLb : List (Addr × Str)}
def sp__law_common (K : PySem.W.Frag) (c : Addr) : Sp := fun vs H Q _ => ∃ (t b : Int), vs = [.int t, .int b] ∧ 0 ≤ t ∧ 0 < b ∧ Q (.int ((Nat.gcd t.natAbs b.natAbs : Nat) : Int)) H
theorem cal__law_common (B : Bl mg) (DD : OwnDef K mg "_law_common" s__law_common)   : Cal P w K mg base 1 "_law_common" (sp__law_common K c) [] := by
  obtain ⟨f, fd, F, hm⟩ := DD.ex
  refine ⟨f, fd, ["_law_one", "_law_two"], [], F.ok sc__law_common (fun vs H Q E h => ?len) (fun cdv A outer s H vs Q E hr h => ?run), hm, F.kp, F.binds (fun _ _ _ _ _ _ us hl => match us, hl with | [_, _], _ => rfl), .nil⟩
  case len => first | (obtain ⟨_, rfl, _⟩ := h; rfl) | (obtain ⟨_, _, rfl, _⟩ := h; rfl) | (obtain ⟨_, _, _, rfl, _⟩ := h; rfl) | (obtain ⟨_, _, _, _, rfl, _⟩ := h; rfl) | (obtain ⟨_, _, _, _, _, rfl, _⟩ := h; rfl) | (obtain ⟨_, _, _, _, _, _, rfl, _⟩ := h; rfl) | (obtain ⟨_, _, _, _, _, _, _, rfl, _⟩ := h; rfl) | (obtain ⟨_, _, _, _, _, _, _, _, rfl, _⟩ := h; rfl) | (obtain ⟨_, _, _, _, _, _, _, _, _, rfl, _⟩ := h; rfl) | (obtain ⟨_, _, _, _, _, _, _, _, _, _, rfl, _⟩ := h; rfl) | (obtain ⟨_, _, _, _, _, _, _, _, _, _, _, rfl, _⟩ := h; rfl) | (obtain ⟨_, _, _, _, _, _, _, _, _, _, _, _, rfl, _⟩ := h; rfl) | (obtain ⟨_, _, _, _, _, _, _, _, _, _, _, _, _, rfl, _⟩ := h; rfl) | (obtain ⟨_, _, _, _, _, _, _, _, _, _, _, _, _, _, rfl, _⟩ := h; rfl)
  case run =>
    obtain ⟨t, b, rfl, ht, hb, q⟩ := h
    refine ⟨_, (pss_cons (ps_while PassesOwn.never (pt_cmpR op_gt (pv 1) pe_int (nomark _)) (pss_one (ps_par (i := 0) (j := 1) (by rfl) sc__law_common.nd rfl rfl (by decide) rfl rfl (pa_cons (pv 1) (pa_cons (pe_op op_mod (pe_callTy call_int1 (by rfl) B.int (by decide +kernel) (pa_cons (pv 0) pa_nil)) (pv 1)) pa_nil)) (by rfl))))
      (pss_one (ps_ret (pv 0)))), ?_⟩
    refine while_by (fun σ H2 => ∃ m n : Nat, σ = [some (.int (m : Int)), some (.int (n : Int))] ∧ H2 = H ∧ Nat.gcd m n = Nat.gcd t.natAbs b.natAbs)
      (fun σ _ => match σ with | [_, some (.int n)] => n.toNat | _ => 0) ⟨t.natAbs, b.natAbs, ?_, rfl, rfl⟩ ?_ ?_
    · have e1 : t = ((t.natAbs : Nat) : Int) := by omega
      have e2 : b = ((b.natAbs : Nat) : Int) := by omega
      rw [← e1, ← e2]
      rfl
    · rintro σ H2 ⟨m, n, rfl, rfl, hmn⟩
      refine ⟨_, rfl, _, _, rfl, rfl, _, rfl, ite2 (fun e => ?_) (fun e => ?_)⟩
      · have hn : 0 < (n : Int) := of_decide_eq_true e
        refine ⟨_, rfl, _, rfl, .inl ⟨_, rfl, _, rfl, _, _, rfl, rfl, hn, _, _, rfl, ⟨n, m % n, rfl, rfl, ?_⟩, ?_⟩⟩
        · rw [← hmn, Nat.gcd_comm n (m % n), Nat.gcd_comm m n]
          exact (Nat.gcd_rec n m).symm
        · show ((m : Int) % (n : Int)).toNat < (n : Int).toNat
          have := Int.emod_lt_of_pos (m : Int) hn
          have := Int.emod_nonneg (m : Int) (show (n : Int) ≠ 0 by omega)
          omega
      · have hn : ¬ 0 < (n : Int) := fun z => e (decide_eq_true z)
        have e0 : n = 0 := by omega
        subst e0
        rw [Nat.gcd_zero_right] at hmn
        subst hmn
        exact ⟨_, rfl, q⟩
    · rintro σ H2 Q1 Q2 hQ ⟨v, e, i, j, e1, e2, k, ek, q'⟩
      exact ⟨v, e, i, j, e1, e2, k, ek, hQ _ _ q'⟩
def sp__law_word (K : PySem.W.Frag) (c : Addr) : Sp := fun vs H Q _ => ∃ (t b : Int), vs = [.int t, .int b] ∧ 0 ≤ t ∧ 0 < b ∧ t < 10 ^ 50 ∧ b < 10 ^ 50 ∧ Q (.str (SX.S (qL (lowQ t b)))) H
theorem cal__law_word (B : Bl mg) (DD : OwnDef K mg "_law_word" s__law_word) (C__law_common : Cal P w K mg base 1 "_law_common" (sp__law_common K c) [])  : Cal P w K mg base 2 "_law_word" (sp__law_word K c) [] := by
  obtain ⟨f, fd, F, hm⟩ := DD.ex
  refine ⟨f, fd, ["_law_top", "_law_bottom"], [], F.ok sc__law_word (fun vs H Q E h => ?len) (fun cdv A outer s H vs Q E hr h => ?run), hm, F.kp, F.binds (fun _ _ _ _ _ _ us hl => match us, hl with | [_, _], _ => rfl), .nil⟩
  case len => first | (obtain ⟨_, rfl, _⟩ := h; rfl) | (obtain ⟨_, _, rfl, _⟩ := h; rfl) | (obtain ⟨_, _, _, rfl, _⟩ := h; rfl) | (obtain ⟨_, _, _, _, rfl, _⟩ := h; rfl) | (obtain ⟨_, _, _, _, _, rfl, _⟩ := h; rfl) | (obtain ⟨_, _, _, _, _, _, rfl, _⟩ := h; rfl) | (obtain ⟨_, _, _, _, _, _, _, rfl, _⟩ := h; rfl) | (obtain ⟨_, _, _, _, _, _, _, _, rfl, _⟩ := h; rfl) | (obtain ⟨_, _, _, _, _, _, _, _, _, rfl, _⟩ := h; rfl) | (obtain ⟨_, _, _, _, _, _, _, _, _, _, rfl, _⟩ := h; rfl) | (obtain ⟨_, _, _, _, _, _, _, _, _, _, _, rfl, _⟩ := h; rfl) | (obtain ⟨_, _, _, _, _, _, _, _, _, _, _, _, rfl, _⟩ := h; rfl) | (obtain ⟨_, _, _, _, _, _, _, _, _, _, _, _, _, rfl, _⟩ := h; rfl) | (obtain ⟨_, _, _, _, _, _, _, _, _, _, _, _, _, _, rfl, _⟩ := h; rfl)
  case run =>
    obtain ⟨t, b, rfl, ht, hb, ht2, hb2, k⟩ := h
    refine ⟨_, (pss_cons (ps_set (i := 2) sc__law_word.nd rfl (Or.inl rfl) (pe_c C__law_common hr (by decide) (by rfl) (pa_cons (pv 0) (pa_cons (pv 1) pa_nil))))
      (pss_one (ps_ret (pe_ifExp (pt_cmpR op_eq (pv 2) (pv 1) (nomark _)) (pe_callTy call_str_int (by rfl) B.str (by decide +kernel) (pa_cons (pe_op op_fdivW (pv 0) (pv 2)) pa_nil)) (pe_op op_add_str (pe_op op_add_str (pe_callTy call_str_int (by rfl) B.str (by decide +kernel) (pa_cons (pe_op op_fdivW (pv 0) (pv 2)) pa_nil)) pe_str) (pe_callTy call_str_int (by rfl) B.str (by decide +kernel) (pa_cons (pe_op op_fdivW (pv 1) (pv 2)) pa_nil))))))), ?_⟩
    have ok := OkW.low ht hb ht2 hb2
    have hg : 0 < Nat.gcd t.natAbs b.natAbs := gcd_pos hb
    have hg2 : Nat.gcd t.natAbs b.natAbs < 2 ^ 8000 := Nat.lt_of_le_of_lt (gcd_le hb) (Nat.lt_trans (show b.natAbs < 2 ^ 200 by omega) (by decide +kernel))
    have hd1 : CDivW t ((Nat.gcd t.natAbs b.natAbs : Nat) : Int) := wide_div (b := 8000) (by omega) (by simpa using hg2) (by decide) (by decide)
    have hd2 : CDivW b ((Nat.gcd t.natAbs b.natAbs : Nat) : Int) := wide_div (b := 8000) (by omega) (by simpa using hg2) (by decide) (by decide)
    have sl : sizeLine = 16777216 := sizeLine_eq
    have c47 : ("/" : Str) = SX.S [47] := by decide +kernel
    have l1 := numL_50 ok.a ok.a2
    have l2 := numL_50 (Int.le_of_lt ok.b) ok.b2
    have v1 : t / ((Nat.gcd t.natAbs b.natAbs : Nat) : Int) = (lowQ t b).1 := rfl
    have v2 : b / ((Nat.gcd t.natAbs b.natAbs : Nat) : Int) = (lowQ t b).2 := rfl
    refine ⟨_, rfl, _, rfl, t, b, rfl, ht, hb, ?_⟩
    refine ⟨_, rfl, _, rfl, rfl, _, rfl, ite2 (fun e => ?_) (fun e => ?_)⟩
    · have e1 : ((Nat.gcd t.natAbs b.natAbs : Nat) : Int) = b := V.int.inj (of_decide_eq_true e)
      have e2 : (lowQ t b).2 = 1 := by
        rw [← v2, e1]
        exact Int.ediv_self (by omega)
      refine ⟨_, rfl, _, rfl, _, _, rfl, rfl, hd1, ?_⟩
      refine ⟨_, rfl, by rw [v1]; exact log2_50 ok.a ok.a2, ?_⟩
      have z : SX.S (qL (lowQ t b)) = Str.ofString (toString (lowQ t b).1) := by rw [toS ok.a]; unfold qL; rw [if_pos e2]
      rw [z] at k
      exact k
    · have e1 : ¬ ((Nat.gcd t.natAbs b.natAbs : Nat) : Int) = b := fun z => e (decide_eq_true (congrArg V.int z))
      have e2 : ¬ (lowQ t b).2 = 1 := by
        intro z
        obtain ⟨g, hg0, a1, a2⟩ := low_mul (t := t) hb
        have : (b / ((Nat.gcd t.natAbs b.natAbs : Nat) : Int)) * ((Nat.gcd t.natAbs b.natAbs : Nat) : Int) = b := Int.ediv_mul_cancel (Int.ofNat_dvd_left.mpr (Nat.gcd_dvd_right _ _))
        rw [v2, z, Int.one_mul] at this
        exact e1 this
      refine ⟨_, rfl, _, rfl, _, _, rfl, rfl, hd1, ?_⟩
      refine ⟨_, rfl, by rw [v1]; exact log2_50 ok.a ok.a2, _, _, rfl, rfl, ?_, ?_⟩
      · rw [v1, toS ok.a, SX.S_len, c47, SX.S_len, sl, List.length_cons, List.length_nil]; omega
      refine ⟨_, rfl, _, rfl, _, _, rfl, rfl, hd2, ?_⟩
      refine ⟨_, rfl, by rw [v2]; exact log2_50 (Int.le_of_lt ok.b) ok.b2, _, _, rfl, rfl, ?_, ?_⟩
      · rw [v1, v2, toS ok.a, toS (Int.le_of_lt ok.b), c47, SX.S_cat, SX.S_len, SX.S_len, sl, List.length_append, List.length_cons, List.length_nil]; omega
      have z : SX.S (qL (lowQ t b)) = Str.ofString (toString (lowQ t b).1) ++ ("/" : Str) ++ Str.ofString (toString (lowQ t b).2) := by
        rw [toS ok.a, toS (Int.le_of_lt ok.b), c47, SX.S_cat, SX.S_cat]
        unfold qL
        rw [if_neg e2, List.append_assoc]
        rfl
      rw [z] at k
      exact k
def sp__law_made (K : PySem.W.Frag) (c : Addr) : Sp := fun vs H Q _ => ∃ (v : V) (A : List Addr) (b s : Int) (ms : List Int), vs = [v] ∧ Hd A H ∧ Is K A H v (irD b ms s) ∧ IR b ms s ∧
  ∀ r H', Same H H' → r ∉ A → RuleAt K c A H' r (lowQ s b) (lowL b ms) → Q (.ref r) H'
theorem cal__law_made (B : Bl mg) (DD : OwnDef K mg "_law_made" s__law_made) (C__law_word : Cal P w K mg base 2 "_law_word" (sp__law_word K c) []) (S_read : Sta P w K mg base 9 "Rule" "read" (sp_Rule_read K c)) : Cal P w K mg base 18 "_law_made" (sp__law_made K c) [] := by
  obtain ⟨f, fd, F, hm⟩ := DD.ex
  refine ⟨f, fd, ["_law_own"], [], F.ok sc__law_made (fun vs H Q E h => ?len) (fun cdv A outer s H vs Q E hr h => ?run), hm, F.kp, F.binds (fun _ _ _ _ _ _ us hl => match us, hl with | [_], _ => rfl), .nil⟩
  case len => first | (obtain ⟨_, rfl, _⟩ := h; rfl) | (obtain ⟨_, _, rfl, _⟩ := h; rfl) | (obtain ⟨_, _, _, rfl, _⟩ := h; rfl) | (obtain ⟨_, _, _, _, rfl, _⟩ := h; rfl) | (obtain ⟨_, _, _, _, _, rfl, _⟩ := h; rfl) | (obtain ⟨_, _, _, _, _, _, rfl, _⟩ := h; rfl) | (obtain ⟨_, _, _, _, _, _, _, rfl, _⟩ := h; rfl) | (obtain ⟨_, _, _, _, _, _, _, _, rfl, _⟩ := h; rfl) | (obtain ⟨_, _, _, _, _, _, _, _, _, rfl, _⟩ := h; rfl) | (obtain ⟨_, _, _, _, _, _, _, _, _, _, rfl, _⟩ := h; rfl) | (obtain ⟨_, _, _, _, _, _, _, _, _, _, _, rfl, _⟩ := h; rfl) | (obtain ⟨_, _, _, _, _, _, _, _, _, _, _, _, rfl, _⟩ := h; rfl) | (obtain ⟨_, _, _, _, _, _, _, _, _, _, _, _, _, rfl, _⟩ := h; rfl) | (obtain ⟨_, _, _, _, _, _, _, _, _, _, _, _, _, _, rfl, _⟩ := h; rfl)
  case run =>
    obtain ⟨v, A0, b, s, ms, rfl, hA, hv, ir, k⟩ := h
    refine ⟨_, (pss_cons (ps_setLc (i := 1) (own := [("_law_mark", 2)]) (by rfl) sc__law_made.nd rfl rfl (sw_true rfl rfl rfl (by decide +kernel)) (pi_list (pe_ix ix_seq (pv 0) pe_int (fun _ _ => rfl))) (blkOk_by (own := [("_law_mark", 2)]) (N := ["_law_own", "_law_words", "_law_mark"]) (sc := defScope s__law_made) (by decide +kernel)) (fun _ _ _ _ _ => (pg_name (i := 2) sc__law_made.nd rfl (Or.inl rfl))) (fun _ _ _ _ _ => pts_nil) (fun _ _ _ _ _ => (pe_c C__law_word hr (by decide) (by rfl) (pa_cons (pv 2) (pa_cons (pe_ix (r := rIx K) ix_seq (pv 0) pe_int (fun _ _ => rfl)) pa_nil)))))
      (pss_one (ps_ret (pe_sta S_read hr (by decide) (by rfl) (pa_cons (pe_join pe_str (pe_op op_cat (pv 1) (pe_lst (pa_cons pe_str (pa_cons (pe_c C__law_word hr (by decide) (by rfl) (pa_cons (pe_ix ix_seq (pv 0) pe_int (fun _ _ => rfl)) (pa_cons (pe_ix (r := rIx K) ix_seq (pv 0) pe_int (fun _ _ => rfl)) pa_nil))) pa_nil))))) pa_nil))))), ?_⟩
    have vr := ir.vr
    have sl : sizeLine = 16777216 := sizeLine_eq
    have v8 := ir.len
    refine ⟨_, rfl, rd_tup hv (by decide) rfl fun u hu => ?_⟩
    obtain ⟨l, vs, rfl, sq, all⟩ := is_lst hu
    have vl : vs.length = ms.length := by rw [all.len, List.length_map]
    refine ⟨l, rfl, ⟨_, sqL_full sq⟩, fun D0 nD => ?_⟩
    refine lc_list (K := K) (a := l) (xs := vs) (fun i H4 => Same H H4 ∧ H4 D0 = some (.lst ((lowL b (ms.take i)).map fun q => V.str (SX.S (qL q))))) ⟨same_new nD, upd_same⟩ (fun i H4 _ ⟨s4, _⟩ => s4.seq (sqL_full sq)) ?_ ?_
    · rintro i y H4 hi ⟨s4, eD⟩
      obtain ⟨d, hd', hy⟩ := iss_get' all hi
      obtain ⟨m, hm', rfl⟩ := some_map hd'
      obtain rfl := is_int hy
      have mm : m ∈ ms := List.mem_of_getElem? hm'
      have mb := ir.bnd m mm
      have bb := ir.b1
      refine ⟨rfl, _, rfl, _, rfl, rd_int (Is.mono (Go.of s4) hv) (by decide) rfl ?_⟩
      refine ⟨m, b, rfl, ir.nn m mm, ir.b0, by omega, by omega, _, eD, ?_, fun b' o e => ?_, ?_⟩
      · unfold lowL
        rw [List.length_map, List.length_map, List.length_take]
        exact small1000 (by omega)
      · rw [upd_ne (ne_of_none e nD)]
        exact s4 _ _ e
      · rw [upd_same, List.take_add_one, hm']
        unfold lowL
        rw [List.map_append, List.map_append]
        rfl
    · rintro H4 ⟨s4, eD⟩
      rw [vl, List.take_length] at eD
      have hv4 := Is.mono (Go.of s4) hv
      have bb := ir.b1
      have sb := ir.s1
      refine ⟨⟨_, rfl⟩, _, rfl, _, rfl, rd_int hv4 (by decide) rfl ?_⟩
      refine ⟨_, rfl, rd_int hv4 (by decide) rfl ?_⟩
      refine ⟨s, b, rfl, ir.s0, ir.b0, by omega, by omega, by show 2 ≤ sizeLine; decide, fun p np => ?_⟩
      refine ⟨D0, p, _, _, rfl, rfl, (same_new np) _ _ eD, upd_same, ?_, fun t nt => ?_⟩
      · unfold lowL
        rw [List.length_map, List.length_map, sl]
        show ms.length + 2 ≤ _
        omega
      have c124 : ("|" : Str) = SX.S [124] := by decide +kernel
      have c32 : (" " : Str) = SX.S [32] := by decide +kernel
      have el : ((lowL b ms).map fun q => V.str (SX.S (qL q))) ++ [V.str ("|" : Str), V.str (SX.S (qL (lowQ s b)))] = ((ruleParts (lowQ s b) (lowL b ms)).map SX.S).map V.str := by
        unfold ruleParts
        rw [c124]
        simp only [List.map_append, List.map_map, List.map_cons, List.map_nil]
        rfl
      refine ⟨_, t, (ruleParts (lowQ s b) (lowL b ms)).map SX.S, rfl, rfl, .inl (.inl (.inl ?_)), ?_, ?_⟩
      · rw [← el]
        exact upd_same
      · have h2 : ∀ p ∈ ruleParts (lowQ s b) (lowL b ms), p.length ≤ 101 := by
          intro p hp
          unfold ruleParts at hp
          rcases List.mem_append.mp hp
                with hp | hp
          · obtain ⟨q, hq, rfl⟩ := List.mem_map.mp hp
            exact qL_len (vr.oks q hq).1
          · rcases List.mem_cons.mp hp
                with rfl | hp
            · decide
            · rw [List.mem_singleton] at hp
              subst hp
              exact qL_len vr.ok
        have h3 := sum_le h2
        have h4 : (ruleParts (lowQ s b) (lowL b ms)).length = (lowL b ms).length + 2 := by unfold ruleParts; simp
        have e1 : (((ruleParts (lowQ s b) (lowL b ms)).map SX.S).map (fun x => x.length)).sum = ((ruleParts (lowQ s b) (lowL b ms)).map (·.length)).sum := by
          rw [List.map_map]
          exact congrArg List.sum (List.map_congr_left fun q _ => SX.S_len q)
        have e2 : (" " : Str).length = 1 := by rw [c32, SX.S_len] <;> rfl
        have e3 : (lowL b ms).length = ms.length := List.length_map _
        rw [e1, e2, List.length_map, h4, e3]
        rw [h4, e3] at h3
        omega
      · have e : Txt.join (" " : Str) ((ruleParts (lowQ s b) (lowL b ms)).map SX.S) = SX.S (ruleL (lowQ s b) (lowL b ms)) := by
          rw [c32, SX.join_S]
          rfl
        have sH := (s4.trans (same_new np (o := .lst [V.str ("|" : Str), V.str (SX.S (qL (lowQ s b)))]))).trans (same_new nt (o := .lst (((lowL b ms).map fun q => V.str (SX.S (qL q))) ++ [V.str ("|" : Str), V.str (SX.S (qL (lowQ s b)))])))
        refine ⟨lowQ s b, lowL b ms, A0, ?_, vr, (Go.of sH).held hA, fun r H2 s2 hr hR => k r H2 (sH.trans s2) hr hR⟩
        rw [e]
        rfl
end
end LW
set_option Elab.async false
set_option linter.all false
set_option maxRecDepth 100000
set_option maxHeartbeats 4000100
set_option exponentiation.threshold 20000
namespace LW
open L2 PySem.Spec PyProof.Rows PySem
abbrev s__law_rule : Stmt := topS 59
theorem sc__law_rule : FnScope ["_law_pool_here", "_law_bottoms", "_law_size", "_law_bottom", "_law_shift", "_law_wide", "_law_way", "_law_steps", "_law_each", "_law_whole", "_law_top", "_law_at_here", "_law_marks", "_law_step"] ["_law_pool_here", "_law_bottoms"] (defScope s__law_rule) := ⟨rfl, rfl, rfl, by decide +kernel, rfl, by decide +kernel, by decide +kernel⟩
/-! ### the law's pool and its rules, in plain data -/
def irP (b : Int) (ms : List Int) (s : Int) : Dt := .tup [.int b, .lst (ms.map Dt.int), .int s]
theorem toPys_intL : ∀ ms : List Int, toPys (ms.map Dt.int) = some (ms.map PyData.int)
  | [] => by simp [toPys]
  | m :: ms => by
    rw [List.map_cons, List.map_cons, toPys, toPys_intL ms]
    rfl
theorem toPy_ir (b : Int) (ms : List Int) (s : Int) : toPy (irP b ms s) = some (irD b ms s) := by
  unfold irP irD
  have e : toPy (.lst (ms.map Dt.int)) = some (.list (ms.map PyData.int)) := by
    rw [toPy, toPys_intL]
    rfl
  rw [toPy, toPys, toPys, toPys, toPys, e]
  rfl
section
variable {S : Su} {M : Mu} {A : List Addr} {H : Hp} {v : V}
theorem ir_is {b : Int} {ms : List Int} {s : Int} (h : Da S M (hv A H) v (irP b ms s)) : Is S.K A H v (irD b ms s) := h.toD _ (toPy_ir b ms s)
end
section
variable {P : Program} {w : World} {K : PySem.W.Frag} {mg : Str → Option Value} {base : Heap} {c : Addr} {TLb : List (Addr × Str)}
theorem pool_of {M : Mu} {H : Hp} {a : Addr} (m : MOk (suR K mg c TLb) M H) (h : (a, 0) ∈ M) : PoolAt H a := by
  obtain ⟨o, e, x, y, z, rfl, r⟩ := m.ok _ h
  exact ⟨x, y, z, e, r⟩
theorem pool_ok {M : Mu} {H H' : Hp} {a : Addr} (m : MOk (suR K mg c TLb) M H) (t0 : PoolAt H a) (h0 : (a, 0) ∈ M) (g : Go [a] H H') (t : PoolAt H' a) : MOk (suR K mg c TLb) M H' := ⟨fun e he => by
  obtain ⟨o, e1, r⟩ := m.ok e he
  obtain ⟨x0, y0, w0, e0, _⟩ := t0.ex
  by_cases z : e.1 = a
  · obtain ⟨x, y, w, e2, r2⟩ := t.ex
    rw [z, e0] at e1
    cases e1
    refine ⟨_, by rw [z]; exact e2, ?_⟩
    generalize e.2 = k at r
    match k, r with
    | 0, _ => exact ⟨x, y, w, rfl, r2⟩
    | 1, ⟨_, _, ps, q, _⟩ => cases q
  · refine ⟨o, g.keep _ _ (by simpa using z) e1, (suR K mg c TLb).mdm (fun b u q n _ _ => g.keep _ _ (fun w => ?_) q) r⟩
    rw [List.mem_singleton.mp w, e0] at q
    cases q
    exact n _ rfl, m.must⟩
theorem pool_stp {M : Mu} {H H' : Hp} {a : Addr} {k : Nat} (h : (a, k) ∈ M) (g : Go [a] H H') : Stp M [] H [] H' := ⟨fun b o n _ e => g.keep b o (fun z => n (List.mem_map.mpr ⟨_, h, (List.mem_singleton.mp z).symm⟩)) e, fun _ z => by cases z⟩
def f__law_draw : SpF := fun ds k _ => ∃ m : Int, ds = [.tnk 0, .int m] ∧ 0 < m ∧ m < 1152921504606846976 ∧ ∀ r : Int, 0 ≤ r → r < m → k (.int r)
theorem br__law_draw {n : Nat} (C : Cal P w K mg base n "_law_draw" (sp__law_draw K c) []) : CalG P w K mg base n "_law_draw" (spW (suR K mg c TLb) 2 f__law_draw) [] := (C.imp fun vs H Q E ⟨Mu, A, ds, k, e, ln, hd, mA, m, hv, hw, a, ax⟩ => by
  obtain ⟨mm, rfl, m0, m1, hk⟩ := hw
  obtain ⟨v, u, rfl, h1, h2⟩ := hv.two
  cases h1 with
  | tnk h => exact ⟨_, mm, by rw [h2.int_eq], pool_of m h, m0, m1, fun r H' r0 r1 go tk => a _ _ _ (pool_stp h (go _ (List.mem_singleton.mpr rfl))) (pool_ok m (pool_of m h) h (go _ (List.mem_singleton.mpr rfl)) tk) (.int _) (hk r r0 r1)⟩).g
def w__law_pick : WS := (wRet (wBin gIx (wV 1) (wCall0 2 f__law_draw (wCons (wV 0) (wCons (wCal gLen (wCons (wV 1) wNil)) wNil)))))
theorem pb__law_pick (B : Bl mg) (C__law_draw : CalG P w K mg base 1 "_law_draw" (spW (suR K mg c TLb) 2 f__law_draw) [])  : Bdy P w K mg base 1 "_law_pick" s__law_pick ["_law_pool_here", "_law_things"] (suR K mg c TLb) w__law_pick := fun f cdv A outer s H E hr quiet =>
      (xsOne (xsRet (xw (xIx ix_seq pIx (xw (xV (pv 1))) (xw (xCall0 (pe_cG quiet C__law_draw hr (by decide) (by rfl) (xACons (xV (pv 0)) (xACons (xCB (pe_callB call_len (by rfl) B.len (by decide +kernel) (xWCons (xw (xV (pv 1))) xWNil)) pLen) xANil))))) (fun _ _ => rfl)))))
theorem pc__law_pick (B : Bl mg) (DD : OwnDef K mg "_law_pick" s__law_pick) (C__law_draw : CalG P w K mg base 1 "_law_draw" (spW (suR K mg c TLb) 2 f__law_draw) [])  : CalG P w K mg base 2 "_law_pick" (spW (suR K mg c TLb) 2 (wFn 2 w__law_pick)) [] :=
  calG_by DD sc__law_pick rfl (fun fd f F => F.binds (fun _ _ _ _ _ _ us hl => match us, hl with | [_, _], _ => rfl)) (pb__law_pick B C__law_draw)
def f__law_pick : SpF := fun ds k _ => ∃ l : List Dt, ds = [.tnk 0, .lst l] ∧ 0 < l.length ∧ l.length < 1000 ∧ ∀ d ∈ l, k d
theorem ok__law_pick (ds k e) (ln : ds.length = 2) (h : f__law_pick ds k e) : wFn 2 w__law_pick ds k e := by
  obtain ⟨l, rfl, l0, l1, hk⟩ := h
  (simp only [a_wFn, a_wFnF, a_mapS, a_map0, List.replicate, a_appS, a_app0, a_lenS, a_len0, Nat.reduceAdd, Nat.reduceSub, Nat.zero_add]; unfold w__law_pick; simp only [a_wFn, a_wSeq, a_wNx, a_wBk, a_wCt, a_wEx, a_wSet, a_wOwn, a_wAsg, a_wPar, a_wRet, a_wRetN, a_wRetF, a_wRetFO, a_wParO, a_wFnF, a_wIfS, a_wApp, a_wExt, a_wFrz, a_wAugI, a_wSetIx, a_wAugIx, a_wFor, a_lookL0, a_lookLS, a_look0, a_lookS, a_lookO0, a_lookO1, a_lookOS, a_wV, a_wO, a_wC, a_wBin, a_wUn, a_wTst, a_wTru, a_wAnd, a_wOr, a_wNot, a_wAndV, a_wOrV, a_wNotV, a_wIf, a_wCh, a_wNil, a_wCons, a_wStar, a_wTup, a_wLst, a_wCal, a_wCall, a_wCall0, a_wCallK, a_wCallB, a_wGot, a_noX, a_wCh3, a_wAugC, gInI_i, a_wCalK, a_wSl, a_wNo, a_wPart, a_wFld, a_wMth, a_wM0, a_wM1, a_wgN, a_wgNil, a_wgCons, a_wgT, a_wLc, a_wYes, a_itK, itK_lst, itK_tup, itK_str, seqD_lst, seqD_tup, a_wRg1, a_wRg2, a_wRg3, a_wEnumU, a_wEnumL, a_wZipU, a_wRevU, a_wComb, wipeD, a_mapS, a_map0, a_lenS, a_len0, List.replicate, a_appS, a_app0, a_set0, a_setS, Nat.reduceAdd, Nat.reduceSub, Nat.zero_add, true_and, and_true, gAdd_i, gAdd_s, gAdd_l, gAdd_t, gCat_l, gSub_i, gMul_i, gMul_l, gMul_t, gFdiv_i, gMod_i, gPow_i, gLt_i, gLe_i, gGt_i, gGe_i, gLen_l, gLen_t, gLen_s, gAbs_i, gToInt_i, gToInt_b, gToBl_i, gToBl_b, gToTup_l, gToTup_t, gToLst_l, gToLst_t, gMax2_i, gMin2_i, gNeg_i, gSl_l, gSl_t, gSl_s, gSlL_l, gRevL_l, gIsN_n, gIsN_b, gIsN_i, gIsN_s, gIsN_l, gIsN_t, gNotN_n, gNotN_b, gNotN_i, gNotN_s, gNotN_l, gNotN_t, truD, gEq_int, gNe_int, Bool.not_true, Bool.not_false])
  refine ⟨l.length, rfl, by omega, by omega, fun r r0 r1 => ?_⟩
  have hr : r.toNat < l.length := by omega
  refine ⟨l[r.toNat], ?_, hk _ (List.getElem_mem hr)⟩
  unfold atD
  rw [if_pos r0]
  exact List.getElem?_eq_getElem hr
theorem cs__law_pick (B : Bl mg) (DD : OwnDef K mg "_law_pick" s__law_pick) (C__law_draw : CalG P w K mg base 1 "_law_draw" (spW (suR K mg c TLb) 2 f__law_draw) [])  : CalG P w K mg base 2 "_law_pick" (spW (suR K mg c TLb) 2 f__law_pick) [] :=
  (pc__law_pick B DD C__law_draw).imp (spW_mono fun ds k e ln h => ok__law_pick ds k e ln h)
theorem atD_i {ns : List Int} {i : Nat} {a : Int} (h : ns[i]? = some a) : atD (ns.map Dt.int) (i : Int) = some (.int a) := by
  unfold atD
  rw [if_pos (by omega), Int.toNat_natCast, List.getElem?_map, h]
  rfl
theorem cut_toI {α : Type} (l : List α) {i : Nat} (h : i ≤ l.length) : cutL l none (some (i : Int)) = l.take i := by
  unfold cutL
  rw [HT.sIx_none, HT.sIx_nat, Nat.min_eq_left h, List.drop_zero, Nat.sub_zero]
def w__law_at : WS := (wRet (wIf (wTst (wBin gLt (wV 1) (wCal gLen (wCons (wBin gIx (wV 0) (wC (.int 1))) wNil)))) (wBin gIx (wBin gIx (wV 0) (wC (.int 1))) (wV 1)) (wBin LW.gAdd (wBin LW.gMul (wV 1) (wBin gIx (wV 0) (wC (.int 0)))) (wBin gIx (wV 0) (wC (.int 2))))))
theorem pb__law_at (B : Bl mg)   : Bdy P w K mg base 0 "_law_at" s__law_at ["_law_own", "_law_at_here"] (suR K mg c TLb) w__law_at := fun f cdv A outer s H E hr quiet =>
      (xsOne (xsRet (xw (xIf (xTCmp op_lt pLt (xw (xV (pv 1))) (xw (xCB (pe_callB call_len (by rfl) B.len (by decide +kernel) (xWCons (xw (xIx ix_seq pIx (xw (xV (pv 0))) (xw (xInt pe_int)) (fun _ _ => rfl))) xWNil)) pLen)) (nomark _)) (xIx ix_seq pIx (xw (xIx ix_seq pIx (xw (xV (pv 0))) (xw (xInt pe_int)) (fun _ _ => rfl))) (xw (xV (pv 1))) (fun _ _ => rfl)) (xBin op_addU pAdd (xw (xBin op_mulU pMul (xw (xV (pv 1))) (xw (xIx ix_seq pIx (xw (xV (pv 0))) (xw (xInt pe_int)) (fun _ _ => rfl))))) (xw (xIx ix_seq pIx (xw (xV (pv 0))) (xw (xInt pe_int)) (fun _ _ => rfl))))))))
theorem pc__law_at (B : Bl mg) (DD : OwnDef K mg "_law_at" s__law_at)   : CalG P w K mg base 1 "_law_at" (spW (suR K mg c TLb) 2 (wFn 2 w__law_at)) [] :=
  calG_by DD sc__law_at rfl (fun fd f F => F.binds (fun _ _ _ _ _ _ us hl => match us, hl with | [_, _], _ => rfl)) (pb__law_at B )
def f__law_at : SpF := fun ds k _ => ∃ b ms s, ∃ n : Nat, ds = [irP b ms s, .int (n : Int)] ∧ b.natAbs < 2 ^ 200 ∧ n < 2 ^ 100 ∧ k (.int (atM b ms s n))
theorem ok__law_at (ds k e) (ln : ds.length = 2) (h : f__law_at ds k e) : wFn 2 w__law_at ds k e := by
  obtain ⟨b, ms, s, n, rfl, hb, hn, hk⟩ := h
  unfold irP
  (simp only [a_wFn, a_wFnF, a_mapS, a_map0, List.replicate, a_appS, a_app0, a_lenS, a_len0, Nat.reduceAdd, Nat.reduceSub, Nat.zero_add]; unfold w__law_at; simp only [a_wFn, a_wSeq, a_wNx, a_wBk, a_wCt, a_wEx, a_wSet, a_wOwn, a_wAsg, a_wPar, a_wRet, a_wRetN, a_wRetF, a_wRetFO, a_wParO, a_wFnF, a_wIfS, a_wApp, a_wExt, a_wFrz, a_wAugI, a_wSetIx, a_wAugIx, a_wFor, a_lookL0, a_lookLS, a_look0, a_lookS, a_lookO0, a_lookO1, a_lookOS, a_wV, a_wO, a_wC, a_wBin, a_wUn, a_wTst, a_wTru, a_wAnd, a_wOr, a_wNot, a_wAndV, a_wOrV, a_wNotV, a_wIf, a_wCh, a_wNil, a_wCons, a_wStar, a_wTup, a_wLst, a_wCal, a_wCall, a_wCall0, a_wCallK, a_wCallB, a_wGot, a_noX, a_wCh3, a_wAugC, gInI_i, a_wCalK, a_wSl, a_wNo, a_wPart, a_wFld, a_wMth, a_wM0, a_wM1, a_wgN, a_wgNil, a_wgCons, a_wgT, a_wLc, a_wYes, a_itK, itK_lst, itK_tup, itK_str, seqD_lst, seqD_tup, a_wRg1, a_wRg2, a_wRg3, a_wEnumU, a_wEnumL, a_wZipU, a_wRevU, a_wComb, wipeD, a_mapS, a_map0, a_lenS, a_len0, List.replicate, a_appS, a_app0, a_set0, a_setS, Nat.reduceAdd, Nat.reduceSub, Nat.zero_add, true_and, and_true, gAdd_i, gAdd_s, gAdd_l, gAdd_t, gCat_l, gSub_i, gMul_i, gMul_l, gMul_t, gFdiv_i, gMod_i, gPow_i, gLt_i, gLe_i, gGt_i, gGe_i, gLen_l, gLen_t, gLen_s, gAbs_i, gToInt_i, gToInt_b, gToBl_i, gToBl_b, gToTup_l, gToTup_t, gToLst_l, gToLst_t, gMax2_i, gMin2_i, gNeg_i, gSl_l, gSl_t, gSl_s, gSlL_l, gRevL_l, gIsN_n, gIsN_b, gIsN_i, gIsN_s, gIsN_l, gIsN_t, gNotN_n, gNotN_b, gNotN_i, gNotN_s, gNotN_l, gNotN_t, truD, gEq_int, gNe_int, Bool.not_true, Bool.not_false])
  refine ⟨_, rfl, ?_⟩
  simp only [a_wFn, a_wSeq, a_wNx, a_wBk, a_wCt, a_wEx, a_wSet, a_wOwn, a_wAsg, a_wPar, a_wRet, a_wRetN, a_wRetF, a_wRetFO, a_wParO, a_wFnF, a_wIfS, a_wApp, a_wExt, a_wFrz, a_wAugI, a_wSetIx, a_wAugIx, a_wFor, a_lookL0, a_lookLS, a_look0, a_lookS, a_lookO0, a_lookO1, a_lookOS, a_wV, a_wO, a_wC, a_wBin, a_wUn, a_wTst, a_wTru, a_wAnd, a_wOr, a_wNot, a_wAndV, a_wOrV, a_wNotV, a_wIf, a_wCh, a_wNil, a_wCons, a_wStar, a_wTup, a_wLst, a_wCal, a_wCall, a_wCall0, a_wCallK, a_wCallB, a_wGot, a_noX, a_wCh3, a_wAugC, gInI_i, a_wCalK, a_wSl, a_wNo, a_wPart, a_wFld, a_wMth, a_wM0, a_wM1, a_wgN, a_wgNil, a_wgCons, a_wgT, a_wLc, a_wYes, a_itK, itK_lst, itK_tup, itK_str, seqD_lst, seqD_tup, a_wRg1, a_wRg2, a_wRg3, a_wEnumU, a_wEnumL, a_wZipU, a_wRevU, a_wComb, wipeD, a_mapS, a_map0, a_lenS, a_len0, List.replicate, a_appS, a_app0, a_set0, a_setS, Nat.reduceAdd, Nat.reduceSub, Nat.zero_add, true_and, and_true, gAdd_i, gAdd_s, gAdd_l, gAdd_t, gCat_l, gSub_i, gMul_i, gMul_l, gMul_t, gFdiv_i, gMod_i, gPow_i, gLt_i, gLe_i, gGt_i, gGe_i, gLen_l, gLen_t, gLen_s, gAbs_i, gToInt_i, gToInt_b, gToBl_i, gToBl_b, gToTup_l, gToTup_t, gToLst_l, gToLst_t, gMax2_i, gMin2_i, gNeg_i, gSl_l, gSl_t, gSl_s, gSlL_l, gRevL_l, gIsN_n, gIsN_b, gIsN_i, gIsN_s, gIsN_l, gIsN_t, gNotN_n, gNotN_b, gNotN_i, gNotN_s, gNotN_l, gNotN_t, truD, gEq_int, gNe_int, Bool.not_true, Bool.not_false]
  rw [List.length_map]
  by_cases h : n < ms.length
  · rw [decide_eq_true (show ((n : Nat) : Int) < ((ms.length : Nat) : Int) by omega)]
    refine ⟨_, rfl, _, atD_i (show ms[n]? = some (ms.getD n 0) by rw [List.getD_eq_getElem?_getD, List.getElem?_eq_getElem h]; rfl), ?_⟩
    have e : atM b ms s n = ms.getD n 0 := by unfold atM; rw [if_pos h]
    rw [← e]
    exact hk
  · rw [decide_eq_false (show ¬ ((n : Nat) : Int) < ((ms.length : Nat) : Int) by omega)]
    refine ⟨_, rfl, ?_⟩
    simp only [a_wFn, a_wSeq, a_wNx, a_wBk, a_wCt, a_wEx, a_wSet, a_wOwn, a_wAsg, a_wPar, a_wRet, a_wRetN, a_wRetF, a_wRetFO, a_wParO, a_wFnF, a_wIfS, a_wApp, a_wExt, a_wFrz, a_wAugI, a_wSetIx, a_wAugIx, a_wFor, a_lookL0, a_lookLS, a_look0, a_lookS, a_lookO0, a_lookO1, a_lookOS, a_wV, a_wO, a_wC, a_wBin, a_wUn, a_wTst, a_wTru, a_wAnd, a_wOr, a_wNot, a_wAndV, a_wOrV, a_wNotV, a_wIf, a_wCh, a_wNil, a_wCons, a_wStar, a_wTup, a_wLst, a_wCal, a_wCall, a_wCall0, a_wCallK, a_wCallB, a_wGot, a_noX, a_wCh3, a_wAugC, gInI_i, a_wCalK, a_wSl, a_wNo, a_wPart, a_wFld, a_wMth, a_wM0, a_wM1, a_wgN, a_wgNil, a_wgCons, a_wgT, a_wLc, a_wYes, a_itK, itK_lst, itK_tup, itK_str, seqD_lst, seqD_tup, a_wRg1, a_wRg2, a_wRg3, a_wEnumU, a_wEnumL, a_wZipU, a_wRevU, a_wComb, wipeD, a_mapS, a_map0, a_lenS, a_len0, List.replicate, a_appS, a_app0, a_set0, a_setS, Nat.reduceAdd, Nat.reduceSub, Nat.zero_add, true_and, and_true, gAdd_i, gAdd_s, gAdd_l, gAdd_t, gCat_l, gSub_i, gMul_i, gMul_l, gMul_t, gFdiv_i, gMod_i, gPow_i, gLt_i, gLe_i, gGt_i, gGe_i, gLen_l, gLen_t, gLen_s, gAbs_i, gToInt_i, gToInt_b, gToBl_i, gToBl_b, gToTup_l, gToTup_t, gToLst_l, gToLst_t, gMax2_i, gMin2_i, gNeg_i, gSl_l, gSl_t, gSl_s, gSlL_l, gRevL_l, gIsN_n, gIsN_b, gIsN_i, gIsN_s, gIsN_l, gIsN_t, gNotN_n, gNotN_b, gNotN_i, gNotN_s, gNotN_l, gNotN_t, truD, gEq_int, gNe_int, Bool.not_true, Bool.not_false]
    refine ⟨wide_mul (a := 100) (b := 200) (by omega) hb (by decide) (by decide) (by decide), _, rfl, ?_⟩
    simp only [a_wFn, a_wSeq, a_wNx, a_wBk, a_wCt, a_wEx, a_wSet, a_wOwn, a_wAsg, a_wPar, a_wRet, a_wRetN, a_wRetF, a_wRetFO, a_wParO, a_wFnF, a_wIfS, a_wApp, a_wExt, a_wFrz, a_wAugI, a_wSetIx, a_wAugIx, a_wFor, a_lookL0, a_lookLS, a_look0, a_lookS, a_lookO0, a_lookO1, a_lookOS, a_wV, a_wO, a_wC, a_wBin, a_wUn, a_wTst, a_wTru, a_wAnd, a_wOr, a_wNot, a_wAndV, a_wOrV, a_wNotV, a_wIf, a_wCh, a_wNil, a_wCons, a_wStar, a_wTup, a_wLst, a_wCal, a_wCall, a_wCall0, a_wCallK, a_wCallB, a_wGot, a_noX, a_wCh3, a_wAugC, gInI_i, a_wCalK, a_wSl, a_wNo, a_wPart, a_wFld, a_wMth, a_wM0, a_wM1, a_wgN, a_wgNil, a_wgCons, a_wgT, a_wLc, a_wYes, a_itK, itK_lst, itK_tup, itK_str, seqD_lst, seqD_tup, a_wRg1, a_wRg2, a_wRg3, a_wEnumU, a_wEnumL, a_wZipU, a_wRevU, a_wComb, wipeD, a_mapS, a_map0, a_lenS, a_len0, List.replicate, a_appS, a_app0, a_set0, a_setS, Nat.reduceAdd, Nat.reduceSub, Nat.zero_add, true_and, and_true, gAdd_i, gAdd_s, gAdd_l, gAdd_t, gCat_l, gSub_i, gMul_i, gMul_l, gMul_t, gFdiv_i, gMod_i, gPow_i, gLt_i, gLe_i, gGt_i, gGe_i, gLen_l, gLen_t, gLen_s, gAbs_i, gToInt_i, gToInt_b, gToBl_i, gToBl_b, gToTup_l, gToTup_t, gToLst_l, gToLst_t, gMax2_i, gMin2_i, gNeg_i, gSl_l, gSl_t, gSl_s, gSlL_l, gRevL_l, gIsN_n, gIsN_b, gIsN_i, gIsN_s, gIsN_l, gIsN_t, gNotN_n, gNotN_b, gNotN_i, gNotN_s, gNotN_l, gNotN_t, truD, gEq_int, gNe_int, Bool.not_true, Bool.not_false]
    have e : atM b ms s n = (n : Int) * b + s := by unfold atM; rw [if_neg h]
    rw [← e]
    exact hk
theorem cs__law_at (B : Bl mg) (DD : OwnDef K mg "_law_at" s__law_at)   : CalG P w K mg base 1 "_law_at" (spW (suR K mg c TLb) 2 f__law_at) [] :=
  (pc__law_at B DD ).imp (spW_mono fun ds k e ln h => ok__law_at ds k e ln h)
def w__law_rule : WS := (wSeq (wSet 2 (wCall0 2 f__law_pick (wCons (wV 0) (wCons (wLst (wCons (wC (.int 0)) (wCons (wC (.int 0)) (wCons (wC (.int 1)) (wCons (wC (.int 1)) (wCons (wC (.int 2)) (wCons (wC (.int 3)) (wCons (wC (.int 5)) (wCons (wC (.int 8)) wNil))))))))) wNil))))
      (wSeq (wSet 3 (wCall0 2 f__law_pick (wCons (wV 0) (wCons (wV 1) wNil))))
      (wSeq (wSet 4 (wCall0 2 f__law_pick (wCons (wV 0) (wCons (wLst (wCons (wC (.int 0)) (wCons (wV 3) (wCons (wBin LW.gFdiv (wV 3) (wC (.int 2))) (wCons (wCall0 2 f__law_draw (wCons (wV 0) (wCons (wBin LW.gAdd (wCal gMin2 (wCons (wV 3) (wCons (wBin LW.gPow (wC (.int 10)) (wC (.int 6))) wNil))) (wC (.int 1))) wNil))) wNil))))) wNil))))
      (wSeq (wAsg (wTup (wCons (wCall0 2 f__law_pick (wCons (wV 0) (wCons (wLst (wCons (wC (.int 1)) (wCons (wC (.int 2)) (wCons (wC (.int 5)) (wCons (wC (.int 1000)) wNil))))) wNil))) (wCons (wCall0 2 f__law_draw (wCons (wV 0) (wCons (wC (.int 4)) wNil))) wNil))) (wgT 2 (wgCons (wgN 5) (wgCons (wgN 6) wgNil))))
      (wSeq (wIfS (wTst (wBin gEq (wV 2) (wC (.int 0)))) (wRet (wTup (wCons (wV 3) (wCons (wLst wNil) (wCons (wV 4) wNil))))) wNx)
      (wSeq (wIfS (wTst (wBin gGt (wV 6) (wC (.int 0)))) (wSeq (wSet 7 (wBin gCat (wLst (wCons (wCall0 2 f__law_draw (wCons (wV 0) (wCons (wBin LW.gAdd (wV 5) (wC (.int 1))) wNil))) wNil)) (wLc [8] (wRg1 (wV 2)) (wgN 8) wYes (wBin LW.gAdd (wC (.int 1)) (wCall0 2 f__law_draw (wCons (wV 0) (wCons (wV 5) wNil)))))))
      (wSeq (wAsg (wTup (wCons (wCal gSum (wCons (wV 7) wNil)) (wCons (wBin LW.gAdd (wBin LW.gMul (wV 2) (wV 3)) (wV 4)) wNil))) (wgT 2 (wgCons (wgN 9) (wgCons (wgN 10) wgNil))))
      (wRet (wTup (wCons (wBin LW.gMul (wV 3) (wV 9)) (wCons (wLc [11] (wRg1 (wV 2)) (wgN 11) wYes (wBin LW.gMul (wV 10) (wCal gSum (wCons (wSl gSl (wV 7) wNo (wPart (wBin LW.gAdd (wV 11) (wC (.int 1))))) wNil)))) (wCons (wBin LW.gMul (wV 4) (wV 9)) wNil))))))) wNx)
      (wSeq (wOwn 12 (wLc [11] (wRg1 (wV 2)) (wgN 11) wYes (wBin LW.gMul (wC (.int 2)) (wBin LW.gAdd (wBin LW.gMul (wV 3) (wV 11)) (wV 4)))))
      (wSeq (wPar 11 13 (wCons (wCall0 2 f__law_draw (wCons (wV 0) (wCons (wV 2) wNil))) (wCons (wCall0 2 f__law_pick (wCons (wV 0) (wCons (wLst (wCons (wC (.int 1)) (wCons (wV 3) (wCons (wBin LW.gSub (wBin LW.gMul (wC (.int 2)) (wV 3)) (wC (.int 1))) wNil)))) wNil))) wNil)))
      (wSeq (wSetIx 12 (wV 11) (wCal gMax2 (wCons (wC (.int 0)) (wCons (wBin LW.gAdd (wBin gIx (wO 12) (wV 11)) (wBin LW.gMul (wV 13) (wCall0 2 f__law_pick (wCons (wV 0) (wCons (wLst (wCons (wC (.int 1)) (wCons (wUn gNeg (wC (.int 1))) wNil))) wNil))))) wNil))))
      (wFrz 12 (wRet (wTup (wCons (wBin LW.gMul (wC (.int 2)) (wV 3)) (wCons (wV 12) (wCons (wBin LW.gMul (wC (.int 2)) (wV 4)) wNil)))))))))))))))
theorem pb__law_rule (B : Bl mg) (C__law_pick : CalG P w K mg base 2 "_law_pick" (spW (suR K mg c TLb) 2 f__law_pick) []) (C__law_draw : CalG P w K mg base 1 "_law_draw" (spW (suR K mg c TLb) 2 f__law_draw) [])  : Bdy P w K mg base 2 "_law_rule" s__law_rule ["_law_pool_here", "_law_bottoms", "_law_size", "_law_bottom", "_law_shift", "_law_wide", "_law_way", "_law_steps", "_law_each", "_law_whole", "_law_top", "_law_at_here", "_law_marks", "_law_step"] (suR K mg c TLb) w__law_rule := fun f cdv A outer s H E hr quiet =>
      (xsCons (xsSet (i := 2) sc__law_rule.nd rfl (Or.inl rfl) (xCall0 (pe_cG quiet C__law_pick hr (by decide) (by rfl) (xACons (xV (pv 0)) (xACons (xf (xLst (xACons (xInt pe_int) (xACons (xInt pe_int) (xACons (xInt pe_int) (xACons (xInt pe_int) (xACons (xInt pe_int) (xACons (xInt pe_int) (xACons (xInt pe_int) (xACons (xInt pe_int) xANil)))))))))) xANil)))))
      (xsCons (xsSet (i := 3) sc__law_rule.nd rfl (Or.inr rfl) (xCall0 (pe_cG quiet C__law_pick hr (by decide) (by rfl) (xACons (xV (pv 0)) (xACons (xV (pv 1)) xANil)))))
      (xsCons (xsSet (i := 4) sc__law_rule.nd rfl (Or.inr rfl) (xCall0 (pe_cG quiet C__law_pick hr (by decide) (by rfl) (xACons (xV (pv 0)) (xACons (xf (xLst (xACons (xInt pe_int) (xACons (xV (pv 3)) (xACons (xBin op_fdivW pFdiv (xw (xV (pv 3))) (xw (xInt pe_int))) (xACons (xCall0 (pe_cG quiet C__law_draw hr (by decide) (by rfl) (xACons (xV (pv 0)) (xACons (xBin op_addU pAdd (xw (xCB (pe_callB (call_min2 rfl) (by rfl) B.min (by decide +kernel) (xWCons (xw (xV (pv 3))) (xWCons (xw (xBin op_pow pPow (xw (xInt pe_int)) (xw (xInt pe_int)))) xWNil))) pMin2)) (xw (xInt pe_int))) xANil)))) xANil)))))) xANil)))))
      (xsCons (xsAsg (xTup (xACons (xCall0 (pe_cG quiet C__law_pick hr (by decide) (by rfl) (xACons (xV (pv 0)) (xACons (xf (xLst (xACons (xInt pe_int) (xACons (xInt pe_int) (xACons (xInt pe_int) (xACons (xInt pe_int) xANil)))))) xANil)))) (xACons (xCall0 (pe_cG quiet C__law_draw hr (by decide) (by rfl) (xACons (xV (pv 0)) (xACons (xInt pe_int) xANil)))) xANil))) (xgT (n := 2) (by rfl) (xgCons (xgN (pg_name (i := 5) sc__law_rule.nd rfl (Or.inr rfl))) (xgCons (xgN (pg_name (i := 6) sc__law_rule.nd rfl (Or.inl rfl))) xgNil))))
      (xsCons (xsIf (xTCmp (op_eqD hr.units) pEq (xw (xV (pv 2))) (xw (xInt pe_int)) (nomark _)) (xsOne (xsRet (xw (xTup (xACons (xV (pv 3)) (xACons (xf (xLst xANil)) (xACons (xV (pv 4)) xANil))))))) xsNil)
      (xsCons (xsIf (xTCmp op_gt pGt (xw (xV (pv 6))) (xw (xInt pe_int)) (nomark _)) (xsCons (xsSet (i := 7) sc__law_rule.nd rfl (Or.inr rfl) (xf (xBinF op_cat fCat (xw (xf (xLst (xACons (xCall0 (pe_cG quiet C__law_draw hr (by decide) (by rfl) (xACons (xV (pv 0)) (xACons (xBin op_addU pAdd (xw (xV (pv 5))) (xw (xInt pe_int))) xANil)))) xANil)))) (xw (xf (xLc (own := [("_law_each", 8)]) (by rfl) sc__law_rule.nd (xic (xRg1 (by rfl) B.range (xV (pv 2)))) (blkOk_by (own := [("_law_each", 8)]) (N := ["_law_pool_here", "_law_bottoms", "_law_size", "_law_bottom", "_law_shift", "_law_wide", "_law_way", "_law_steps", "_law_each", "_law_whole", "_law_top", "_law_at_here", "_law_marks", "_law_step"]) (sc := defScope s__law_rule) (by decide +kernel)) (fun _ _ _ _ _ => (xgN (pg_name (i := 8) sc__law_rule.nd rfl (by first | exact Or.inl rfl | exact Or.inr rfl)))) (fun _ _ _ _ _ => xPts0) (fun _ _ _ _ _ => (xBin op_addU pAdd (xw (xInt pe_int)) (xw (xCall0 (pe_cG quiet C__law_draw hr (by decide) (by rfl) (xACons (xV (pv 0)) (xACons (xV (pv 5)) xANil))))))) (by decide)))))))
      (xsCons (xsAsg (xTup (xACons (xCB (pe_callB (cr_sum rfl) (by rfl) B.sum (by decide +kernel) (xWCons (xw (xV (pv 7))) xWNil)) pSum) (xACons (xBin op_addU pAdd (xw (xBin op_mulU pMul (xw (xV (pv 2))) (xw (xV (pv 3))))) (xw (xV (pv 4)))) xANil))) (xgT (n := 2) (by rfl) (xgCons (xgN (pg_name (i := 9) sc__law_rule.nd rfl (Or.inl rfl))) (xgCons (xgN (pg_name (i := 10) sc__law_rule.nd rfl (Or.inr rfl))) xgNil))))
      (xsOne (xsRet (xw (xTup (xACons (xBin op_mulU pMul (xw (xV (pv 3))) (xw (xV (pv 9)))) (xACons (xf (xLc (own := [("_law_at_here", 11)]) (by rfl) sc__law_rule.nd (xic (xRg1 (by rfl) B.range (xV (pv 2)))) (blkOk_by (own := [("_law_at_here", 11)]) (N := ["_law_pool_here", "_law_bottoms", "_law_size", "_law_bottom", "_law_shift", "_law_wide", "_law_way", "_law_steps", "_law_each", "_law_whole", "_law_top", "_law_at_here", "_law_marks", "_law_step"]) (sc := defScope s__law_rule) (by decide +kernel)) (fun _ _ _ _ _ => (xgN (pg_name (i := 11) sc__law_rule.nd rfl (by first | exact Or.inl rfl | exact Or.inr rfl)))) (fun _ _ _ _ _ => xPts0) (fun _ _ _ _ _ => (xBin op_mulU pMul (xw (xV (pv 10))) (xw (xCB (pe_callB (cr_sum rfl) (by rfl) B.sum (by decide +kernel) (xWCons (xw (xSl (xw (xV (pv 7))) xNo (xPart (xBin op_addU pAdd (xw (xV (pv 11))) (xw (xInt pe_int)))))) xWNil)) pSum)))) (by decide))) (xACons (xBin op_mulU pMul (xw (xV (pv 4))) (xw (xV (pv 9)))) xANil))))))))) xsNil)
      (xsCons (xsLcOwn (i := 12) (ps_setLc (own := [("_law_at_here", 11)]) (by rfl) sc__law_rule.nd rfl rfl (sw_true rfl rfl rfl (by decide +kernel)) (xic (xRg1 (by rfl) B.range (xV (pv 2)))) (blkOk_by (own := [("_law_at_here", 11)]) (N := ["_law_pool_here", "_law_bottoms", "_law_size", "_law_bottom", "_law_shift", "_law_wide", "_law_way", "_law_steps", "_law_each", "_law_whole", "_law_top", "_law_at_here", "_law_marks", "_law_step"]) (sc := defScope s__law_rule) (by decide +kernel)) (fun _ _ _ _ _ => (xgN (pg_name (i := 11) sc__law_rule.nd rfl (by first | exact Or.inl rfl | exact Or.inr rfl)))) (fun _ _ _ _ _ => xPts0) (fun _ _ _ _ _ => (xBin op_mulU pMul (xw (xInt pe_int)) (xw (xBin op_addU pAdd (xw (xBin op_mulU pMul (xw (xV (pv 3))) (xw (xV (pv 11))))) (xw (xV (pv 4)))))))) (by decide))
      (xsCons (xsPar (i := 11) (j := 13) (by rfl) sc__law_rule.nd rfl rfl (by decide) rfl rfl (xACons (xCall0 (pe_cG quiet C__law_draw hr (by decide) (by rfl) (xACons (xV (pv 0)) (xACons (xV (pv 2)) xANil)))) (xACons (xCall0 (pe_cG quiet C__law_pick hr (by decide) (by rfl) (xACons (xV (pv 0)) (xACons (xf (xLst (xACons (xInt pe_int) (xACons (xV (pv 3)) (xACons (xBin op_sub pSub (xw (xBin op_mulU pMul (xw (xInt pe_int)) (xw (xV (pv 3))))) (xw (xInt pe_int))) xANil))))) xANil)))) xANil)) (by rfl))
      (xsCons (xsSetIx (xCB (pe_callB (call_max2 rfl) (by rfl) B.max (by decide +kernel) (xWCons (xw (xInt pe_int)) (xWCons (xw (xBin op_addU pAdd (xw (xIx ix_seq pIx (xO (pv 12)) (xw (xV (pv 11))) (fun _ _ => rfl))) (xw (xBin op_mulU pMul (xw (xV (pv 13))) (xw (xCall0 (pe_cG quiet C__law_pick hr (by decide) (by rfl) (xACons (xV (pv 0)) (xACons (xf (xLst (xACons (xInt pe_int) (xACons (xNeg (xw (xInt pe_int))) xANil)))) xANil))))))))) xWNil))) pMax2) (pg_sub (pv 12) (xV (pv 11)) set_list))
      (xsFrz (i := 12) (xsOne (xsRet (xw (xTup (xACons (xBin op_mulU pMul (xw (xInt pe_int)) (xw (xV (pv 3)))) (xACons (xV (pv 12)) (xACons (xBin op_mulU pMul (xw (xInt pe_int)) (xw (xV (pv 4)))) xANil)))))))))))))))))
theorem pc__law_rule (B : Bl mg) (DD : OwnDef K mg "_law_rule" s__law_rule) (C__law_pick : CalG P w K mg base 2 "_law_pick" (spW (suR K mg c TLb) 2 f__law_pick) []) (C__law_draw : CalG P w K mg base 1 "_law_draw" (spW (suR K mg c TLb) 2 f__law_draw) [])  : CalG P w K mg base 3 "_law_rule" (spW (suR K mg c TLb) 2 (wFn 14 w__law_rule)) [] :=
  calG_by DD sc__law_rule rfl (fun fd f F => F.binds (fun _ _ _ _ _ _ us hl => match us, hl with | [_, _], _ => rfl)) (pb__law_rule B C__law_pick C__law_draw)
def f__law_rule : SpF := fun ds k _ => ∃ bs : List Int, ds = [.tnk 0, .lst (bs.map Dt.int)] ∧ 0 < bs.length ∧ bs.length < 1000 ∧ (∀ b ∈ bs, 0 < b ∧ b < 10 ^ 13) ∧ ∀ b ms s, IR b ms s → b < 10 ^ 20 → k (irP b ms s)
theorem ok__law_rule (ds k e) (ln : ds.length = 2) (h : f__law_rule ds k e) : wFn 14 w__law_rule ds k e := by
  obtain ⟨bs, rfl, l0, l1, hb, hk⟩ := h
  (simp only [a_wFn, a_wFnF, a_mapS, a_map0, List.replicate, a_appS, a_app0, a_lenS, a_len0, Nat.reduceAdd, Nat.reduceSub, Nat.zero_add]; unfold w__law_rule; simp only [a_wFn, a_wSeq, a_wNx, a_wBk, a_wCt, a_wEx, a_wSet, a_wOwn, a_wAsg, a_wPar, a_wRet, a_wRetN, a_wRetF, a_wRetFO, a_wParO, a_wFnF, a_wIfS, a_wApp, a_wExt, a_wFrz, a_wAugI, a_wSetIx, a_wAugIx, a_wFor, a_lookL0, a_lookLS, a_look0, a_lookS, a_lookO0, a_lookO1, a_lookOS, a_wV, a_wO, a_wC, a_wBin, a_wUn, a_wTst, a_wTru, a_wAnd, a_wOr, a_wNot, a_wAndV, a_wOrV, a_wNotV, a_wIf, a_wCh, a_wNil, a_wCons, a_wStar, a_wTup, a_wLst, a_wCal, a_wCall, a_wCall0, a_wCallK, a_wCallB, a_wGot, a_noX, a_wCh3, a_wAugC, gInI_i, a_wCalK, a_wSl, a_wNo, a_wPart, a_wFld, a_wMth, a_wM0, a_wM1, a_wgN, a_wgNil, a_wgCons, a_wgT, a_wLc, a_wYes, a_itK, itK_lst, itK_tup, itK_str, seqD_lst, seqD_tup, a_wRg1, a_wRg2, a_wRg3, a_wEnumU, a_wEnumL, a_wZipU, a_wRevU, a_wComb, wipeD, a_mapS, a_map0, a_lenS, a_len0, List.replicate, a_appS, a_app0, a_set0, a_setS, Nat.reduceAdd, Nat.reduceSub, Nat.zero_add, true_and, and_true, gAdd_i, gAdd_s, gAdd_l, gAdd_t, gCat_l, gSub_i, gMul_i, gMul_l, gMul_t, gFdiv_i, gMod_i, gPow_i, gLt_i, gLe_i, gGt_i, gGe_i, gLen_l, gLen_t, gLen_s, gAbs_i, gToInt_i, gToInt_b, gToBl_i, gToBl_b, gToTup_l, gToTup_t, gToLst_l, gToLst_t, gMax2_i, gMin2_i, gNeg_i, gSl_l, gSl_t, gSl_s, gSlL_l, gRevL_l, gIsN_n, gIsN_b, gIsN_i, gIsN_s, gIsN_l, gIsN_t, gNotN_n, gNotN_b, gNotN_i, gNotN_s, gNotN_l, gNotN_t, truD, gEq_int, gNe_int, Bool.not_true, Bool.not_false])
  refine ⟨by decide, _, rfl, by decide, by decide, fun d1 h1 => ?_⟩
  obtain ⟨sz, hsz, rfl⟩ := mem_ints (l := [0, 0, 1, 1, 2, 3, 5, 8]) h1
  have sz8 : 0 ≤ sz ∧ sz ≤ 8 := by
    simp only [List.mem_cons, List.not_mem_nil, or_false] at hsz
    omega
  obtain ⟨sz, rfl⟩ := Int.eq_ofNat_of_zero_le sz8.1
  refine ⟨_, rfl, by rw [List.length_map]; exact l0, by rw [List.length_map]; exact l1, fun d2 h2 => ?_⟩
  obtain ⟨bt, hbt, rfl⟩ := List.mem_map.mp h2
  obtain ⟨b0, b1⟩ := hb bt hbt
  have t13 : (10 : Int) ^ 13 = 10000000000000 := by decide
  have t6 : (10 : Int) ^ Int.toNat 6 = 1000000 := by decide
  have b1' := b1
  rw [t13] at b1'
  simp only [a_wFn, a_wSeq, a_wNx, a_wBk, a_wCt, a_wEx, a_wSet, a_wOwn, a_wAsg, a_wPar, a_wRet, a_wRetN, a_wRetF, a_wRetFO, a_wParO, a_wFnF, a_wIfS, a_wApp, a_wExt, a_wFrz, a_wAugI, a_wSetIx, a_wAugIx, a_wFor, a_lookL0, a_lookLS, a_look0, a_lookS, a_lookO0, a_lookO1, a_lookOS, a_wV, a_wO, a_wC, a_wBin, a_wUn, a_wTst, a_wTru, a_wAnd, a_wOr, a_wNot, a_wAndV, a_wOrV, a_wNotV, a_wIf, a_wCh, a_wNil, a_wCons, a_wStar, a_wTup, a_wLst, a_wCal, a_wCall, a_wCall0, a_wCallK, a_wCallB, a_wGot, a_noX, a_wCh3, a_wAugC, gInI_i, a_wCalK, a_wSl, a_wNo, a_wPart, a_wFld, a_wMth, a_wM0, a_wM1, a_wgN, a_wgNil, a_wgCons, a_wgT, a_wLc, a_wYes, a_itK, itK_lst, itK_tup, itK_str, seqD_lst, seqD_tup, a_wRg1, a_wRg2, a_wRg3, a_wEnumU, a_wEnumL, a_wZipU, a_wRevU, a_wComb, wipeD, a_mapS, a_map0, a_lenS, a_len0, List.replicate, a_appS, a_app0, a_set0, a_setS, Nat.reduceAdd, Nat.reduceSub, Nat.zero_add, true_and, and_true, gAdd_i, gAdd_s, gAdd_l, gAdd_t, gCat_l, gSub_i, gMul_i, gMul_l, gMul_t, gFdiv_i, gMod_i, gPow_i, gLt_i, gLe_i, gGt_i, gGe_i, gLen_l, gLen_t, gLen_s, gAbs_i, gToInt_i, gToInt_b, gToBl_i, gToBl_b, gToTup_l, gToTup_t, gToLst_l, gToLst_t, gMax2_i, gMin2_i, gNeg_i, gSl_l, gSl_t, gSl_s, gSlL_l, gRevL_l, gIsN_n, gIsN_b, gIsN_i, gIsN_s, gIsN_l, gIsN_t, gNotN_n, gNotN_b, gNotN_i, gNotN_s, gNotN_l, gNotN_t, truD, gEq_int, gNe_int, Bool.not_true, Bool.not_false]
  refine ⟨wide_div (b := 60) (by omega) (by omega) (by decide) (by decide), ⟨by decide, by decide, by decide⟩, ?_⟩
  rw [t6]
  obtain ⟨Mm, eM, M0, M1, M2⟩ : ∃ Mm : Int, (if 1000000 < bt then 1000000 else bt) = Mm ∧ 0 < Mm ∧ Mm ≤ bt ∧ Mm ≤ 1000000 := ⟨_, rfl, by split <;> omega, by split <;> omega, by split <;> omega⟩
  rw [eM]
  refine ⟨Mm + 1, rfl, by omega, by omega, fun r r0 r1 => ?_⟩
  refine ⟨by decide, _, rfl, (show 0 < 4 by decide), (show 4 < 1000 by decide), fun d3 h3 => ?_⟩
  obtain ⟨sh, hsh, rfl⟩ := mem_ints (l := [0, bt, bt / 2, r]) h3
  obtain ⟨s0, s1⟩ : 0 ≤ sh ∧ sh ≤ bt := by
    simp only [List.mem_cons, List.not_mem_nil, or_false] at hsh
    omega
  refine ⟨by decide, _, rfl, (show 0 < 4 by decide), (show 4 < 1000 by decide), fun d4 h4 => ?_⟩
  obtain ⟨wd, hwd, rfl⟩ := mem_ints (l := [1, 2, 5, 1000]) h4
  obtain ⟨wd0, wd1⟩ : 1 ≤ wd ∧ wd ≤ 1000 := by
    simp only [List.mem_cons, List.not_mem_nil, or_false] at hwd
    omega
  refine ⟨4, rfl, by decide, by decide, fun wy w0 w1 => ⟨by decide, ?_⟩⟩
  have t20 : (10 : Int) ^ 20 = 100000000000000000000 := by decide
  have t25 : (10 : Int) ^ 25 = 10000000000000000000000000 := by decide
  by_cases z : ((sz : Nat) : Int) = 0
  · rw [decide_eq_true z]
    exact ⟨by decide, by decide, hk bt [] sh (IR.bare b0 (by rw [t25]; omega) s0 s1) (by rw [t20]; omega)⟩
  rw [decide_eq_false z]
  have sz0 : 0 < sz := by omega
  simp only [a_wFn, a_wSeq, a_wNx, a_wBk, a_wCt, a_wEx, a_wSet, a_wOwn, a_wAsg, a_wPar, a_wRet, a_wRetN, a_wRetF, a_wRetFO, a_wParO, a_wFnF, a_wIfS, a_wApp, a_wExt, a_wFrz, a_wAugI, a_wSetIx, a_wAugIx, a_wFor, a_lookL0, a_lookLS, a_look0, a_lookS, a_lookO0, a_lookO1, a_lookOS, a_wV, a_wO, a_wC, a_wBin, a_wUn, a_wTst, a_wTru, a_wAnd, a_wOr, a_wNot, a_wAndV, a_wOrV, a_wNotV, a_wIf, a_wCh, a_wNil, a_wCons, a_wStar, a_wTup, a_wLst, a_wCal, a_wCall, a_wCall0, a_wCallK, a_wCallB, a_wGot, a_noX, a_wCh3, a_wAugC, gInI_i, a_wCalK, a_wSl, a_wNo, a_wPart, a_wFld, a_wMth, a_wM0, a_wM1, a_wgN, a_wgNil, a_wgCons, a_wgT, a_wLc, a_wYes, a_itK, itK_lst, itK_tup, itK_str, seqD_lst, seqD_tup, a_wRg1, a_wRg2, a_wRg3, a_wEnumU, a_wEnumL, a_wZipU, a_wRevU, a_wComb, wipeD, a_mapS, a_map0, a_lenS, a_len0, List.replicate, a_appS, a_app0, a_set0, a_setS, Nat.reduceAdd, Nat.reduceSub, Nat.zero_add, true_and, and_true, gAdd_i, gAdd_s, gAdd_l, gAdd_t, gCat_l, gSub_i, gMul_i, gMul_l, gMul_t, gFdiv_i, gMod_i, gPow_i, gLt_i, gLe_i, gGt_i, gGe_i, gLen_l, gLen_t, gLen_s, gAbs_i, gToInt_i, gToInt_b, gToBl_i, gToBl_b, gToTup_l, gToTup_t, gToLst_l, gToLst_t, gMax2_i, gMin2_i, gNeg_i, gSl_l, gSl_t, gSl_s, gSlL_l, gRevL_l, gIsN_n, gIsN_b, gIsN_i, gIsN_s, gIsN_l, gIsN_t, gNotN_n, gNotN_b, gNotN_i, gNotN_s, gNotN_l, gNotN_t, truD, gEq_int, gNe_int, Bool.not_true, Bool.not_false]
  by_cases wp : 0 < wy
  · rw [decide_eq_true wp]
    simp only [a_wFn, a_wSeq, a_wNx, a_wBk, a_wCt, a_wEx, a_wSet, a_wOwn, a_wAsg, a_wPar, a_wRet, a_wRetN, a_wRetF, a_wRetFO, a_wParO, a_wFnF, a_wIfS, a_wApp, a_wExt, a_wFrz, a_wAugI, a_wSetIx, a_wAugIx, a_wFor, a_lookL0, a_lookLS, a_look0, a_lookS, a_lookO0, a_lookO1, a_lookOS, a_wV, a_wO, a_wC, a_wBin, a_wUn, a_wTst, a_wTru, a_wAnd, a_wOr, a_wNot, a_wAndV, a_wOrV, a_wNotV, a_wIf, a_wCh, a_wNil, a_wCons, a_wStar, a_wTup, a_wLst, a_wCal, a_wCall, a_wCall0, a_wCallK, a_wCallB, a_wGot, a_noX, a_wCh3, a_wAugC, gInI_i, a_wCalK, a_wSl, a_wNo, a_wPart, a_wFld, a_wMth, a_wM0, a_wM1, a_wgN, a_wgNil, a_wgCons, a_wgT, a_wLc, a_wYes, a_itK, itK_lst, itK_tup, itK_str, seqD_lst, seqD_tup, a_wRg1, a_wRg2, a_wRg3, a_wEnumU, a_wEnumL, a_wZipU, a_wRevU, a_wComb, wipeD, a_mapS, a_map0, a_lenS, a_len0, List.replicate, a_appS, a_app0, a_set0, a_setS, Nat.reduceAdd, Nat.reduceSub, Nat.zero_add, true_and, and_true, gAdd_i, gAdd_s, gAdd_l, gAdd_t, gCat_l, gSub_i, gMul_i, gMul_l, gMul_t, gFdiv_i, gMod_i, gPow_i, gLt_i, gLe_i, gGt_i, gGe_i, gLen_l, gLen_t, gLen_s, gAbs_i, gToInt_i, gToInt_b, gToBl_i, gToBl_b, gToTup_l, gToTup_t, gToLst_l, gToLst_t, gMax2_i, gMin2_i, gNeg_i, gSl_l, gSl_t, gSl_s, gSlL_l, gRevL_l, gIsN_n, gIsN_b, gIsN_i, gIsN_s, gIsN_l, gIsN_t, gNotN_n, gNotN_b, gNotN_i, gNotN_s, gNotN_l, gNotN_t, truD, gEq_int, gNe_int, Bool.not_true, Bool.not_false]
    refine ⟨wd + 1, rfl, by omega, by omega, fun d0 d00 d01 => ?_⟩
    refine ⟨by decide, by omega, by omega, by rw [rgI_len]; omega, ?_⟩
    refine lcL_rel (fun _ _ y => ∃ z : Int, y = .int z ∧ 1 ≤ z ∧ z ≤ 1000) (fun i d K hd hK => ⟨wd, rfl, by omega, by omega, fun r r0 r1 => ?_⟩) fun out ol hr => ?_
    · simp only [a_wFn, a_wSeq, a_wNx, a_wBk, a_wCt, a_wEx, a_wSet, a_wOwn, a_wAsg, a_wPar, a_wRet, a_wRetN, a_wRetF, a_wRetFO, a_wParO, a_wFnF, a_wIfS, a_wApp, a_wExt, a_wFrz, a_wAugI, a_wSetIx, a_wAugIx, a_wFor, a_lookL0, a_lookLS, a_look0, a_lookS, a_lookO0, a_lookO1, a_lookOS, a_wV, a_wO, a_wC, a_wBin, a_wUn, a_wTst, a_wTru, a_wAnd, a_wOr, a_wNot, a_wAndV, a_wOrV, a_wNotV, a_wIf, a_wCh, a_wNil, a_wCons, a_wStar, a_wTup, a_wLst, a_wCal, a_wCall, a_wCall0, a_wCallK, a_wCallB, a_wGot, a_noX, a_wCh3, a_wAugC, gInI_i, a_wCalK, a_wSl, a_wNo, a_wPart, a_wFld, a_wMth, a_wM0, a_wM1, a_wgN, a_wgNil, a_wgCons, a_wgT, a_wLc, a_wYes, a_itK, itK_lst, itK_tup, itK_str, seqD_lst, seqD_tup, a_wRg1, a_wRg2, a_wRg3, a_wEnumU, a_wEnumL, a_wZipU, a_wRevU, a_wComb, wipeD, a_mapS, a_map0, a_lenS, a_len0, List.replicate, a_appS, a_app0, a_set0, a_setS, Nat.reduceAdd, Nat.reduceSub, Nat.zero_add, true_and, and_true, gAdd_i, gAdd_s, gAdd_l, gAdd_t, gCat_l, gSub_i, gMul_i, gMul_l, gMul_t, gFdiv_i, gMod_i, gPow_i, gLt_i, gLe_i, gGt_i, gGe_i, gLen_l, gLen_t, gLen_s, gAbs_i, gToInt_i, gToInt_b, gToBl_i, gToBl_b, gToTup_l, gToTup_t, gToLst_l, gToLst_t, gMax2_i, gMin2_i, gNeg_i, gSl_l, gSl_t, gSl_s, gSlL_l, gRevL_l, gIsN_n, gIsN_b, gIsN_i, gIsN_s, gIsN_l, gIsN_t, gNotN_n, gNotN_b, gNotN_i, gNotN_s, gNotN_l, gNotN_t, truD, gEq_int, gNe_int, Bool.not_true, Bool.not_false]
      exact hK _ ⟨_, rfl, by omega, by omega⟩
    rw [rgI_len, Int.toNat_natCast] at ol
    obtain ⟨dl, rfl, dll, hdl⟩ := map_of Dt.int fun y hy => (rel_mem (R := fun _ y => ∃ z : Int, y = .int z ∧ 1 ≤ z ∧ z ≤ 1000) (by rw [ol, rgI_len, Int.toNat_natCast]) hr y hy).elim fun _ h => h.2
    have dl' : dl.length = sz := by rw [dll, ol]
    have d0b : 0 ≤ d0 ∧ d0 ≤ 1000 := ⟨d00, by omega⟩
    obtain ⟨IRr, bw⟩ := IR.sums (bt := bt) (sh := sh) (d0 := d0) (ds := dl) b0 b1 s0 s1 (by omega) (by omega) d0b hdl
    obtain ⟨x1, x2⟩ := sum_between (T := d0 :: dl) (lo := 0) (hi := 1000) (fun d hd => by
      rcases List.mem_cons.mp hd with z | z
      · rw [z]; exact d0b
      · have := hdl d z; omega)
    have tl : ((d0 :: dl).length : Int) = (sz : Int) + 1 := by rw [List.length_cons, dl']; omega
    rw [tl] at x1 x2
    have szt : (sz : Int) * bt ≤ 8 * bt := Int.mul_le_mul_of_nonneg_right (by omega) (by omega)
    have szp : 0 ≤ (sz : Int) * bt := Int.mul_nonneg (by omega) (by omega)
    refine ⟨by rw [List.length_map, sizeLine_eq]; omega, ?_⟩
    rw [← List.map_cons (f := Dt.int)]
    refine ⟨d0 :: dl, intsOf_map _, ?_⟩
    simp only [a_wFn, a_wSeq, a_wNx, a_wBk, a_wCt, a_wEx, a_wSet, a_wOwn, a_wAsg, a_wPar, a_wRet, a_wRetN, a_wRetF, a_wRetFO, a_wParO, a_wFnF, a_wIfS, a_wApp, a_wExt, a_wFrz, a_wAugI, a_wSetIx, a_wAugIx, a_wFor, a_lookL0, a_lookLS, a_look0, a_lookS, a_lookO0, a_lookO1, a_lookOS, a_wV, a_wO, a_wC, a_wBin, a_wUn, a_wTst, a_wTru, a_wAnd, a_wOr, a_wNot, a_wAndV, a_wOrV, a_wNotV, a_wIf, a_wCh, a_wNil, a_wCons, a_wStar, a_wTup, a_wLst, a_wCal, a_wCall, a_wCall0, a_wCallK, a_wCallB, a_wGot, a_noX, a_wCh3, a_wAugC, gInI_i, a_wCalK, a_wSl, a_wNo, a_wPart, a_wFld, a_wMth, a_wM0, a_wM1, a_wgN, a_wgNil, a_wgCons, a_wgT, a_wLc, a_wYes, a_itK, itK_lst, itK_tup, itK_str, seqD_lst, seqD_tup, a_wRg1, a_wRg2, a_wRg3, a_wEnumU, a_wEnumL, a_wZipU, a_wRevU, a_wComb, wipeD, a_mapS, a_map0, a_lenS, a_len0, List.replicate, a_appS, a_app0, a_set0, a_setS, Nat.reduceAdd, Nat.reduceSub, Nat.zero_add, true_and, and_true, gAdd_i, gAdd_s, gAdd_l, gAdd_t, gCat_l, gSub_i, gMul_i, gMul_l, gMul_t, gFdiv_i, gMod_i, gPow_i, gLt_i, gLe_i, gGt_i, gGe_i, gLen_l, gLen_t, gLen_s, gAbs_i, gToInt_i, gToInt_b, gToBl_i, gToBl_b, gToTup_l, gToTup_t, gToLst_l, gToLst_t, gMax2_i, gMin2_i, gNeg_i, gSl_l, gSl_t, gSl_s, gSlL_l, gRevL_l, gIsN_n, gIsN_b, gIsN_i, gIsN_s, gIsN_l, gIsN_t, gNotN_n, gNotN_b, gNotN_i, gNotN_s, gNotN_l, gNotN_t, truD, gEq_int, gNe_int, Bool.not_true, Bool.not_false]
    refine ⟨wide_mul (a := 10) (b := 50) (by omega) (by omega) (by decide) (by decide) (by decide), by decide, ?_⟩
    refine ⟨wide_mul (a := 50) (b := 20) (by omega) (by omega) (by decide) (by decide) (by decide), by omega, by omega, by rw [rgI_len]; omega, ?_⟩
    refine lcL_map (fun d => match d with | .int i => .int (((sz : Int) * bt + sh) * ((d0 :: dl).take (i.toNat + 1)).sum) | _ => .non) (fun d K hd hK => ?_) ?_
    · obtain ⟨i, hi⟩ := List.getElem?_of_mem hd
      obtain ⟨li, rfl⟩ := rgI_at hi
      have e1 : 0 + ((i : Nat) : Int) + 1 = ((i + 1 : Nat) : Int) := by omega
      simp only [a_wFn, a_wSeq, a_wNx, a_wBk, a_wCt, a_wEx, a_wSet, a_wOwn, a_wAsg, a_wPar, a_wRet, a_wRetN, a_wRetF, a_wRetFO, a_wParO, a_wFnF, a_wIfS, a_wApp, a_wExt, a_wFrz, a_wAugI, a_wSetIx, a_wAugIx, a_wFor, a_lookL0, a_lookLS, a_look0, a_lookS, a_lookO0, a_lookO1, a_lookOS, a_wV, a_wO, a_wC, a_wBin, a_wUn, a_wTst, a_wTru, a_wAnd, a_wOr, a_wNot, a_wAndV, a_wOrV, a_wNotV, a_wIf, a_wCh, a_wNil, a_wCons, a_wStar, a_wTup, a_wLst, a_wCal, a_wCall, a_wCall0, a_wCallK, a_wCallB, a_wGot, a_noX, a_wCh3, a_wAugC, gInI_i, a_wCalK, a_wSl, a_wNo, a_wPart, a_wFld, a_wMth, a_wM0, a_wM1, a_wgN, a_wgNil, a_wgCons, a_wgT, a_wLc, a_wYes, a_itK, itK_lst, itK_tup, itK_str, seqD_lst, seqD_tup, a_wRg1, a_wRg2, a_wRg3, a_wEnumU, a_wEnumL, a_wZipU, a_wRevU, a_wComb, wipeD, a_mapS, a_map0, a_lenS, a_len0, List.replicate, a_appS, a_app0, a_set0, a_setS, Nat.reduceAdd, Nat.reduceSub, Nat.zero_add, true_and, and_true, gAdd_i, gAdd_s, gAdd_l, gAdd_t, gCat_l, gSub_i, gMul_i, gMul_l, gMul_t, gFdiv_i, gMod_i, gPow_i, gLt_i, gLe_i, gGt_i, gGe_i, gLen_l, gLen_t, gLen_s, gAbs_i, gToInt_i, gToInt_b, gToBl_i, gToBl_b, gToTup_l, gToTup_t, gToLst_l, gToLst_t, gMax2_i, gMin2_i, gNeg_i, gSl_l, gSl_t, gSl_s, gSlL_l, gRevL_l, gIsN_n, gIsN_b, gIsN_i, gIsN_s, gIsN_l, gIsN_t, gNotN_n, gNotN_b, gNotN_i, gNotN_s, gNotN_l, gNotN_t, truD, gEq_int, gNe_int, Bool.not_true, Bool.not_false]
      rw [e1, ← List.map_cons (f := Dt.int), cut_toI _ (by rw [List.length_map, List.length_cons]; omega), ← List.map_take]
      refine ⟨_, intsOf_map _, ?_⟩
      have pb := sum_between (T := (d0 :: dl).take (i + 1)) (lo := 0) (hi := 1000) (fun d hd => by
        rcases List.mem_cons.mp (List.mem_of_mem_take hd) with z | z
        · rw [z]; exact d0b
        · have := hdl d z; omega)
      have pl : ((d0 :: dl).take (i + 1)).length ≤ 9 := by rw [List.length_take, List.length_cons]; omega
      simp only [a_wFn, a_wSeq, a_wNx, a_wBk, a_wCt, a_wEx, a_wSet, a_wOwn, a_wAsg, a_wPar, a_wRet, a_wRetN, a_wRetF, a_wRetFO, a_wParO, a_wFnF, a_wIfS, a_wApp, a_wExt, a_wFrz, a_wAugI, a_wSetIx, a_wAugIx, a_wFor, a_lookL0, a_lookLS, a_look0, a_lookS, a_lookO0, a_lookO1, a_lookOS, a_wV, a_wO, a_wC, a_wBin, a_wUn, a_wTst, a_wTru, a_wAnd, a_wOr, a_wNot, a_wAndV, a_wOrV, a_wNotV, a_wIf, a_wCh, a_wNil, a_wCons, a_wStar, a_wTup, a_wLst, a_wCal, a_wCall, a_wCall0, a_wCallK, a_wCallB, a_wGot, a_noX, a_wCh3, a_wAugC, gInI_i, a_wCalK, a_wSl, a_wNo, a_wPart, a_wFld, a_wMth, a_wM0, a_wM1, a_wgN, a_wgNil, a_wgCons, a_wgT, a_wLc, a_wYes, a_itK, itK_lst, itK_tup, itK_str, seqD_lst, seqD_tup, a_wRg1, a_wRg2, a_wRg3, a_wEnumU, a_wEnumL, a_wZipU, a_wRevU, a_wComb, wipeD, a_mapS, a_map0, a_lenS, a_len0, List.replicate, a_appS, a_app0, a_set0, a_setS, Nat.reduceAdd, Nat.reduceSub, Nat.zero_add, true_and, and_true, gAdd_i, gAdd_s, gAdd_l, gAdd_t, gCat_l, gSub_i, gMul_i, gMul_l, gMul_t, gFdiv_i, gMod_i, gPow_i, gLt_i, gLe_i, gGt_i, gGe_i, gLen_l, gLen_t, gLen_s, gAbs_i, gToInt_i, gToInt_b, gToBl_i, gToBl_b, gToTup_l, gToTup_t, gToLst_l, gToLst_t, gMax2_i, gMin2_i, gNeg_i, gSl_l, gSl_t, gSl_s, gSlL_l, gRevL_l, gIsN_n, gIsN_b, gIsN_i, gIsN_s, gIsN_l, gIsN_t, gNotN_n, gNotN_b, gNotN_i, gNotN_s, gNotN_l, gNotN_t, truD, gEq_int, gNe_int, Bool.not_true, Bool.not_false]
      refine ⟨wide_mul (a := 60) (b := 20) (by omega) (by omega) (by decide) (by decide) (by decide), ?_⟩
      have e2 : (0 + ((i : Nat) : Int)).toNat = i := by omega
      dsimp only at hK
      rw [e2] at hK
      exact hK
    refine ⟨wide_mul (a := 50) (b := 20) (by omega) (by omega) (by decide) (by decide) (by decide), by decide, ?_⟩
    have e3 : (rgI 0 ((sz : Int)).toNat).map (fun d => match d with | .int i => Dt.int (((sz : Int) * bt + sh) * ((d0 :: dl).take (i.toNat + 1)).sum) | _ => .non) = ((List.range dl.length).map fun i => ((dl.length : Int) * bt + sh) * ((d0 :: dl).take (i + 1)).sum).map Dt.int := by
      unfold rgI
      rw [List.map_map, List.map_map, Int.toNat_natCast, dl']
      refine List.map_congr_left
            fun i _ => ?_
      show Dt.int (((sz : Int) * bt + sh) * ((d0 :: dl).take ((0 + ((i : Nat) : Int)).toNat + 1)).sum) = _
      rw [show (0 + ((i : Nat) : Int)).toNat = i by omega]
      rfl
    rw [e3]
    exact hk _ _ _ IRr bw
  · rw [decide_eq_false wp]
    simp only [a_wFn, a_wSeq, a_wNx, a_wBk, a_wCt, a_wEx, a_wSet, a_wOwn, a_wAsg, a_wPar, a_wRet, a_wRetN, a_wRetF, a_wRetFO, a_wParO, a_wFnF, a_wIfS, a_wApp, a_wExt, a_wFrz, a_wAugI, a_wSetIx, a_wAugIx, a_wFor, a_lookL0, a_lookLS, a_look0, a_lookS, a_lookO0, a_lookO1, a_lookOS, a_wV, a_wO, a_wC, a_wBin, a_wUn, a_wTst, a_wTru, a_wAnd, a_wOr, a_wNot, a_wAndV, a_wOrV, a_wNotV, a_wIf, a_wCh, a_wNil, a_wCons, a_wStar, a_wTup, a_wLst, a_wCal, a_wCall, a_wCall0, a_wCallK, a_wCallB, a_wGot, a_noX, a_wCh3, a_wAugC, gInI_i, a_wCalK, a_wSl, a_wNo, a_wPart, a_wFld, a_wMth, a_wM0, a_wM1, a_wgN, a_wgNil, a_wgCons, a_wgT, a_wLc, a_wYes, a_itK, itK_lst, itK_tup, itK_str, seqD_lst, seqD_tup, a_wRg1, a_wRg2, a_wRg3, a_wEnumU, a_wEnumL, a_wZipU, a_wRevU, a_wComb, wipeD, a_mapS, a_map0, a_lenS, a_len0, List.replicate, a_appS, a_app0, a_set0, a_setS, Nat.reduceAdd, Nat.reduceSub, Nat.zero_add, true_and, and_true, gAdd_i, gAdd_s, gAdd_l, gAdd_t, gCat_l, gSub_i, gMul_i, gMul_l, gMul_t, gFdiv_i, gMod_i, gPow_i, gLt_i, gLe_i, gGt_i, gGe_i, gLen_l, gLen_t, gLen_s, gAbs_i, gToInt_i, gToInt_b, gToBl_i, gToBl_b, gToTup_l, gToTup_t, gToLst_l, gToLst_t, gMax2_i, gMin2_i, gNeg_i, gSl_l, gSl_t, gSl_s, gSlL_l, gRevL_l, gIsN_n, gIsN_b, gIsN_i, gIsN_s, gIsN_l, gIsN_t, gNotN_n, gNotN_b, gNotN_i, gNotN_s, gNotN_l, gNotN_t, truD, gEq_int, gNe_int, Bool.not_true, Bool.not_false]
    refine ⟨by omega, by omega, by rw [rgI_len]; omega, ?_⟩
    refine lcL_map (fun d => match d with | .int i => .int (2 * (bt * i + sh)) | _ => .non) (fun d K hd hK => ?_) ?_
    · obtain ⟨i, hi⟩ := List.getElem?_of_mem hd
      obtain ⟨li, rfl⟩ := rgI_at hi
      have bi : 0 ≤ bt * (0 + ((i : Nat) : Int)) ∧ bt * (0 + ((i : Nat) : Int)) ≤ bt * 8 := ⟨Int.mul_nonneg (by omega) (by omega), Int.mul_le_mul_of_nonneg_left (by omega) (by omega)⟩
      simp only [a_wFn, a_wSeq, a_wNx, a_wBk, a_wCt, a_wEx, a_wSet, a_wOwn, a_wAsg, a_wPar, a_wRet, a_wRetN, a_wRetF, a_wRetFO, a_wParO, a_wFnF, a_wIfS, a_wApp, a_wExt, a_wFrz, a_wAugI, a_wSetIx, a_wAugIx, a_wFor, a_lookL0, a_lookLS, a_look0, a_lookS, a_lookO0, a_lookO1, a_lookOS, a_wV, a_wO, a_wC, a_wBin, a_wUn, a_wTst, a_wTru, a_wAnd, a_wOr, a_wNot, a_wAndV, a_wOrV, a_wNotV, a_wIf, a_wCh, a_wNil, a_wCons, a_wStar, a_wTup, a_wLst, a_wCal, a_wCall, a_wCall0, a_wCallK, a_wCallB, a_wGot, a_noX, a_wCh3, a_wAugC, gInI_i, a_wCalK, a_wSl, a_wNo, a_wPart, a_wFld, a_wMth, a_wM0, a_wM1, a_wgN, a_wgNil, a_wgCons, a_wgT, a_wLc, a_wYes, a_itK, itK_lst, itK_tup, itK_str, seqD_lst, seqD_tup, a_wRg1, a_wRg2, a_wRg3, a_wEnumU, a_wEnumL, a_wZipU, a_wRevU, a_wComb, wipeD, a_mapS, a_map0, a_lenS, a_len0, List.replicate, a_appS, a_app0, a_set0, a_setS, Nat.reduceAdd, Nat.reduceSub, Nat.zero_add, true_and, and_true, gAdd_i, gAdd_s, gAdd_l, gAdd_t, gCat_l, gSub_i, gMul_i, gMul_l, gMul_t, gFdiv_i, gMod_i, gPow_i, gLt_i, gLe_i, gGt_i, gGe_i, gLen_l, gLen_t, gLen_s, gAbs_i, gToInt_i, gToInt_b, gToBl_i, gToBl_b, gToTup_l, gToTup_t, gToLst_l, gToLst_t, gMax2_i, gMin2_i, gNeg_i, gSl_l, gSl_t, gSl_s, gSlL_l, gRevL_l, gIsN_n, gIsN_b, gIsN_i, gIsN_s, gIsN_l, gIsN_t, gNotN_n, gNotN_b, gNotN_i, gNotN_s, gNotN_l, gNotN_t, truD, gEq_int, gNe_int, Bool.not_true, Bool.not_false]
      exact ⟨wide_mul (a := 50) (b := 20) (by omega) (by omega) (by decide) (by decide) (by decide), wide_mul (a := 5) (b := 60) (by omega) (by omega) (by decide) (by decide) (by decide), hK⟩
    have ev : (rgI 0 ((sz : Int)).toNat).map (fun d => match d with | .int i => Dt.int (2 * (bt * i + sh)) | _ => .non) = (evens bt sh sz).map Dt.int := by
      unfold rgI evens
      rw [List.map_map, List.map_map, Int.toNat_natCast]
      refine List.map_congr_left
            fun i _ => ?_
      show Dt.int (2 * (bt * (0 + ((i : Nat) : Int)) + sh)) = _
      rw [Int.zero_add]
      rfl
    rw [ev]
    refine ⟨(sz : Int), rfl, by omega, by omega, fun at_ at0 at1 => ?_⟩
    obtain ⟨at_, rfl⟩ := Int.eq_ofNat_of_zero_le at0
    refine ⟨wide_mul (a := 5) (b := 60) (by omega) (by omega) (by decide) (by decide) (by decide), by decide, _, rfl, (show 0 < 3 by decide), (show 3 < 1000 by decide), fun d5 h5 => ?_⟩
    obtain ⟨st, hst, rfl⟩ := mem_ints (l := [1, bt, 2 * bt - 1]) h5
    obtain ⟨st0, st1⟩ : 1 ≤ st ∧ st ≤ 2 * bt - 1 := by
      simp only [List.mem_cons, List.not_mem_nil, or_false] at hst
      omega
    have mk : (evens bt sh sz)[at_]? = some (2 * (bt * ((at_ : Nat) : Int) + sh)) := by
      unfold evens
      rw [List.getElem?_map, List.getElem?_range (by omega)]
      rfl
    refine ⟨_, atD_i mk, ?_⟩
    refine ⟨by decide, _, rfl, (show 0 < 2 by decide), (show 2 < 1000 by decide), fun d6 h6 => ?_⟩
    obtain ⟨sg, hsg, rfl⟩ := mem_ints (l := [1, -1]) h6
    obtain hsg : sg = 1 ∨ sg = -1 := by simpa using hsg
    have btb : 0 ≤ bt * ((at_ : Nat) : Int) := Int.mul_nonneg (by omega) (by omega)
    have fct : st * sg = st ∨ st * sg = -st := by
      rcases hsg with z | z <;> rw [z]
      · exact .inl (Int.mul_one _)
      · exact .inr (by rw [Int.mul_neg, Int.mul_one])
    simp only [a_wFn, a_wSeq, a_wNx, a_wBk, a_wCt, a_wEx, a_wSet, a_wOwn, a_wAsg, a_wPar, a_wRet, a_wRetN, a_wRetF, a_wRetFO, a_wParO, a_wFnF, a_wIfS, a_wApp, a_wExt, a_wFrz, a_wAugI, a_wSetIx, a_wAugIx, a_wFor, a_lookL0, a_lookLS, a_look0, a_lookS, a_lookO0, a_lookO1, a_lookOS, a_wV, a_wO, a_wC, a_wBin, a_wUn, a_wTst, a_wTru, a_wAnd, a_wOr, a_wNot, a_wAndV, a_wOrV, a_wNotV, a_wIf, a_wCh, a_wNil, a_wCons, a_wStar, a_wTup, a_wLst, a_wCal, a_wCall, a_wCall0, a_wCallK, a_wCallB, a_wGot, a_noX, a_wCh3, a_wAugC, gInI_i, a_wCalK, a_wSl, a_wNo, a_wPart, a_wFld, a_wMth, a_wM0, a_wM1, a_wgN, a_wgNil, a_wgCons, a_wgT, a_wLc, a_wYes, a_itK, itK_lst, itK_tup, itK_str, seqD_lst, seqD_tup, a_wRg1, a_wRg2, a_wRg3, a_wEnumU, a_wEnumL, a_wZipU, a_wRevU, a_wComb, wipeD, a_mapS, a_map0, a_lenS, a_len0, List.replicate, a_appS, a_app0, a_set0, a_setS, Nat.reduceAdd, Nat.reduceSub, Nat.zero_add, true_and, and_true, gAdd_i, gAdd_s, gAdd_l, gAdd_t, gCat_l, gSub_i, gMul_i, gMul_l, gMul_t, gFdiv_i, gMod_i, gPow_i, gLt_i, gLe_i, gGt_i, gGe_i, gLen_l, gLen_t, gLen_s, gAbs_i, gToInt_i, gToInt_b, gToBl_i, gToBl_b, gToTup_l, gToTup_t, gToLst_l, gToLst_t, gMax2_i, gMin2_i, gNeg_i, gSl_l, gSl_t, gSl_s, gSlL_l, gRevL_l, gIsN_n, gIsN_b, gIsN_i, gIsN_s, gIsN_l, gIsN_t, gNotN_n, gNotN_b, gNotN_i, gNotN_s, gNotN_l, gNotN_t, truD, gEq_int, gNe_int, Bool.not_true, Bool.not_false]
    refine ⟨wide_mul (a := 60) (b := 5) (by omega) (by omega) (by decide) (by decide) (by decide), ?_⟩
    obtain ⟨y, ey, y0, ylo, yhi⟩ : ∃ y : Int, (if 2 * (bt * ((at_ : Nat) : Int) + sh) + st * sg > 0 then 2 * (bt * ((at_ : Nat) : Int) + sh) + st * sg else 0) = y ∧ 0 ≤ y ∧ (at_ ≠ 0 → 2 * (bt * ((at_ : Nat) : Int) + sh) - 2 * bt < y) ∧ y < 2 * (bt * ((at_ : Nat) : Int) + sh) + 2 * bt := by
      have : at_ ≠ 0 → bt ≤ bt * ((at_ : Nat) : Int) := fun h => by
        have := Int.mul_le_mul_of_nonneg_left (show (1 : Int) ≤ ((at_ : Nat) : Int) by omega) (show 0 ≤ bt by omega)
        omega
      refine ⟨_, rfl, ?_, ?_, ?_⟩
      · split <;> omega
      · intro z
        have := this z
        split <;> omega
      · split <;> omega
    obtain ⟨IRr, bw⟩ := IR.moved (bt := bt) (sh := sh) (y := y) (n := sz) (at_ := at_) b0 b1 s0 s1 (by omega) (by omega) y0 ylo yhi
    have sl : setAt ((evens bt sh sz).map Dt.int) ((at_ : Nat) : Int) (.int y) = some (((evens bt sh sz).set at_ y).map Dt.int) := by
      unfold setAt
      rw [if_pos (by omega), if_pos (by rw [List.length_map]; unfold evens; rw [List.length_map, List.length_range]; omega), Int.toNat_natCast, List.map_set]
    rw [show (if 0 < 2 * (bt * ((at_ : Nat) : Int) + sh) + st * sg then 2 * (bt * ((at_ : Nat) : Int) + sh) + st * sg else 0) = y from ey]
    exact ⟨_, sl, wide_mul (a := 5) (b := 60) (by omega) (by omega) (by decide) (by decide) (by decide), wide_mul (a := 5) (b := 60) (by omega) (by omega) (by decide) (by decide) (by decide), by decide, hk _ _ _ IRr bw⟩
theorem cs__law_rule (B : Bl mg) (DD : OwnDef K mg "_law_rule" s__law_rule) (C__law_pick : CalG P w K mg base 2 "_law_pick" (spW (suR K mg c TLb) 2 f__law_pick) []) (C__law_draw : CalG P w K mg base 1 "_law_draw" (spW (suR K mg c TLb) 2 f__law_draw) [])  : CalG P w K mg base 3 "_law_rule" (spW (suR K mg c TLb) 2 f__law_rule) [] :=
  (pc__law_rule B DD C__law_pick C__law_draw).imp (spW_mono fun ds k e ln h => ok__law_rule ds k e ln h)
def f__law_made : SpF := fun ds k _ => ∃ b ms s, ds = [irP b ms s] ∧ IR b ms s ∧ k (.obj 0 (ruD (lowQ s b) (lowL b ms)))
theorem br__law_made {n : Nat} (C : Cal P w K mg base n "_law_made" (sp__law_made K c) []) : CalG P w K mg base n "_law_made" (spW (suR K mg c TLb) 1 f__law_made) [] := (C.imp fun vs H Q E ⟨Mu, A, ds, k, e, ln, hd, mA, m, hv, hw, a, ax⟩ => by
  obtain ⟨b, ms, s, rfl, ir, hk⟩ := hw
  obtain ⟨v, ws, rfl, h1, r⟩ := hv.of_cons
  rw [r.of_nil]
  refine ⟨v, A, b, s, ms, rfl, hd, ir_is h1, ir, fun r H' s rA R => a _ _ _ (.of s) (m.same s) (.obj ⟨rfl, r, _, _, rfl, rfl, ir.vr, ?_⟩) hk⟩
  obtain ⟨dx, v0, v1, v2, v3, e, h0, h1, h2, h3⟩ := R.ex
  exact ⟨dx, v0, v1, v2, v3, by rw [hv_out rA]; exact e, h0.is, h1.is, h2.is, h3.is⟩).g
end
end LW
set_option Elab.async false
set_option linter.all false
set_option maxRecDepth 100000
set_option maxHeartbeats 4000100
set_option exponentiation.threshold 20000
namespace LW
open L2 PySem.Spec PyProof.Rows PySem
/-! ### Rule(offset, mark, ..) in plain data -/
/-- a rule made from numbers as they stand -/
def wRuN (wa : WA) : WE := fun δ k e => wa δ (fun ds => ∃ (d : PyData) (ps : List PyData) (o : Int × Int) (hd : List (Int × Int)), toPys ds = some (d :: ps) ∧ isOffD d = true ∧ (∀ a b, d = encQ (a, b) → b.natAbs < 2 ^ 8000) ∧ VH (lowD d) ps ∧ o = lowD d ∧ hd = ps.map lowD ∧ VR o hd ∧ k (.obj 0 (ruD o hd))) e
theorem das_iss {S : Su} {M : Mu} {A : List Addr} {H : Hp} : ∀ {vs : List V} {ds : List Dt} {ps : List PyData}, Das S M (hv A H) vs ds → toPys ds = some ps → Iss S.K A H vs ps
  | [], [], ps, _, e => by rw [toPys] at e; cases e; exact DAll.nil
  | v :: vs, [], ps, h, _ => by have := h.len; simp at this
  | [], d :: ds, ps, h, _ => by have := h.len; simp at this
  | v :: vs, d :: ds, ps, h, e => by
    rw [toPys] at e
    cases e1 : toPy d with
    | none => rw [e1] at e; cases e
    | some p =>
      cases e2 : toPys ds with
      | none => rw [e1, e2] at e; cases e
      | some qs =>
        rw [e1, e2] at e
        cases e
        obtain ⟨v', vs', e, h1, h2⟩ := h.of_cons
        cases e
        exact DAll.cons (h1.toD p e1) (das_iss h2 e2)
section
variable {K : PySem.W.Frag} {c : Addr} {TLb : List (Addr × Str)}
theorem hv_two {A : List Addr} {H : Hp} {x dx : Addr} {o o' : HO} (nx : H x = none) (ndx : H dx = none) : Same (hv A H) (hv (x :: A) (upd (upd H dx o) x o')) := fun b y e => by
  have hb : b ∉ A := fun z => by rw [hv_in z] at e; cases e
  rw [hv_out hb] at e
  have b1 : b ≠ x := ne_of_none e nx
  have b2 : b ≠ dx := ne_of_none e ndx
  rw [hv_out (by simp [b1, hb]), upd_ne b1, upd_ne b2]
  exact e
/-- Rule(..), at good numbers -/
theorem rd_newD {A : List Addr} {H : Hp} {Q : Hp → Prop} {E : XK} {v : V} {rest : List V} {d : PyData} {ds : List PyData} (hv : Is K A H v d) (hr : Iss K A H rest ds) (hA : Hd A H) (off : isOffD d = true) (sz : ∀ a b, d = encQ (a, b) → b.natAbs < 2 ^ 8000) (vh : VH (lowD d) ds)
    {x dx : Addr} (nx : H x = Option.none) (ndx : H dx = Option.none) (ne : dx ≠ x) (k : ∀ H', Same H H' → x ∉ A → RuleAt K c A H' x (lowD d) (ds.map lowD) → Q H') : sp_Rule_new K c (V.ref x :: v :: rest) (upd (upd H dx (HO.own x)) x (HO.ins c dx [])) (fun v H2 => v = V.non ∧ Q H2) E := by
  have s1 : Same H (upd H dx (.own x)) := same_new ndx
  have nx1 : (upd H dx (HO.own x)) x = none := by rw [upd_ne (fun z => ne z.symm)]; exact nx
  have xA : x ∉ A := hA.out nx
  have e0 : (upd (upd H dx (.own x)) x (.ins c dx [])) x = some (.ins c dx []) := upd_same
  have hA2 : Hd A (upd (upd H dx (.own x)) x (.ins c dx [])) := hd_new (hd_new hA ndx) nx1
  refine ⟨x, dx, v, rest, A, d, ds, rfl, e0, xA, hA2, D.same (hv_two nx ndx) hv, DAll.same (hv_two nx ndx) hr, off, sz, vh, fun H' keep R => ⟨rfl, ?_⟩⟩
  refine k H' (fun b o e => ?_) xA R
  have n1 : b ≠ x := ne_of_none e nx
  exact keep b o n1 (by rw [upd_ne n1]; exact s1 b o e)
end
section
variable {K : PySem.W.Frag} {mg : Str → Option Value} {c : Addr} {TLb : List (Addr × Str)} {X : Cx} {E : XK} {j : Nat} {e : Expr} {es : List Expr} {wa : WA} {p pos : Pos}
theorem xRuN (MR : MakR X.prog X.w X.K X.mg X.base 7 "Rule" c (sp_Rule_new K c)) (hr : Room j X.A) (hj : 8 ≤ j) (hg : Gl X "Rule")
    (ha : PA X (e :: es) (tPA (suR K mg c TLb) E wa)) (hdb : (("Rule" : Str) == ("__debug__" : Str)) = false := by decide)
    (he : starEach (e :: es) X.env = (false, eval e X.env) :: starEach es X.env := by
          rfl) (hpl : (backTo pos (starEach es X.env)).any (·.1) = false := by rfl) :
    PE X (.Call (.Name "Rule" p) (e :: es) [] pos) (tP (suR K mg c TLb) E (wRuN wa)) :=
  peTo (pe_mkP MR hr hj hg ha hdb he hpl) fun σ H Q ⟨M, A, L, δ, k, er, f, hw, a, ax⟩ =>
  ⟨M, A, L, δ, _, er, f, hw, fun vs ds H1 s1 m1 hv hk => by
    obtain ⟨d, ps, o, hd, ep, off, bb, vh, rfl, rfl, vr, hk⟩ := hk
    have f1 := f.step s1 m1
    have mA1 : ∀ e ∈ M, e.1 ∈ L ++ A := fun e he => List.mem_append_right _ (f.mA e he)
    intro x dx nx ndx ne
    have iss := das_iss hv ep
    match vs, iss with
    | v :: rest, iss =>
      have h1 := iss.all 0 v d rfl rfl
      have h2 : DAll K (LW.hv (L ++ A) H1) rest ps := ⟨by simpa using iss.len, fun i u p e1 e2 => iss.all (i + 1) u p e1 e2⟩
      refine rd_newD h1 h2 f1.hd off bb vh nx ndx ne fun H' s xA R => a _ _ _ (s1.trans m1 (.of s)) (m1.same s) (.obj ⟨rfl, x, _, _, rfl, rfl, vr, ?_⟩) hk
      obtain ⟨dx', v0, v1, v2, v3, e, h0, h1, h2, h3⟩ := R.ex
      exact ⟨dx', v0, v1, v2, v3, by rw [hv_out xA]; exact e, h0.is, h1.is, h2.is, h3.is⟩, ax⟩
end
theorem atM_bnd {b s : Int} {ms : List Int} (r : IR b ms s) {k : Nat} (hk : k ≤ 1000) : (atM b ms s k).natAbs < 2 ^ 100 := by
  have b0 := r.b0
  have b1 := r.b1
  have s0 := r.s0
  have s1 := r.s1
  have t25 : (10 : Int) ^ 25 = 10000000000000000000000000 := by decide
  have t27 : (10 : Int) ^ 27 = 1000000000000000000000000000 := by decide
  have t100 : (2 : Nat) ^ 100 = 1267650600228229401496703205376 := by decide
  rw [t25] at b1
  rw [t100]
  have nn := r.nn0 k
  unfold atM at nn ⊢
  split
  · rename_i h
    have e : ms.getD k 0 = ms[k] := by rw [List.getD_eq_getElem?_getD, List.getElem?_eq_getElem h]; rfl
    have := r.bnd ms[k] (List.getElem_mem h)
    have := r.nn ms[k] (List.getElem_mem h)
    rw [t27] at *
    rw [e]
    omega
  · rename_i h
    rw [if_neg h] at nn
    have := Int.mul_le_mul (show ((k : Nat) : Int) ≤ 1000 by omega) (Int.le_of_lt b1) (by omega) (by omega)
    omega
theorem lowQ_le (t b : Int) : (lowQ t b).1.natAbs ≤ t.natAbs ∧ (lowQ t b).2.natAbs ≤ b.natAbs := ⟨Int.natAbs_ediv_le_natAbs _ _, Int.natAbs_ediv_le_natAbs _ _⟩
/-! ### parts: mathematics -/
theorem lowQ_scale {t b x : Int} (ht : 0 ≤ t) (hb : 0 < b) (hx : 0 < x) : lowQ (t * x) (b * x) = lowQ t b := by
  have e : (Nat.gcd (t * x).natAbs (b * x).natAbs : Nat) = Nat.gcd t.natAbs b.natAbs * x.natAbs := by
    rw [Int.natAbs_mul, Int.natAbs_mul, Nat.gcd_mul_right]
  have xx : ((x.natAbs : Nat) : Int) = x := by omega
  unfold lowQ
  rw [e, Int.natCast_mul, xx, Int.mul_ediv_mul_of_pos_left _ _ hx, Int.mul_ediv_mul_of_pos_left _ _ hx]
def Asc1 (a : Nat → Int) : Prop := ∀ k, a k < a (k + 1)
theorem Asc1.le {a : Nat → Int} (h : Asc1 a) {i j : Nat} (ij : i ≤ j) : a i ≤ a j := by
  induction j with
  | zero => rw [Nat.le_zero.mp ij]; exact Int.le_refl _
  | succ j ih =>
    rcases Nat.lt_or_eq_of_le ij with z | z
    · have := ih (by omega)
      have := h j
      omega
    · rw [z]; exact Int.le_refl _
theorem zer_pos {a : Nat → Int} (h : Asc1 a) (nn : 0 ≤ a 0) : 0 < a (zer a) := by
  unfold zer
  split
  · have := h 0
    rename_i z
    rw [z] at this
    exact this
  · omega
theorem top_pos {a : Nat → Int} (asc : Asc1 a) {z c t : Nat} {S : Int} (h : Top a z c t S) (c1 : 1 ≤ c) (az : 0 < a z) : 0 < S := by
  obtain ⟨ks, h1, h2, h3⟩ := h.1
  rw [← h3]
  have key : ∀ ks : List Nat, 0 ≤ (ks.map fun k => a (z + k)).sum := fun ks => by
    induction ks with
    | nil => simp
    | cons k ks ih =>
      rw [List.map_cons,
            List.sum_cons]
      have := asc.le (show z ≤ z + k by omega)
      omega
  match ks, h1 with
  | [], h1 => simp at h1; omega
  | k :: r, _ =>
    rw [List.map_cons,
          List.sum_cons]
    have := asc.le (show z ≤ z + k by omega)
    have := key r
    omega
/-- the same told of marks times another unit -/
theorem top_scale {f g : Nat → Int} {b U : Int} (b0 : 0 < b) (U0 : 0 < U) (e : ∀ k, f k * b = g k * U) {z c t : Nat} {S : Int} (h : Top f z c t S) : ∃ S', Top g z c t S' ∧ S * b = S' * U := by
  have key : ∀ ks : List Nat, (ks.map fun k => f (z + k)).sum * b = (ks.map fun k => g (z + k)).sum * U := fun ks => by
    induction ks with
    | nil => simp
    | cons k ks ih => rw [List.map_cons, List.map_cons, List.sum_cons, List.sum_cons, Int.add_mul, Int.add_mul, ih, e]
  obtain ⟨ks, h1, h2, h3⟩ := h.1
  refine ⟨(ks.map fun k => g (z + k)).sum, ⟨⟨ks, h1, h2, rfl⟩, fun ls l1 l2 => ?_⟩, by rw [← h3, key]⟩
  have u := h.2 ls l1 l2
  rw [← h3] at u
  have u := Int.mul_le_mul_of_nonneg_right u (Int.le_of_lt b0)
  rw [key, key] at u
  exact Int.le_of_mul_le_mul_right u U0
theorem leastR_scale {f g : Nat → Int} {b U : Int} (b0 : 0 < b) (U0 : 0 < U) (e : ∀ k, f k * b = g k * U) (asc : Asc1 f) (nn : 0 ≤ f 0) {n items count : Nat} {r : Option ((Int × Int) × Bool)} (n2 : 2 ≤ n) (h : LeastR f n items count r) : LeastR g n items count r := by
  have zz : ∀ k, f k = 0 ↔ g k = 0 := fun k => by
    have := e k
    constructor
    · intro z
      rw [z, Int.zero_mul] at this
      rcases Int.mul_eq_zero.mp this.symm with y | y
      · exact y
      · omega
    · intro z
      rw [z, Int.zero_mul] at this
      rcases Int.mul_eq_zero.mp this with y | y
      · exact y
      · omega
  have ze : zer f = zer g := by
    unfold zer
    by_cases h0 : f 0 = 0
    · rw [if_pos h0, if_pos ((zz 0).mp h0)]
    · rw [if_neg h0, if_neg fun y => h0 ((zz 0).mpr y)]
  rcases h with h | ⟨h1, h2, h3⟩ | ⟨h1, h2, h3, h4, h5⟩ | ⟨h1, h2, h3, S, h4, h5⟩
  · exact .inl h
  · exact .inr (.inl ⟨h1, h2.imp id (zz _).mp, h3⟩)
  · exact .inr (.inr (.inl ⟨h1, h2, fun y => h3 ((zz _).mpr y), by rw [← ze]; exact h4, h5⟩))
  · have Sp := top_pos asc h4 (by omega) (zer_pos asc nn)
    obtain ⟨S', h6, h7⟩ := top_scale b0 U0 e h4
    rw [ze] at h6 h3
    refine .inr (.inr (.inr ⟨h1, fun y => h2 ((zz _).mpr y), h3, S', h6, ?_⟩))
    have f0 : 0 ≤ f (count - 1) := Int.le_trans nn (asc.le (Nat.zero_le _))
    have e1 := e (count - 1)
    have e2 : (f (count - 1) + S) * b = (g (count - 1) + S') * U := by rw [Int.add_mul, Int.add_mul, e1, h7]
    have g0 : 0 ≤ g (count - 1) := Int.not_lt.mp fun y => by
      have a1 := Int.mul_neg_of_neg_of_pos y U0
      have a2 := Int.mul_nonneg f0 (Int.le_of_lt b0)
      omega
    have p2 : 0 < (f (count - 1) + S) * b := Int.mul_pos (by omega) b0
    have g2 : 0 < g (count - 1) + S' := Int.not_le.mp fun y => by
      have := Int.mul_le_mul_of_nonneg_right y (Int.le_of_lt U0)
      rw [← e2, Int.zero_mul] at this
      omega
    rw [h5, ← lowQ_scale f0 (by omega) b0, e1, e2, lowQ_scale g0 g2 U0]
/-! ### rows of counts, listed -/
/-- all rows of so many counts with this sum, none above the one before it, the first at most so great -/
def splitsL : Nat → Nat → Nat → List (List Nat)
  | 0, many, _ => if many = 0 then [[]] else []
  | s + 1, many, most => ((List.range (min many most + 1)).map fun t => if many ≤ (min many most - t) * (s + 1) then (splitsL s (many - (min many most - t)) (min many most - t)).map fun r => (min many most - t) :: r else []).flatten
def splitsB (s many top i : Nat) : List (List Nat) := ((List.range i).map fun t => if many ≤ (top - t) * (s + 1) then (splitsL s (many - (top - t)) (top - t)).map fun r => (top - t) :: r else []).flatten
theorem splitsB_succ (s many top i : Nat) : splitsB s many top (i + 1) = splitsB s many top i ++ (if many ≤ (top - i) * (s + 1) then (splitsL s (many - (top - i)) (top - i)).map fun r => (top - i) :: r else []) := by
  unfold splitsB
  rw [List.range_succ, List.map_append, List.flatten_append]
  simp
theorem splitsB_le (s many top : Nat) : ∀ (i j : Nat), i ≤ j → (splitsB s many top i).length ≤ (splitsB s many top j).length := fun i j h => by
  induction j with
  | zero => rw [show i = 0 by omega]; exact Nat.le_refl _
  | succ j ih =>
    rcases Nat.lt_or_ge i (j + 1) with z | z
    · rw [splitsB_succ, List.length_append]
      have := ih (by omega)
      omega
    · rw [show i = j + 1 by omega]; exact Nat.le_refl _
theorem splits_succ (s many most : Nat) : splitsL (s + 1) many most = splitsB s many (min many most) (min many most + 1) := rfl
theorem sum_le_mul {x : Nat} : ∀ {X : List Nat}, (∀ y ∈ X, y ≤ x) → X.sum ≤ x * X.length
  | [], _ => by simp
  | y :: X, h => by
    have h1 := h y (by simp)
    have h2 := sum_le_mul (X := X) fun z hz => h z (List.mem_cons_of_mem _ hz)
    rw [List.sum_cons, List.length_cons, Nat.mul_add]
    omega
theorem mem_sum_le : ∀ {X : List Nat} {x : Nat}, x ∈ X → x ≤ X.sum
  | y :: X, x, h => by
    rw [List.sum_cons]
    rcases List.mem_cons.mp h
          with rfl | h
    · omega
    · have := mem_sum_le h
      omega
theorem mem_splits : ∀ (s many most : Nat) (X : List Nat), X ∈ splitsL s many most ↔ X.length = s ∧ X.sum = many ∧ X.Pairwise (fun a b => b ≤ a) ∧ ∀ x ∈ X, x ≤ most
  | 0, many, most, X => by
    rw [splitsL]
    constructor
    · intro h
      split at h
      · rename_i z
        rw [List.mem_singleton.mp h]
        exact ⟨rfl, z.symm, List.Pairwise.nil, fun x hx => by simp at hx⟩
      · simp at h
    · rintro ⟨h1, h2, _, _⟩
      rw [List.length_eq_zero_iff.mp h1] at h2 ⊢
      rw [if_pos (show many = 0 by simpa using h2.symm)]
      exact List.mem_singleton.mpr rfl
  | s + 1, many, most, X => by
    rw [splitsL]
    constructor
    · intro h
      obtain ⟨b, hb, hX⟩ := List.mem_flatten.mp h
      obtain ⟨t, ht, rfl⟩ := List.mem_map.mp hb
      have ht := List.mem_range.mp ht
      split at hX
      · obtain ⟨r, hr, rfl⟩ := List.mem_map.mp hX
        obtain ⟨h1, h2, h3, h4⟩ := (mem_splits s _ _ r).mp hr
        refine ⟨by rw [List.length_cons, h1], by rw [List.sum_cons, h2]; omega, List.pairwise_cons.mpr ⟨h4, h3⟩, fun x hx => ?_⟩
        rcases List.mem_cons.mp hx
              with rfl | hx
        · omega
        · have := h4 x hx
          omega
      · simp at hX
    · rintro ⟨h1, h2, h3, h4⟩
      match X, h1 with
      | x :: R, h1 =>
        obtain ⟨h5, h6⟩ := List.pairwise_cons.mp h3
        have l : R.length = s := by simpa using h1
        rw [List.sum_cons] at h2
        have xm := h4 x (by simp)
        have sl := sum_le_mul h5
        rw [l] at sl
        refine List.mem_flatten.mpr ⟨_, List.mem_map.mpr ⟨min many most - x, List.mem_range.mpr (by omega), rfl⟩, ?_⟩
        rw [show min many most - (min many most - x) = x by omega, if_pos (by rw [Nat.mul_add]; omega)]
        exact List.mem_map.mpr ⟨R, (mem_splits s _ _ R).mpr ⟨l, by omega, h6, h5⟩, rfl⟩
theorem sorted_of (ks : List Nat) : ∃ X : List Nat, X.Perm ks ∧ X.Pairwise (fun a b => b ≤ a) := by
  refine ⟨ks.mergeSort (fun a b => decide (b ≤ a)), List.mergeSort_perm _ _, ?_⟩
  have := List.pairwise_mergeSort (le := fun a b : Nat => decide (b ≤ a)) (fun a b c h1 h2 => by simp at *; omega) (fun a b => by simp; omega) ks
  exact this.imp fun h => by simpa using h
theorem intsC_at {lo c : Int} {n i : Nat} {d : Dt} (h : (intsC lo c n)[i]? = some d) : i < n ∧ d = .int (lo + (i : Nat) * c) := by
  unfold intsC at h
  obtain ⟨j, hj, rfl⟩ := some_map h
  obtain ⟨h1, h2⟩ := List.getElem?_eq_some_iff.mp hj
  rw [List.length_range] at h1
  rw [List.getElem_range] at h2
  exact ⟨h1, by rw [h2]⟩
theorem intsC_len (lo c : Int) (n : Nat) : (intsC lo c n).length = n := by simp [intsC]
/-- whether some claims let a claimant have so many items and the others these -/
def canB (a : Nat → Int) (mine : Nat) (X : List Nat) : Bool := decide (0 < a 0) || (if mine = 0 then decide (∀ x ∈ X, x < 2) else decide (∀ x ∈ X, 0 < x) || (decide (mine = 1) && decide (∀ x ∈ X, x < 2)))
/-! ### the least part, by listing -/
def topN (a : Nat → Int) (mine : Nat) : Int := if mine = 0 then 0 else a (mine - 1)
def pairN (a : Nat → Int) (mine : Nat) (X : List Nat) : Int × Int := (topN a mine, if 0 < topN a mine then topN a mine + (X.map a).sum else 1)
def partsI (a : Nat → Int) (s many mine : Nat) : List (Int × Int) := ((splitsL s (many - mine) many).filter (canB a mine)).map (pairN a mine)
def partsB (a : Nat → Int) (s many least i : Nat) : List (Int × Int) := ((List.range i).map fun t => partsI a s many (least + t)).flatten
def partsL (a : Nat → Int) (s many least : Nat) : List (Int × Int) := partsB a s many least (many + 1 - least)
theorem partsB_succ (a : Nat → Int) (s many least i : Nat) : partsB a s many least (i + 1) = partsB a s many least i ++ partsI a s many (least + i) := by
  unfold partsB
  rw [List.range_succ, List.map_append, List.flatten_append]
  simp
theorem mem_parts {a : Nat → Int} {s many least : Nat} {p : Int × Int} : p ∈ partsL a s many least ↔ ∃ mine X, least ≤ mine ∧ mine ≤ many ∧ X.length = s ∧ X.sum = many - mine ∧ X.Pairwise (fun a b => b ≤ a) ∧ canB a mine X = true ∧ p = pairN a mine X := by
  unfold partsL partsB partsI
  rw [List.mem_flatten]
  constructor
  · rintro ⟨b, hb, hp⟩
    obtain ⟨t, ht, rfl⟩ := List.mem_map.mp hb
    have ht := List.mem_range.mp ht
    obtain ⟨X, hX, rfl⟩ := List.mem_map.mp hp
    obtain ⟨h1, h2⟩ := List.mem_filter.mp hX
    obtain ⟨h3, h4, h5, _⟩ := (mem_splits _ _ _ _).mp h1
    exact ⟨least + t, X, by omega, by omega, h3, h4, h5, h2, rfl⟩
  · rintro ⟨mine, X, h1, h2, h3, h4, h5, h6, rfl⟩
    refine ⟨_, List.mem_map.mpr ⟨mine - least, List.mem_range.mpr (by omega), rfl⟩, List.mem_map.mpr ⟨X, List.mem_filter.mpr ⟨(mem_splits _ _ _ _).mpr ⟨h3, by rw [h4]; omega, h5, fun x hx => ?_⟩, by rw [show least + (mine - least) = mine by omega]; exact h6⟩, by rw [show least + (mine - least) = mine by omega]⟩⟩
    have := mem_sum_le hx
    omega
def lessF (b e : Int × Int) : Int × Int := if e.1 * b.2 < b.1 * e.2 then e else b
def dueP : List (Int × Int) → Option ((Int × Int) × Bool)
  | [] => none
  | p :: ps => some (lowQ ((p :: ps).foldl lessF p).1 ((p :: ps).foldl lessF p).2, decide (0 < ((p :: ps).foldl lessF p).1))
theorem foldl_less : ∀ (l : List (Int × Int)) (b : Int × Int), 0 < b.2 → (∀ e ∈ l, 0 < e.2) → (l.foldl lessF b ∈ b :: l) ∧ ∀ e ∈ b :: l, (l.foldl lessF b).1 * e.2 ≤ e.1 * (l.foldl lessF b).2
  | [], b, b0, _ => ⟨by simp, fun e he => by rw [List.mem_singleton.mp he]; exact Int.le_refl _⟩
  | e :: l, b, b0, h => by
    have e0 := h e (by simp)
    have n0 : 0 < (lessF b e).2 := by unfold lessF; split <;> assumption
    obtain ⟨m, le⟩ := foldl_less l (lessF b e) n0 fun x hx => h x (List.mem_cons_of_mem _ hx)
    have f2 : 0 < (l.foldl lessF (lessF b e)).2 := by
      rcases List.mem_cons.mp m with z | z
      · rw [z]; exact n0
      · exact h _ (List.mem_cons_of_mem _ z)
    have key : ∀ x : Int × Int, 0 < x.2 → (lessF b e).1 * x.2 ≤ x.1 * (lessF b e).2 → (l.foldl lessF (lessF b e)).1 * x.2 ≤ x.1 * (l.foldl lessF (lessF b e)).2 := fun x x0 hx => by
      have h1 := le _ (List.mem_cons_self)
      generalize l.foldl lessF (lessF b e) = r at *
      generalize lessF b e = y at *
      have h2 := Int.mul_le_mul_of_nonneg_right h1 (Int.le_of_lt x0)
      have h3 := Int.mul_le_mul_of_nonneg_right hx (Int.le_of_lt f2)
      refine Int.le_of_mul_le_mul_right (a := y.2) ?_ n0
      calc _ = r.1 * y.2 * x.2 := by ac_rfl
        _ ≤ y.1 * r.2 * x.2 := h2
        _ = y.1 * x.2 * r.2 := by ac_rfl
        _ ≤ x.1 * y.2 * r.2 := h3
        _ = _ := by ac_rfl
    rw [List.foldl_cons]
    refine ⟨?_, fun x hx => ?_⟩
    · rcases List.mem_cons.mp m with z | z
      · rw [z]
        unfold lessF
        split
        · exact List.mem_cons_of_mem _ (List.mem_cons_self)
        · exact List.mem_cons_self
      · exact List.mem_cons_of_mem _ (List.mem_cons_of_mem _ z)
    · rcases List.mem_cons.mp hx with rfl | hx
      · refine key _ b0 ?_
        unfold lessF
        split
        · rename_i z; exact Int.le_of_lt z
        · exact Int.le_refl _
      · rcases List.mem_cons.mp hx with rfl | hx
        · refine key _ e0 ?_
          unfold lessF
          split
          · exact Int.le_refl _
          · rename_i z; exact Int.not_lt.mp z
        · exact le x (List.mem_cons_of_mem _ hx)
theorem low_same {t b t' b' : Int} (t0 : 0 ≤ t) (t0' : 0 ≤ t') (b0 : 0 < b) (b0' : 0 < b') (h : t * b' = t' * b) : lowQ t b = lowQ t' b' := by
  rw [← lowQ_scale t0 b0 b0', ← lowQ_scale t0' b0' b0, h, Int.mul_comm b b']
/-- what the listing tells: a number that is in it, none lesser -/
theorem due_of {P : List (Int × Int)} (h2 : ∀ p ∈ P, 0 ≤ p.1 ∧ 0 < p.2) {t m : Int} (t0 : 0 ≤ t) (m0 : 0 < m) (he : ∃ p ∈ P, p.1 * m = t * p.2) (hl : ∀ p ∈ P, t * p.2 ≤ p.1 * m) : dueP P = some (lowQ t m, decide (0 < t)) := by
  obtain ⟨q, hq, eq⟩ := he
  match P, hq with
  | p :: ps, hq =>
    obtain ⟨m1, le⟩ := foldl_less (p :: ps) p (h2 p (by simp)).2 fun e he => (h2 e he).2
    show some (lowQ ((p :: ps).foldl lessF p).1 ((p :: ps).foldl lessF p).2, decide (0 < ((p :: ps).foldl lessF p).1)) = _
    have m2 : (p :: ps).foldl lessF p ∈ p :: ps := by
      rcases List.mem_cons.mp m1 with z | z
      · rw [z]; exact List.mem_cons_self
      · exact z
    have le := le q (List.mem_cons_of_mem _ hq)
    have l2 := hl _ m2
    obtain ⟨r1, r2⟩ := h2 _ m2
    obtain ⟨q1, q2⟩ := h2 q hq
    generalize (p :: ps).foldl lessF p = r at *
    have es : r.1 * m = t * r.2 := by
      refine Int.le_antisymm ?_ l2
      have h3 := Int.mul_le_mul_of_nonneg_right le (Int.le_of_lt m0)
      refine Int.le_of_mul_le_mul_right (a := q.2) ?_ q2
      calc _ = r.1 * q.2 * m := by ac_rfl
        _ ≤ q.1 * r.2 * m := h3
        _ = q.1 * m * r.2 := by ac_rfl
        _ = t * q.2 * r.2 := by rw [eq]
        _ = _ := by ac_rfl
    rw [low_same r1 t0 r2 m0 es]
    have : (0 < r.1) ↔ 0 < t := by
      constructor
      · intro h
        have := Int.mul_pos h m0
        rw [es] at this
        exact Int.not_le.mp fun z => by
          have w := Int.mul_nonpos_of_nonneg_of_nonpos (Int.le_of_lt r2) z
          rw [Int.mul_comm] at w
          omega
      · intro h
        have := Int.mul_pos h r2
        rw [← es] at this
        exact Int.not_le.mp fun z => by
          have w := Int.mul_nonpos_of_nonneg_of_nonpos (Int.le_of_lt m0) z
          rw [Int.mul_comm] at w
          omega
    rw [decide_eq_decide.mpr this]
theorem asc_pos {a : Nat → Int} (asc : Asc1 a) (nn : 0 ≤ a 0) {k : Nat} (h : a k ≠ 0 ∨ 0 < k) : 0 < a k := by
  by_cases k0 : k = 0
  · subst k0
    rcases h with h | h <;> omega
  · have h01 : a 0 < a 1 := asc 0
    have := asc.le (show 1 ≤ k by omega)
    omega
theorem asc_nn {a : Nat → Int} (asc : Asc1 a) (nn : 0 ≤ a 0) (k : Nat) : 0 ≤ a k := by
  have := asc.le (show 0 ≤ k by omega)
  omega
theorem sum_nn {a : Nat → Int} (nn : ∀ k, 0 ≤ a k) : ∀ X : List Nat, 0 ≤ (X.map a).sum
  | [] => by simp
  | x :: X => by
    have h1 := nn x
    have h2 := sum_nn nn X
    rw [List.map_cons,
          List.sum_cons]
    omega
theorem pair_ok {a : Nat → Int} (nn : ∀ k, 0 ≤ a k) (mine : Nat) (X : List Nat) : 0 ≤ (pairN a mine X).1 ∧ 0 < (pairN a mine X).2 := by
  have t0 : 0 ≤ topN a mine := by
    unfold topN
    split
    · exact Int.le_refl _
    · exact nn _
  have s0 := sum_nn nn X
  refine ⟨t0, ?_⟩
  show 0 < (if 0 < topN a mine then topN a mine + (X.map a).sum else 1)
  split <;> omega
theorem sum_map_perm {a : Nat → Int} {X Y : List Nat} (h : X.Perm Y) : (X.map a).sum = (Y.map a).sum := by
  induction h with
  | nil => rfl
  | cons x _ ih => rw [List.map_cons, List.map_cons, List.sum_cons, List.sum_cons, ih]
  | swap x y l => simp only [List.map_cons, List.sum_cons]; omega
  | trans _ _ h1 h2 => exact h1.trans h2
theorem nsum_permL {X Y : List Nat} (h : X.Perm Y) : X.sum = Y.sum := by
  induction h with
  | nil => rfl
  | cons x _ ih => rw [List.sum_cons, List.sum_cons, ih]
  | swap x y l => simp only [List.sum_cons]; omega
  | trans _ _ h1 h2 => exact h1.trans h2
theorem can_perm {a : Nat → Int} {mine : Nat} {X Y : List Nat} (h : X.Perm Y) : canB a mine X = canB a mine Y := by
  unfold canB
  rw [decide_eq_decide.mpr (show (∀ x ∈ X, x < 2) ↔ ∀ x ∈ Y, x < 2 from ⟨fun q x hx => q x (h.mem_iff.mpr hx), fun q x hx => q x (h.mem_iff.mp hx)⟩), decide_eq_decide.mpr (show (∀ x ∈ X, 0 < x) ↔ ∀ x ∈ Y, 0 < x from ⟨fun q x hx => q x (h.mem_iff.mpr hx), fun q x hx => q x (h.mem_iff.mp hx)⟩)]
/-- rows that are listed, in any order -/
theorem parts_of {a : Nat → Int} {s many least mine : Nat} {ks : List Nat} (h1 : least ≤ mine) (h2 : mine ≤ many) (l : ks.length = s) (sm : ks.sum = many - mine) (c : canB a mine ks = true) : pairN a mine ks ∈ partsL a s many least := by
  obtain ⟨X, pm, srt⟩ := sorted_of ks
  refine mem_parts.mpr ⟨mine, X, h1, h2, by rw [pm.length_eq, l], by rw [nsum_permL pm, sm], srt, by rw [can_perm pm]; exact c, ?_⟩
  unfold pairN
  rw [sum_map_perm pm]
theorem nsum_rep (n x : Nat) : (List.replicate n x).sum = n * x := by
  induction n with
  | zero => simp
  | succ n ih => rw [List.replicate_succ, List.sum_cons, ih, Nat.add_mul]; omega
/-- a row for a claimant with no mark above 0 -/
theorem can_row {a : Nat → Int} {s T mine : Nat} (nn : 0 ≤ a 0) (s1 : 1 ≤ s) (h : 0 < a 0 ∨ mine = 1 ∨ mine = 0 ∧ T = 0) : ∃ ks : List Nat, ks.length = s ∧ ks.sum = T ∧ canB a mine ks = true := by
  rcases h with h | h | ⟨h, hT⟩
  · refine ⟨T :: List.replicate (s - 1) 0, by rw [List.length_cons, List.length_replicate]; omega, by rw [List.sum_cons, nsum_rep]; omega, ?_⟩
    unfold canB
    rw [decide_eq_true h]
    rfl
  · subst h
    by_cases ts : s ≤ T
    · refine ⟨(T - (s - 1)) :: List.replicate (s - 1) 1, by rw [List.length_cons, List.length_replicate]; omega, by rw [List.sum_cons, nsum_rep]; omega, ?_⟩
      have : ∀ x ∈ (T - (s - 1)) :: List.replicate (s - 1) 1, 0 < x := fun x hx => by
        rcases List.mem_cons.mp hx
              with rfl | hx
        · omega
        · rw [(List.mem_replicate.mp hx).2]; decide
      unfold canB
      rw [if_neg (by decide), decide_eq_true this]
      simp
    · refine ⟨List.replicate T 1 ++ List.replicate (s - T) 0, by rw [List.length_append, List.length_replicate, List.length_replicate]; omega, by rw [List.sum_append, nsum_rep, nsum_rep]; omega, ?_⟩
      have : ∀ x ∈ List.replicate T 1 ++ List.replicate (s - T) 0, x < 2 := fun x hx => by
        rcases List.mem_append.mp hx
              with hx | hx
        · rw [(List.mem_replicate.mp hx).2]; decide
        · rw [(List.mem_replicate.mp hx).2]; decide
      unfold canB
      rw [if_neg (by decide), decide_eq_true this]
      simp
  · subst h
    refine ⟨List.replicate s 0, by rw [List.length_replicate], by rw [nsum_rep]; omega, ?_⟩
    have : ∀ x ∈ List.replicate s 0, x < 2 := fun x hx => by rw [(List.mem_replicate.mp hx).2]; decide
    unfold canB
    rw [if_pos rfl, decide_eq_true this]
    simp
theorem map_shift {a : Nat → Int} (z : Nat) (ks : List Nat) : ((ks.map fun k => z + k).map a).sum = (ks.map fun k => a (z + k)).sum := by rw [List.map_map]; rfl
theorem sum_shift (z : Nat) : ∀ ks : List Nat, (ks.map fun k => z + k).sum = ks.sum + z * ks.length
  | [] => by simp
  | k :: ks => by
    rw [List.map_cons, List.sum_cons, List.sum_cons, sum_shift z ks, List.length_cons, Nat.mul_add]
    omega
/-- the rows of Top are all that may stand -/
theorem top_row {a : Nat → Int} (asc : Asc1 a) {z c T : Nat} {S : Int} (top : Top a z c T S) (c1 : 1 ≤ c) {X : List Nat} (l : X.length = c) (hz : ∀ x ∈ X, z ≤ x) (hs : X.sum ≤ T + z * c) : (X.map a).sum ≤ S := by
  match X, l with
  | [], l =>
    rw [List.length_nil] at l
    omega
  | x :: R, l =>
    have hx := hz x (by simp)
    have hR : ∀ y ∈ R, z ≤ y := fun y hy => hz y (List.mem_cons_of_mem _ hy)
    have e : ∀ R : List Nat, (∀ y ∈ R, z ≤ y) → (R.map fun y => y - z).sum + z * R.length = R.sum ∧ (R.map a).sum = ((R.map fun y => y - z).map fun k => a (z + k)).sum := fun R => by
      induction R with
      | nil => intro _; simp
      | cons y R ih =>
        intro h
        have h1 := h y (by simp)
        obtain ⟨h2, h3⟩ := ih fun u hu => h u (List.mem_cons_of_mem _ hu)
        simp only [List.map_cons, List.sum_cons, List.length_cons, Nat.mul_add]
        rw [h3, show z + (y - z) = y by omega]
        exact ⟨by omega, rfl⟩
    obtain ⟨e1, e2⟩ := e R hR
    rw [List.sum_cons] at hs
    have lR : R.length + 1 = c := by simpa using l
    have zc : z * c = z * R.length + z := by rw [← lR, Nat.mul_add]; omega
    have t := top.2 ((T - (R.map fun y => y - z).sum) :: R.map fun y => y - z) (by simpa using l) (by rw [List.sum_cons]; omega)
    rw [List.map_cons, List.sum_cons, ← e2] at t
    rw [List.map_cons,
          List.sum_cons]
    have := asc.le (show x ≤ z + (T - (R.map fun y => y - z).sum) by omega)
    omega
/-- what least_possible tells is what the listing tells -/
theorem least_list {a : Nat → Int} (asc : Asc1 a) (nn : 0 ≤ a 0) {n items count : Nat} {r : Option ((Int × Int) × Bool)} (n2 : 2 ≤ n) (h : LeastR a n items count r) : r = dueP (partsL a (n - 1) items count) := by
  have nk := asc_nn asc nn
  have ok : ∀ p ∈ partsL a (n - 1) items count, 0 ≤ p.1 ∧ 0 < p.2 := fun p hp => by
    obtain ⟨mine, X, _, _, _, _, _, _, rfl⟩ := mem_parts.mp hp
    exact pair_ok nk mine X
  have none_of : (∀ p, p ∉ partsL a (n - 1) items count) → dueP (partsL a (n - 1) items count) = none := fun h => by
    rw [List.eq_nil_iff_forall_not_mem.mpr h]
    rfl
  rcases h with ⟨h1, rfl⟩ | ⟨h1, h2, rfl⟩ | ⟨h1, h2, h3, h4, rfl⟩ | ⟨h1, h2, h3, S, top, rfl⟩
  · refine (none_of fun p hp => ?_).symm
    obtain ⟨mine, X, a1, a2, _⟩ := mem_parts.mp hp
    omega
  · have c01 : count = 0 ∨ count = 1 ∧ a 0 = 0 := by
      rcases h2 with h2 | h2
      · exact .inl h2
      · by_cases c0 : count = 0
        · exact .inl c0
        · have : count - 1 = 0 := Nat.eq_zero_of_not_pos fun w => by
            have := asc_pos asc nn (.inr w)
            omega
          rw [this] at h2
          exact .inr ⟨by omega, h2⟩
    obtain ⟨mine, m1, m2, m3, m4⟩ : ∃ mine, count ≤ mine ∧ mine ≤ items ∧ topN a mine = 0 ∧ (0 < a 0 ∨ mine = 1 ∨ mine = 0 ∧ items - mine = 0) := by
      by_cases a0 : a 0 = 0
      · by_cases i0 : items = 0
        · exact ⟨0, by omega, by omega, rfl, .inr (.inr ⟨rfl, by omega⟩)⟩
        · exact ⟨1, by omega, by omega, a0, .inr (.inl rfl)⟩
      · exact ⟨0, by rcases c01 with c | ⟨_, c⟩ <;> omega, by omega, rfl, .inl (by omega)⟩
    obtain ⟨ks, k1, k2, k3⟩ := can_row (T := items - mine) nn (show 1 ≤ n - 1 by omega) m4
    have inn := parts_of (least := count) m1 m2 k1 k2 k3
    have e : (pairN a mine ks).1 = 0 := m3
    rw [due_of ok (t := 0) (m := 1) (Int.le_refl _) (by decide) ⟨_, inn, by rw [e]; omega⟩ fun p hp => by have := (ok p hp).1; omega]
    rfl
  · refine (none_of fun p hp => ?_).symm
    obtain ⟨mine, X, a1, a2, a3, a4, _, a6, _⟩ := mem_parts.mp hp
    unfold zer at h4
    split at h4
    · rename_i z
      have c2 : 2 ≤ count := by
        rcases Nat.lt_or_ge count 2 with w | w
        · rw [show count - 1 = 0 by omega] at h3
          exact absurd z h3
        · exact w
      unfold canB at a6
      rw [decide_eq_false (show ¬ 0 < a 0 by omega), if_neg (by omega), decide_eq_false (show ¬ mine = 1 by omega)] at a6
      have al : ∀ x ∈ X, 0 < x := by simpa using a6
      have : X.length ≤ X.sum := by
        have key : ∀ X : List Nat, (∀ x ∈ X, 0 < x) → X.length ≤ X.sum := fun X => by
          induction X with
          | nil => intro _; simp
          | cons x X ih =>
            intro h
            have q1 := h x (by simp)
            have q2 := ih fun u hu => h u (List.mem_cons_of_mem _ hu)
            rw [List.length_cons, List.sum_cons]
            omega
        exact key X al
      omega
    · omega
  · have zz : (zer a = 1 ∧ a 0 = 0) ∨ (zer a = 0 ∧ 0 < a 0) := by
      unfold zer
      by_cases h0 : a 0 = 0
      · rw [if_pos h0]; exact .inl ⟨rfl, h0⟩
      · rw [if_neg h0]; exact .inr ⟨rfl, by omega⟩
    have m0 : 0 < a (count - 1) := asc_pos asc nn (.inl h2)
    have c2 : zer a = 1 → 2 ≤ count := fun z => by
      rcases zz with ⟨_, z0⟩ | ⟨z0, _⟩
      · rcases Nat.lt_or_ge count 2 with w | w
        · rw [show count - 1 = 0 by omega] at h2
          exact absurd z0 h2
        · exact w
      · omega
    obtain ⟨ks, k1, k2, k3⟩ := top.1
    have tp : ∀ mine, count ≤ mine → topN a mine = a (mine - 1) := fun mine h => if_neg (by omega)
    have inn : pairN a count (ks.map fun k => zer a + k) ∈ partsL a (n - 1) items count := by
      refine parts_of (Nat.le_refl _) (by omega) (by rw [List.length_map, k1]) (by rw [sum_shift, k1, k2]; omega) ?_
      unfold canB
      rcases zz with ⟨z1, z0⟩ | ⟨z1, z0⟩
      · have := c2 z1
        have al : ∀ x ∈ ks.map fun k => zer a + k, 0 < x := fun x hx => by
          obtain ⟨k, _, rfl⟩ := List.mem_map.mp hx
          omega
        rw [if_neg (by omega), decide_eq_true al]
        simp
      · rw [decide_eq_true z0]
        rfl
    have S0 : 0 ≤ S := by
      rw [← k3, ← map_shift]
      exact sum_nn nk _
    have ep : pairN a count (ks.map fun k => zer a + k) = (a (count - 1), a (count - 1) + S) := by
      unfold pairN
      rw [tp _ (Nat.le_refl _), if_pos m0, map_shift, k3]
    rw [ep] at inn
    rw [due_of ok (t := a (count - 1)) (m := a (count - 1) + S) (by omega) (by omega) ⟨_, inn, rfl⟩ fun p hp => ?_, decide_eq_true m0]
    obtain ⟨mine, X, a1, a2, a3, a4, _, a6, rfl⟩ := mem_parts.mp hp
    unfold pairN
    rw [tp _ a1]
    have m1 := asc.le (show count - 1 ≤ mine - 1 by omega)
    rw [if_pos (show 0 < a (mine - 1) by omega)]
    have hz : ∀ x ∈ X, zer a ≤ x := fun x hx => by
      rcases zz with ⟨z1, z0⟩ | ⟨z1, z0⟩
      · have := c2 z1
        unfold canB at a6
        rw [decide_eq_false (show ¬ 0 < a 0 by omega), if_neg (by omega), decide_eq_false (show ¬ mine = 1 by omega)] at a6
        have al : ∀ x ∈ X, 0 < x := by simpa using a6
        have := al x hx
        omega
      · omega
    have le := top_row asc top (by omega) a3 hz (by omega)
    have s0 := sum_nn nk X
    show a (count - 1) * (a (mine - 1) + (X.map a).sum) ≤ a (mine - 1) * (a (count - 1) + S)
    have p1 := Int.mul_le_mul m1 le s0 (by omega)
    rw [Int.mul_add, Int.mul_add, Int.mul_comm (a (mine - 1)) (a (count - 1))]
    omega
theorem splits_small : ∀ s ∈ List.range 12, ∀ m ∈ List.range 10, ∀ M ∈ List.range 10, (splitsL s m M).length ≤ 30 := by decide +kernel
end LW
set_option Elab.async false
set_option linter.all false
set_option maxRecDepth 100000
set_option maxHeartbeats 4000100
set_option exponentiation.threshold 20000
namespace LW
open L2 PySem.Spec PyProof.Rows PySem
abbrev s__law_pair : Stmt := topS 64
theorem sc__law_pair : FnScope ["_law_top", "_law_bottom", "_law_by"] ["_law_top", "_law_bottom"] (defScope s__law_pair) := ⟨rfl, rfl, rfl, by decide +kernel, rfl, by decide +kernel, by decide +kernel⟩
abbrev s__law_splits : Stmt := topS 65
theorem sc__law_splits : FnScope ["_law_size", "_law_many", "_law_most", "_law_found", "_law_first", "_law_rest"] ["_law_size", "_law_many", "_law_most"] (defScope s__law_splits) := ⟨rfl, rfl, rfl, by decide +kernel, rfl, by decide +kernel, by decide +kernel⟩
abbrev s__law_can : Stmt := topS 66
theorem sc__law_can : FnScope ["_law_own", "_law_mine", "_law_split"] ["_law_own", "_law_mine", "_law_split"] (defScope s__law_can) := ⟨rfl, rfl, rfl, by decide +kernel, rfl, by decide +kernel, by decide +kernel⟩
abbrev s__law_parts : Stmt := topS 67
theorem sc__law_parts : FnScope ["_law_own", "_law_size", "_law_many", "_law_least", "_law_found", "_law_mine", "_law_split", "_law_top", "_law_each"] ["_law_own", "_law_size", "_law_many", "_law_least"] (defScope s__law_parts) := ⟨rfl, rfl, rfl, by decide +kernel, rfl, by decide +kernel, by decide +kernel⟩
abbrev s__law_due : Stmt := topS 68
theorem sc__law_due : FnScope ["_law_own", "_law_size", "_law_many", "_law_least", "_law_found", "_law_best", "_law_each"] ["_law_own", "_law_size", "_law_many", "_law_least"] (defScope s__law_due) := ⟨rfl, rfl, rfl, by decide +kernel, rfl, by decide +kernel, by decide +kernel⟩
abbrev s__law_hand_right : Stmt := topS 69
theorem sc__law_hand_right : FnScope ["_law_told", "_law_due_here"] [] (defScope s__law_hand_right) := ⟨rfl, rfl, rfl, by decide +kernel, rfl, by decide +kernel, by decide +kernel⟩
abbrev s__law_right : Stmt := topS 70
theorem sc__law_right : FnScope ["_law_pool_here", "_law_own", "_law_one", "_law_size", "_law_many", "_law_least", "_law_due_here", "_law_told"] ["_law_pool_here"] (defScope s__law_right) := ⟨rfl, rfl, rfl, by decide +kernel, rfl, by decide +kernel, by decide +kernel⟩
abbrev s_law : Stmt := topS 71
theorem sc_law : FnScope ["_law_script", "_law_at_here"] ["_law_script"] (defScope s_law) := ⟨rfl, rfl, rfl, by decide +kernel, rfl, by decide +kernel, by decide +kernel⟩
/-! ### k33: what the law draws and looks at -/
def natsD (X : List Nat) : List Dt := X.map fun n => Dt.int (n : Nat)
theorem intsOf_nats (X : List Nat) : intsOf (natsD X) = some (X.map fun n : Nat => (n : Int)) := by
  have : natsD X = (X.map fun n : Nat => (n : Int)).map Dt.int := by
    unfold natsD
    rw [List.map_map]
    rfl
  rw [this]
  exact intsOf_map _
theorem ir_whole {b s : Int} {ms : List Int} (ir : IR b ms s) (k : Nat) : wholeQ (lowQ s b) (lowL b ms) ((k : Nat) : Int) * b = atM b ms s k * unitQ (lowQ s b) (lowL b ms) := by
  obtain ⟨e1, p1, _⟩ := wholeQ_mul ir.vr (n := ((k : Nat) : Int)) (by omega)
  obtain ⟨e2, p2⟩ := ir.mark k
  have : (wholeQ (lowQ s b) (lowL b ms) ((k : Nat) : Int) * b) * (markQ (lowQ s b) (lowL b ms) ((k : Nat) : Int)).2 = (atM b ms s k * unitQ (lowQ s b) (lowL b ms)) * (markQ (lowQ s b) (lowL b ms) ((k : Nat) : Int)).2 := by
    calc _ = (wholeQ (lowQ s b) (lowL b ms) ((k : Nat) : Int) * (markQ (lowQ s b) (lowL b ms) ((k : Nat) : Int)).2) * b := by ac_rfl
      _ = ((markQ (lowQ s b) (lowL b ms) ((k : Nat) : Int)).1 * b) * unitQ (lowQ s b) (lowL b ms) := by rw [e1]; ac_rfl
      _ = _ := by rw [e2]; ac_rfl
  exact Int.eq_of_mul_eq_mul_right (by omega) this
/-- what least_possible tells of a rule in whole numbers -/
theorem least_ir {b s : Int} {ms : List Int} (ir : IR b ms s) {n items count : Nat} {r : Option ((Int × Int) × Bool)} (n2 : 2 ≤ n) (h : LeastR (fun k => wholeQ (lowQ s b) (lowL b ms) ((k : Nat) : Int)) n items count r) : LeastR (atM b ms s) n items count r := by
  have e := ir_whole ir
  have U0 := ir.vr.unit.1
  refine leastR_scale ir.b0 U0 e (fun k => ?_) ?_ n2 h
  · have a := Int.mul_lt_mul_of_pos_right (ir.step k) U0
    rw [← e, ← e] at a
    exact Int.lt_of_mul_lt_mul_right a (Int.le_of_lt ir.b0)
  · exact wholeQ_nn ir.vr (n := ((0 : Nat) : Int)) (by omega)
section
variable {P : Program} {w : World} {K : PySem.W.Frag} {mg : Str → Option Value} {base : Heap} {c : Addr} {TLb : List (Addr × Str)}
def f__law_common : SpF := fun ds k _ => ∃ t b : Int, ds = [.int t, .int b] ∧ 0 ≤ t ∧ 0 < b ∧ k (.int ((Nat.gcd t.natAbs b.natAbs : Nat) : Int))
theorem br__law_common {n : Nat} (C : Cal P w K mg base n "_law_common" (sp__law_common K c) []) : CalG P w K mg base n "_law_common" (spW (suR K mg c TLb) 2 f__law_common) [] := (C.imp fun vs H Q E ⟨Mu, A, ds, k, e, ln, hd, mA, m, hv, hw, a, ax⟩ => by
  obtain ⟨t, b, rfl, t0, b0, hk⟩ := hw
  obtain ⟨v, u, rfl, h1, h2⟩ := hv.two
  exact ⟨t, b, by rw [h1.int_eq, h2.int_eq], t0, b0, a _ _ _ .refl m (.int _) hk⟩).g
end
section
variable {P : Program} {w : World} {K : PySem.W.Frag} {mg : Str → Option Value} {base : Heap} {c : Addr} {TLb : List (Addr × Str)}
def w__law_pair : WS := (wSeq (wSet 2 (wCall0 2 f__law_common (wCons (wCal gAbs (wCons (wV 0) wNil)) (wCons (wV 1) wNil))))
      (wRet (wTup (wCons (wBin LW.gFdiv (wV 0) (wV 2)) (wCons (wBin LW.gFdiv (wV 1) (wV 2)) wNil)))))
theorem pb__law_pair (B : Bl mg) (C__law_common : CalG P w K mg base 1 "_law_common" (spW (suR K mg c TLb) 2 f__law_common) [])  : Bdy P w K mg base 1 "_law_pair" s__law_pair ["_law_top", "_law_bottom", "_law_by"] (suR K mg c TLb) w__law_pair := fun f cdv A outer s H E hr quiet =>
      (xsCons (xsSet (i := 2) sc__law_pair.nd rfl (Or.inl rfl) (xCall0 (pe_cG quiet C__law_common hr (by decide) (by rfl) (xACons (xCB (pe_callB call_abs (by rfl) B.abs (by decide +kernel) (xWCons (xw (xV (pv 0))) xWNil)) pAbs) (xACons (xV (pv 1)) xANil)))))
      (xsOne (xsRet (xw (xTup (xACons (xBin op_fdivW pFdiv (xw (xV (pv 0))) (xw (xV (pv 2)))) (xACons (xBin op_fdivW pFdiv (xw (xV (pv 1))) (xw (xV (pv 2)))) xANil)))))))
theorem pc__law_pair (B : Bl mg) (DD : OwnDef K mg "_law_pair" s__law_pair) (C__law_common : CalG P w K mg base 1 "_law_common" (spW (suR K mg c TLb) 2 f__law_common) [])  : CalG P w K mg base 2 "_law_pair" (spW (suR K mg c TLb) 2 (wFn 3 w__law_pair)) [] :=
  calG_by DD sc__law_pair rfl (fun fd f F => F.binds (fun _ _ _ _ _ _ us hl => match us, hl with | [_, _], _ => rfl)) (pb__law_pair B C__law_common)
def f__law_pair : SpF := fun ds k _ => ∃ t b : Int, ds = [.int t, .int b] ∧ 0 ≤ t ∧ 0 < b ∧ t.natAbs < 2 ^ 200 ∧ b.natAbs < 2 ^ 200 ∧ k (prD (lowQ t b))
theorem ok__law_pair (ds k e) (ln : ds.length = 2) (h : f__law_pair ds k e) : wFn 3 w__law_pair ds k e := by
  obtain ⟨t, b, rfl, t0, b0, z1, z2, hk⟩ := h
  (simp only [a_wFn, a_wFnF, a_mapS, a_map0, List.replicate, a_appS, a_app0, a_lenS, a_len0, Nat.reduceAdd, Nat.reduceSub, Nat.zero_add]; unfold w__law_pair; simp only [a_wFn, a_wSeq, a_wNx, a_wBk, a_wCt, a_wEx, a_wSet, a_wOwn, a_wAsg, a_wPar, a_wRet, a_wRetN, a_wRetF, a_wRetFO, a_wParO, a_wFnF, a_wIfS, a_wApp, a_wExt, a_wFrz, a_wAugI, a_wSetIx, a_wAugIx, a_wFor, a_lookL0, a_lookLS, a_look0, a_lookS, a_lookO0, a_lookO1, a_lookOS, a_wV, a_wO, a_wC, a_wBin, a_wUn, a_wTst, a_wTru, a_wAnd, a_wOr, a_wNot, a_wAndV, a_wOrV, a_wNotV, a_wIf, a_wCh, a_wNil, a_wCons, a_wStar, a_wTup, a_wLst, a_wCal, a_wCall, a_wCall0, a_wCallK, a_wCallB, a_wGot, a_noX, a_wCh3, a_wAugC, gInI_i, a_wCalK, a_wSl, a_wNo, a_wPart, a_wFld, a_wMth, a_wM0, a_wM1, a_wgN, a_wgNil, a_wgCons, a_wgT, a_wLc, a_wYes, a_itK, itK_lst, itK_tup, itK_str, seqD_lst, seqD_tup, a_wRg1, a_wRg2, a_wRg3, a_wEnumU, a_wEnumL, a_wZipU, a_wRevU, a_wComb, wipeD, a_mapS, a_map0, a_lenS, a_len0, List.replicate, a_appS, a_app0, a_set0, a_setS, Nat.reduceAdd, Nat.reduceSub, Nat.zero_add, true_and, and_true, gAdd_i, gAdd_s, gAdd_l, gAdd_t, gCat_l, gSub_i, gMul_i, gMul_l, gMul_t, gFdiv_i, gMod_i, gPow_i, gLt_i, gLe_i, gGt_i, gGe_i, gLen_l, gLen_t, gLen_s, gAbs_i, gToInt_i, gToInt_b, gToBl_i, gToBl_b, gToTup_l, gToTup_t, gToLst_l, gToLst_t, gMax2_i, gMin2_i, gNeg_i, gSl_l, gSl_t, gSl_s, gSlL_l, gRevL_l, gIsN_n, gIsN_b, gIsN_i, gIsN_s, gIsN_l, gIsN_t, gNotN_n, gNotN_b, gNotN_i, gNotN_s, gNotN_l, gNotN_t, truD, gEq_int, gNe_int, Bool.not_true, Bool.not_false])
  rw [if_neg (show ¬ t < 0 by omega)]
  have g0 := gcd_pos (t := t) b0
  have gl : Nat.gcd t.natAbs b.natAbs ≤ b.natAbs := Nat.gcd_le_right _ (by omega)
  have dv : ∀ i : Int, CDivW i ((Nat.gcd t.natAbs b.natAbs : Nat) : Int) := fun i => wide_div (b := 200) (by omega) (by rw [Int.natAbs_natCast]; exact Nat.lt_of_le_of_lt gl z2) (by decide) (by decide)
  refine ⟨t, b, rfl, t0, b0, ?_⟩
  simp only [a_wFn, a_wSeq, a_wNx, a_wBk, a_wCt, a_wEx, a_wSet, a_wOwn, a_wAsg, a_wPar, a_wRet, a_wRetN, a_wRetF, a_wRetFO, a_wParO, a_wFnF, a_wIfS, a_wApp, a_wExt, a_wFrz, a_wAugI, a_wSetIx, a_wAugIx, a_wFor, a_lookL0, a_lookLS, a_look0, a_lookS, a_lookO0, a_lookO1, a_lookOS, a_wV, a_wO, a_wC, a_wBin, a_wUn, a_wTst, a_wTru, a_wAnd, a_wOr, a_wNot, a_wAndV, a_wOrV, a_wNotV, a_wIf, a_wCh, a_wNil, a_wCons, a_wStar, a_wTup, a_wLst, a_wCal, a_wCall, a_wCall0, a_wCallK, a_wCallB, a_wGot, a_noX, a_wCh3, a_wAugC, gInI_i, a_wCalK, a_wSl, a_wNo, a_wPart, a_wFld, a_wMth, a_wM0, a_wM1, a_wgN, a_wgNil, a_wgCons, a_wgT, a_wLc, a_wYes, a_itK, itK_lst, itK_tup, itK_str, seqD_lst, seqD_tup, a_wRg1, a_wRg2, a_wRg3, a_wEnumU, a_wEnumL, a_wZipU, a_wRevU, a_wComb, wipeD, a_mapS, a_map0, a_lenS, a_len0, List.replicate, a_appS, a_app0, a_set0, a_setS, Nat.reduceAdd, Nat.reduceSub, Nat.zero_add, true_and, and_true, gAdd_i, gAdd_s, gAdd_l, gAdd_t, gCat_l, gSub_i, gMul_i, gMul_l, gMul_t, gFdiv_i, gMod_i, gPow_i, gLt_i, gLe_i, gGt_i, gGe_i, gLen_l, gLen_t, gLen_s, gAbs_i, gToInt_i, gToInt_b, gToBl_i, gToBl_b, gToTup_l, gToTup_t, gToLst_l, gToLst_t, gMax2_i, gMin2_i, gNeg_i, gSl_l, gSl_t, gSl_s, gSlL_l, gRevL_l, gIsN_n, gIsN_b, gIsN_i, gIsN_s, gIsN_l, gIsN_t, gNotN_n, gNotN_b, gNotN_i, gNotN_s, gNotN_l, gNotN_t, truD, gEq_int, gNe_int, Bool.not_true, Bool.not_false]
  exact ⟨dv t, dv b, by decide, hk⟩
theorem cs__law_pair (B : Bl mg) (DD : OwnDef K mg "_law_pair" s__law_pair) (C__law_common : CalG P w K mg base 1 "_law_common" (spW (suR K mg c TLb) 2 f__law_common) [])  : CalG P w K mg base 2 "_law_pair" (spW (suR K mg c TLb) 2 f__law_pair) [] :=
  (pc__law_pair B DD C__law_common).imp (spW_mono fun ds k e ln h => ok__law_pair ds k e ln h)
def w__law_splits (f__law_splits : SpF) : WS := (wSeq (wIfS (wTst (wBin gEq (wV 0) (wC (.int 0)))) (wRetF (wIf (wTst (wBin gEq (wV 1) (wC (.int 0)))) (wLst (wCons (wLst wNil) wNil)) (wLst wNil))) wNx)
      (wSeq (wOwn 3 (wLst wNil))
      (wSeq (wFor (wRg3 (wCal gMin2 (wCons (wV 1) (wCons (wV 2) wNil))) (wUn gNeg (wC (.int 1))) (wUn gNeg (wC (.int 1)))) (wgN 4)
      (wIfS (wTst (wBin gGe (wBin LW.gMul (wV 4) (wV 0)) (wV 1))) (wOwn 3 (wBin gCat (wO 3) (wLc [5] (wIt (wCall0 3 f__law_splits (wCons (wBin LW.gSub (wV 0) (wC (.int 1))) (wCons (wBin LW.gSub (wV 1) (wV 4)) (wCons (wV 4) wNil))))) (wgN 5) wYes (wBin gCat (wLst (wCons (wV 4) wNil)) (wV 5))))) wNx))
      (wRetFO 3))))
theorem pb__law_splits {lv : Nat} {f_rec : SpF} (B : Bl mg)  (C__law_splits : CalG P w K mg base lv "_law_splits" (spWF (suR K mg c TLb) 3 f_rec) [])  : Bdy P w K mg base lv "_law_splits" s__law_splits ["_law_size", "_law_many", "_law_most", "_law_found", "_law_first", "_law_rest"] (suR K mg c TLb) (w__law_splits f_rec) := fun f cdv A outer s H E hr quiet =>
      (xsCons (xsIf (xTCmp (op_eqD hr.units) pEq (xw (xV (pv 0))) (xw (xInt pe_int)) (nomark _)) (xsOne (xsRetF (xIfF (xTCmp (op_eqD hr.units) pEq (xw (xV (pv 1))) (xw (xInt pe_int)) (nomark _)) (xLst (xACons (xf (xLst xANil)) xANil)) (xLst xANil)))) xsNil)
      (xsCons (xsOwn (i := 3) sc__law_splits.nd rfl (Or.inl rfl) (xLst xANil))
      (xsCons (xsFor PassesOwn.never (by rfl) (xRg3 (by rfl) B.range (xCB (pe_callB (call_min2 rfl) (by rfl) B.min (by decide +kernel) (xWCons (xw (xV (pv 1))) (xWCons (xw (xV (pv 2))) xWNil))) pMin2) (xNeg (xw (xInt pe_int))) (xNeg (xw (xInt pe_int)))) (xgN (pg_name (i := 4) sc__law_splits.nd rfl (Or.inr rfl)))
      (xsOne (xsIf (xTCmp op_ge pGe (xw (xBin op_mulU pMul (xw (xV (pv 4))) (xw (xV (pv 0))))) (xw (xV (pv 1))) (nomark _)) (xsOne (xsOwn (i := 3) sc__law_splits.nd rfl (Or.inl rfl) (xBinF op_cat fCat (xO (pv 3)) (xw (xf (xLc (own := [("_law_rest", 5)]) (by rfl) sc__law_splits.nd (xItC (xw (xf (xCallF (pe_cG quiet C__law_splits hr (Nat.le_refl _) (by rfl) (xACons (xBin op_sub pSub (xw (xV (pv 0))) (xw (xInt pe_int))) (xACons (xBin op_sub pSub (xw (xV (pv 1))) (xw (xV (pv 4)))) (xACons (xV (pv 4)) xANil)))))))) (blkOk_by (own := [("_law_rest", 5)]) (N := ["_law_size", "_law_many", "_law_most", "_law_found", "_law_first", "_law_rest"]) (sc := defScope s__law_splits) (by decide +kernel)) (fun _ _ _ _ _ => (xgN (pg_name (i := 5) sc__law_splits.nd rfl (by first | exact Or.inl rfl | exact Or.inr rfl)))) (fun _ _ _ _ _ => xPts0) (fun _ _ _ _ _ => (xf (xBinF op_cat fCat (xw (xf (xLst (xACons (xV (pv 4)) xANil)))) (xw (xV (pv 5)))))) (by decide))))))) xsNil)))
      (xsOne (xsRetFO (pv 3))))))
theorem pc__law_splits {lv : Nat} {f_rec : SpF} (B : Bl mg) (DD : OwnDef K mg "_law_splits" s__law_splits)  (C__law_splits : CalG P w K mg base lv "_law_splits" (spWF (suR K mg c TLb) 3 f_rec) [])  : CalG P w K mg base (lv + 1) "_law_splits" (spWF (suR K mg c TLb) 3 (wFnF 6 (w__law_splits f_rec))) [] :=
  calGF_by DD sc__law_splits rfl (fun fd f F => F.binds (fun _ _ _ _ _ _ us hl => match us, hl with | [_, _, _], _ => rfl)) (pb__law_splits B C__law_splits)
theorem pn__law_splits {lv : Nat} (DD : OwnDef K mg "_law_splits" s__law_splits) : CalG P w K mg base lv "_law_splits" (spWF (suR K mg c TLb) 3 fun _ _ _ => False) [] := calGF_never (ps := ["_law_size", "_law_many", "_law_most"]) DD (fun fd f F => F.binds (fun _ _ _ _ _ _ us hl => match us, hl with | [_, _, _], _ => rfl))
def f__law_splitsS (s : Nat) : SpF := fun ds k _ => ∃ m M : Nat, ds = [.int (s : Nat), .int (m : Nat), .int (M : Nat)] ∧ m ≤ 1000 ∧ M ≤ 10 ^ 18 ∧ s ≤ 12 ∧ (splitsL s m M).length ≤ 100000 ∧ k (.lst ((splitsL s m M).map fun X => .lst (natsD X)))
theorem ok__law_splits0 (f_rec : SpF) (ds k e) (ln : ds.length = 3) (h : f__law_splitsS 0 ds k e) : wFnF 6 (w__law_splits f_rec) ds k e := by
  obtain ⟨m, M, rfl, m1, M1, s1, lm, hk⟩ := h
  (simp only [a_wFn, a_wFnF, a_mapS, a_map0, List.replicate, a_appS, a_app0, a_lenS, a_len0, Nat.reduceAdd, Nat.reduceSub, Nat.zero_add]; unfold w__law_splits; simp only [a_wFn, a_wSeq, a_wNx, a_wBk, a_wCt, a_wEx, a_wSet, a_wOwn, a_wAsg, a_wPar, a_wRet, a_wRetN, a_wRetF, a_wRetFO, a_wParO, a_wFnF, a_wIfS, a_wApp, a_wExt, a_wFrz, a_wAugI, a_wSetIx, a_wAugIx, a_wFor, a_lookL0, a_lookLS, a_look0, a_lookS, a_lookO0, a_lookO1, a_lookOS, a_wV, a_wO, a_wC, a_wBin, a_wUn, a_wTst, a_wTru, a_wAnd, a_wOr, a_wNot, a_wAndV, a_wOrV, a_wNotV, a_wIf, a_wCh, a_wNil, a_wCons, a_wStar, a_wTup, a_wLst, a_wCal, a_wCall, a_wCall0, a_wCallK, a_wCallB, a_wGot, a_noX, a_wCh3, a_wAugC, gInI_i, a_wCalK, a_wSl, a_wNo, a_wPart, a_wFld, a_wMth, a_wM0, a_wM1, a_wgN, a_wgNil, a_wgCons, a_wgT, a_wLc, a_wYes, a_itK, itK_lst, itK_tup, itK_str, seqD_lst, seqD_tup, a_wRg1, a_wRg2, a_wRg3, a_wEnumU, a_wEnumL, a_wZipU, a_wRevU, a_wComb, wipeD, a_mapS, a_map0, a_lenS, a_len0, List.replicate, a_appS, a_app0, a_set0, a_setS, Nat.reduceAdd, Nat.reduceSub, Nat.zero_add, true_and, and_true, gAdd_i, gAdd_s, gAdd_l, gAdd_t, gCat_l, gSub_i, gMul_i, gMul_l, gMul_t, gFdiv_i, gMod_i, gPow_i, gLt_i, gLe_i, gGt_i, gGe_i, gLen_l, gLen_t, gLen_s, gAbs_i, gToInt_i, gToInt_b, gToBl_i, gToBl_b, gToTup_l, gToTup_t, gToLst_l, gToLst_t, gMax2_i, gMin2_i, gNeg_i, gSl_l, gSl_t, gSl_s, gSlL_l, gRevL_l, gIsN_n, gIsN_b, gIsN_i, gIsN_s, gIsN_l, gIsN_t, gNotN_n, gNotN_b, gNotN_i, gNotN_s, gNotN_l, gNotN_t, truD, gEq_int, gNe_int, Bool.not_true, Bool.not_false])
  rw [decide_eq_true (show ((0 : Nat) : Int) = 0 from rfl)]
  rw [splitsL] at hk
  by_cases m0 : m = 0
  · rw [decide_eq_true (show ((m : Nat) : Int) = 0 by omega)]
    rw [if_pos m0] at hk
    exact ⟨by decide, by decide, hk⟩
  · rw [decide_eq_false (show ¬ ((m : Nat) : Int) = 0 by omega)]
    rw [if_neg m0] at hk
    exact ⟨by decide, hk⟩
theorem ok__law_splitsS (f_rec : SpF) (s : Nat) (hr : ∀ ds k e, f__law_splitsS s ds k e → f_rec ds k e) (ds k e) (ln : ds.length = 3) (h : f__law_splitsS (s + 1) ds k e) : wFnF 6 (w__law_splits f_rec) ds k e := by
  obtain ⟨m, M, rfl, m1, M1, s1, lm, hk⟩ := h
  have t18 : (10 : Nat) ^ 18 = 1000000000000000000 := by decide
  rw [t18] at M1
  rw [splits_succ] at lm hk
  (simp only [a_wFn, a_wFnF, a_mapS, a_map0, List.replicate, a_appS, a_app0, a_lenS, a_len0, Nat.reduceAdd, Nat.reduceSub, Nat.zero_add]; unfold w__law_splits; simp only [a_wFn, a_wSeq, a_wNx, a_wBk, a_wCt, a_wEx, a_wSet, a_wOwn, a_wAsg, a_wPar, a_wRet, a_wRetN, a_wRetF, a_wRetFO, a_wParO, a_wFnF, a_wIfS, a_wApp, a_wExt, a_wFrz, a_wAugI, a_wSetIx, a_wAugIx, a_wFor, a_lookL0, a_lookLS, a_look0, a_lookS, a_lookO0, a_lookO1, a_lookOS, a_wV, a_wO, a_wC, a_wBin, a_wUn, a_wTst, a_wTru, a_wAnd, a_wOr, a_wNot, a_wAndV, a_wOrV, a_wNotV, a_wIf, a_wCh, a_wNil, a_wCons, a_wStar, a_wTup, a_wLst, a_wCal, a_wCall, a_wCall0, a_wCallK, a_wCallB, a_wGot, a_noX, a_wCh3, a_wAugC, gInI_i, a_wCalK, a_wSl, a_wNo, a_wPart, a_wFld, a_wMth, a_wM0, a_wM1, a_wgN, a_wgNil, a_wgCons, a_wgT, a_wLc, a_wYes, a_itK, itK_lst, itK_tup, itK_str, seqD_lst, seqD_tup, a_wRg1, a_wRg2, a_wRg3, a_wEnumU, a_wEnumL, a_wZipU, a_wRevU, a_wComb, wipeD, a_mapS, a_map0, a_lenS, a_len0, List.replicate, a_appS, a_app0, a_set0, a_setS, Nat.reduceAdd, Nat.reduceSub, Nat.zero_add, true_and, and_true, gAdd_i, gAdd_s, gAdd_l, gAdd_t, gCat_l, gSub_i, gMul_i, gMul_l, gMul_t, gFdiv_i, gMod_i, gPow_i, gLt_i, gLe_i, gGt_i, gGe_i, gLen_l, gLen_t, gLen_s, gAbs_i, gToInt_i, gToInt_b, gToBl_i, gToBl_b, gToTup_l, gToTup_t, gToLst_l, gToLst_t, gMax2_i, gMin2_i, gNeg_i, gSl_l, gSl_t, gSl_s, gSlL_l, gRevL_l, gIsN_n, gIsN_b, gIsN_i, gIsN_s, gIsN_l, gIsN_t, gNotN_n, gNotN_b, gNotN_i, gNotN_s, gNotN_l, gNotN_t, truD, gEq_int, gNe_int, Bool.not_true, Bool.not_false])
  rw [decide_eq_false (show ¬ (((s + 1 : Nat) : Int) = 0) by omega)]
  obtain ⟨top, et, tm, tM, e2⟩ : ∃ top : Nat, (if (M : Int) < (m : Int) then (M : Int) else (m : Int)) = (top : Int) ∧ top ≤ m ∧ top ≤ M ∧ min m M = top := ⟨min m M, by split <;> omega, by omega, by omega, rfl⟩
  rw [e2] at lm hk
  rw [et]
  refine ⟨by decide, top + 1, ?_, ?_⟩
  · have z := RgC.neg (i := (top : Int)) (j := -1) (by omega) (by omega) (by omega) (by omega)
    rwa [show ((top : Int) - -1).toNat = top + 1 by omega] at z
  refine forL_by (fun i δ => ∃ a b, δ = [some (.val (.int ((s + 1 : Nat) : Int))), some (.val (.int (m : Int))), some (.val (.int (M : Int))), some (.own ((splitsB s m top i).map fun X => .lst (natsD X))), a, b]) ⟨_, _, rfl⟩ (fun i x δ K hx hI hK => ?_) fun δ hI => ?_
  · obtain ⟨a, b, rfl⟩ := hI
    obtain ⟨hi, rfl⟩ := intsC_at hx
    have up := splitsB_le s m top (i + 1) (top + 1) (by omega)
    rw [splitsB_succ, List.length_append] at up
    simp only [a_wFn, a_wSeq, a_wNx, a_wBk, a_wCt, a_wEx, a_wSet, a_wOwn, a_wAsg, a_wPar, a_wRet, a_wRetN, a_wRetF, a_wRetFO, a_wParO, a_wFnF, a_wIfS, a_wApp, a_wExt, a_wFrz, a_wAugI, a_wSetIx, a_wAugIx, a_wFor, a_lookL0, a_lookLS, a_look0, a_lookS, a_lookO0, a_lookO1, a_lookOS, a_wV, a_wO, a_wC, a_wBin, a_wUn, a_wTst, a_wTru, a_wAnd, a_wOr, a_wNot, a_wAndV, a_wOrV, a_wNotV, a_wIf, a_wCh, a_wNil, a_wCons, a_wStar, a_wTup, a_wLst, a_wCal, a_wCall, a_wCall0, a_wCallK, a_wCallB, a_wGot, a_noX, a_wCh3, a_wAugC, gInI_i, a_wCalK, a_wSl, a_wNo, a_wPart, a_wFld, a_wMth, a_wM0, a_wM1, a_wgN, a_wgNil, a_wgCons, a_wgT, a_wLc, a_wYes, a_itK, itK_lst, itK_tup, itK_str, seqD_lst, seqD_tup, a_wRg1, a_wRg2, a_wRg3, a_wEnumU, a_wEnumL, a_wZipU, a_wRevU, a_wComb, wipeD, a_mapS, a_map0, a_lenS, a_len0, List.replicate, a_appS, a_app0, a_set0, a_setS, Nat.reduceAdd, Nat.reduceSub, Nat.zero_add, true_and, and_true, gAdd_i, gAdd_s, gAdd_l, gAdd_t, gCat_l, gSub_i, gMul_i, gMul_l, gMul_t, gFdiv_i, gMod_i, gPow_i, gLt_i, gLe_i, gGt_i, gGe_i, gLen_l, gLen_t, gLen_s, gAbs_i, gToInt_i, gToInt_b, gToBl_i, gToBl_b, gToTup_l, gToTup_t, gToLst_l, gToLst_t, gMax2_i, gMin2_i, gNeg_i, gSl_l, gSl_t, gSl_s, gSlL_l, gRevL_l, gIsN_n, gIsN_b, gIsN_i, gIsN_s, gIsN_l, gIsN_t, gNotN_n, gNotN_b, gNotN_i, gNotN_s, gNotN_l, gNotN_t, truD, gEq_int, gNe_int, Bool.not_true, Bool.not_false]
    rw [show (top : Int) + (i : Int) * -1 = ((top - i : Nat) : Int) by omega]
    have eB := splitsB_succ s m top i
    have fm : top - i ≤ 1000 := by omega
    have fM : top - i ≤ M := by omega
    have fm2 : top - i ≤ m := by omega
    generalize top - i = f at *
    refine ⟨wide_mul (a := 11) (b := 5) (by omega) (by omega) (by decide) (by decide) (by decide), ?_⟩
    have em : ((m : Int) ≤ (f : Int) * ((s + 1 : Nat) : Int)) ↔ m ≤ f * (s + 1) := by rw [← Int.natCast_mul]; omega
    by_cases le : m ≤ f * (s + 1)
    · rw [decide_eq_true (em.mpr le)]
      rw [if_pos le] at up eB
      rw [List.length_map] at up
      refine hr _ _ _ ⟨m - f, f, by rw [show ((s + 1 : Nat) : Int) - 1 = (s : Int) by omega, show (m : Int) - (f : Int) = ((m - f : Nat) : Int) by omega], by omega, by rw [t18]; omega, by omega, by omega, ?_⟩
      show _ ≤ _ ∧ _
      refine ⟨by rw [List.length_map]; omega, ?_⟩
      refine lcL_map (fun d => match d with | .lst l => .lst (.int (f : Nat) :: l) | _ => .non) (fun d K2 hd hK2 => ?_) ?_
      · obtain ⟨r, hr, rfl⟩ := List.mem_map.mp hd
        have rl := ((mem_splits _ _ _ _).mp hr).1
        refine ⟨by decide, ?_⟩
        simp only [a_wFn, a_wSeq, a_wNx, a_wBk, a_wCt, a_wEx, a_wSet, a_wOwn, a_wAsg, a_wPar, a_wRet, a_wRetN, a_wRetF, a_wRetFO, a_wParO, a_wFnF, a_wIfS, a_wApp, a_wExt, a_wFrz, a_wAugI, a_wSetIx, a_wAugIx, a_wFor, a_lookL0, a_lookLS, a_look0, a_lookS, a_lookO0, a_lookO1, a_lookOS, a_wV, a_wO, a_wC, a_wBin, a_wUn, a_wTst, a_wTru, a_wAnd, a_wOr, a_wNot, a_wAndV, a_wOrV, a_wNotV, a_wIf, a_wCh, a_wNil, a_wCons, a_wStar, a_wTup, a_wLst, a_wCal, a_wCall, a_wCall0, a_wCallK, a_wCallB, a_wGot, a_noX, a_wCh3, a_wAugC, gInI_i, a_wCalK, a_wSl, a_wNo, a_wPart, a_wFld, a_wMth, a_wM0, a_wM1, a_wgN, a_wgNil, a_wgCons, a_wgT, a_wLc, a_wYes, a_itK, itK_lst, itK_tup, itK_str, seqD_lst, seqD_tup, a_wRg1, a_wRg2, a_wRg3, a_wEnumU, a_wEnumL, a_wZipU, a_wRevU, a_wComb, wipeD, a_mapS, a_map0, a_lenS, a_len0, List.replicate, a_appS, a_app0, a_set0, a_setS, Nat.reduceAdd, Nat.reduceSub, Nat.zero_add, true_and, and_true, gAdd_i, gAdd_s, gAdd_l, gAdd_t, gCat_l, gSub_i, gMul_i, gMul_l, gMul_t, gFdiv_i, gMod_i, gPow_i, gLt_i, gLe_i, gGt_i, gGe_i, gLen_l, gLen_t, gLen_s, gAbs_i, gToInt_i, gToInt_b, gToBl_i, gToBl_b, gToTup_l, gToTup_t, gToLst_l, gToLst_t, gMax2_i, gMin2_i, gNeg_i, gSl_l, gSl_t, gSl_s, gSlL_l, gRevL_l, gIsN_n, gIsN_b, gIsN_i, gIsN_s, gIsN_l, gIsN_t, gNotN_n, gNotN_b, gNotN_i, gNotN_s, gNotN_l, gNotN_t, truD, gEq_int, gNe_int, Bool.not_true, Bool.not_false]
        exact ⟨by unfold natsD; rw [List.length_map, sizeLine_eq]; omega, hK2⟩
      · have e3 : ((splitsB s m top i).map fun X => Dt.lst (natsD X)) ++ ((splitsL s (m - f) f).map fun X => Dt.lst (natsD X)).map (fun d => match d with | .lst l => .lst (.int (f : Nat) :: l) | _ => .non) = (splitsB s m top (i + 1)).map fun X => Dt.lst (natsD X) := by
          rw [eB, List.map_append, List.map_map, List.map_map]
          rfl
        rw [e3]
        exact ⟨by rw [List.length_map, List.length_map, List.length_map, sizeLine_eq]; omega, hK _ ⟨_, _, rfl⟩⟩
    · rw [decide_eq_false fun z => le (em.mp z)]
      rw [if_neg le, List.append_nil] at eB
      rw [← eB]
      exact hK _ ⟨_, _, rfl⟩
  · obtain ⟨a, b, rfl⟩ := hI
    rw [intsC_len]
    simp only [a_wFn, a_wSeq, a_wNx, a_wBk, a_wCt, a_wEx, a_wSet, a_wOwn, a_wAsg, a_wPar, a_wRet, a_wRetN, a_wRetF, a_wRetFO, a_wParO, a_wFnF, a_wIfS, a_wApp, a_wExt, a_wFrz, a_wAugI, a_wSetIx, a_wAugIx, a_wFor, a_lookL0, a_lookLS, a_look0, a_lookS, a_lookO0, a_lookO1, a_lookOS, a_wV, a_wO, a_wC, a_wBin, a_wUn, a_wTst, a_wTru, a_wAnd, a_wOr, a_wNot, a_wAndV, a_wOrV, a_wNotV, a_wIf, a_wCh, a_wNil, a_wCons, a_wStar, a_wTup, a_wLst, a_wCal, a_wCall, a_wCall0, a_wCallK, a_wCallB, a_wGot, a_noX, a_wCh3, a_wAugC, gInI_i, a_wCalK, a_wSl, a_wNo, a_wPart, a_wFld, a_wMth, a_wM0, a_wM1, a_wgN, a_wgNil, a_wgCons, a_wgT, a_wLc, a_wYes, a_itK, itK_lst, itK_tup, itK_str, seqD_lst, seqD_tup, a_wRg1, a_wRg2, a_wRg3, a_wEnumU, a_wEnumL, a_wZipU, a_wRevU, a_wComb, wipeD, a_mapS, a_map0, a_lenS, a_len0, List.replicate, a_appS, a_app0, a_set0, a_setS, Nat.reduceAdd, Nat.reduceSub, Nat.zero_add, true_and, and_true, gAdd_i, gAdd_s, gAdd_l, gAdd_t, gCat_l, gSub_i, gMul_i, gMul_l, gMul_t, gFdiv_i, gMod_i, gPow_i, gLt_i, gLe_i, gGt_i, gGe_i, gLen_l, gLen_t, gLen_s, gAbs_i, gToInt_i, gToInt_b, gToBl_i, gToBl_b, gToTup_l, gToTup_t, gToLst_l, gToLst_t, gMax2_i, gMin2_i, gNeg_i, gSl_l, gSl_t, gSl_s, gSlL_l, gRevL_l, gIsN_n, gIsN_b, gIsN_i, gIsN_s, gIsN_l, gIsN_t, gNotN_n, gNotN_b, gNotN_i, gNotN_s, gNotN_l, gNotN_t, truD, gEq_int, gNe_int, Bool.not_true, Bool.not_false]
    exact hk
/-- .. for up to so many claimants -/
def f__law_splitsU (n : Nat) : SpF := fun ds k e => ∃ s, s < n ∧ f__law_splitsS s ds k e
theorem ok__law_splitsU (n : Nat) (ds k e) (ln : ds.length = 3) (h : f__law_splitsU (n + 1) ds k e) : wFnF 6 (w__law_splits (f__law_splitsU n)) ds k e := by
  obtain ⟨s, sn, h⟩ := h
  match s, sn, h with
  | 0, _, h => exact ok__law_splits0 _ ds k e ln h
  | s + 1, sn, h => exact ok__law_splitsS _ s (fun ds k e h2 => ⟨s, by omega, h2⟩) ds k e ln h
theorem splits_of (B : Bl mg) (DD : OwnDef K mg "_law_splits" s__law_splits) : ∀ n, n < 13 → CalG P w K mg base n "_law_splits" (spWF (suR K mg c TLb) 3 (f__law_splitsU n)) []
  | 0, _ => (pn__law_splits DD).imp (spWF_mono fun ds k e _ h => by obtain ⟨s, _, _⟩ := h; omega)
  | n + 1, h => (pc__law_splits B DD (splits_of B DD n (by omega))).imp (spWF_mono fun ds k e ln h2 => ok__law_splitsU n ds k e ln h2)
def f__law_splits : SpF := f__law_splitsU 12
theorem cs__law_splits (B : Bl mg) (DD : OwnDef K mg "_law_splits" s__law_splits) : CalG P w K mg base 12 "_law_splits" (spWF (suR K mg c TLb) 3 f__law_splits) [] := splits_of B DD 12 (by omega)
def w__law_can : WS := (wSeq (wIfS (wTst (wBin gGt (wCall0 2 f__law_at (wCons (wV 0) (wCons (wC (.int 0)) wNil))) (wC (.int 0)))) (wRet (wC (.bl true))) wNx)
      (wRet (wIf (wTst (wBin gEq (wV 1) (wC (.int 0)))) (wBin gLt (wCal gMax (wCons (wV 2) wNil)) (wC (.int 2))) (wOrV (wBin gGt (wCal gMin (wCons (wV 2) wNil)) (wC (.int 0))) (wAndV (wBin gEq (wV 1) (wC (.int 1))) (wBin gLt (wCal gMax (wCons (wV 2) wNil)) (wC (.int 2))))))))
theorem pb__law_can (B : Bl mg) (C__law_at : CalG P w K mg base 1 "_law_at" (spW (suR K mg c TLb) 2 f__law_at) [])  : Bdy P w K mg base 1 "_law_can" s__law_can ["_law_own", "_law_mine", "_law_split"] (suR K mg c TLb) w__law_can := fun f cdv A outer s H E hr quiet =>
      (xsCons (xsIf (xTCmp op_gt pGt (xw (xCall0 (pe_cG quiet C__law_at hr (by decide) (by rfl) (xACons (xV (pv 0)) (xACons (xInt pe_int) xANil))))) (xw (xInt pe_int)) (nomark _)) (xsOne (xsRet (xw (xBl pe_bl)))) xsNil)
      (xsOne (xsRet (xw (xIf (xTCmp (op_eqD hr.units) pEq (xw (xV (pv 1))) (xw (xInt pe_int)) (nomark _)) (xCmp op_lt pLt (xw (xCB (pe_callB (cr_max rfl) (by rfl) B.max (by decide +kernel) (xWCons (xw (xV (pv 2))) xWNil)) pMax)) (xw (xInt pe_int)) (nomark _)) (xOr (xCmp op_gt pGt (xw (xCB (pe_callB (cr_min rfl) (by rfl) B.min (by decide +kernel) (xWCons (xw (xV (pv 2))) xWNil)) pMin)) (xw (xInt pe_int)) (nomark _)) (xOne (xAnd (xCmp (op_eqD hr.units) pEq (xw (xV (pv 1))) (xw (xInt pe_int)) (nomark _)) (xOne (xCmp op_lt pLt (xw (xCB (pe_callB (cr_max rfl) (by rfl) B.max (by decide +kernel) (xWCons (xw (xV (pv 2))) xWNil)) pMax)) (xw (xInt pe_int)) (nomark _)))))))))))
theorem pc__law_can (B : Bl mg) (DD : OwnDef K mg "_law_can" s__law_can) (C__law_at : CalG P w K mg base 1 "_law_at" (spW (suR K mg c TLb) 2 f__law_at) [])  : CalG P w K mg base 2 "_law_can" (spW (suR K mg c TLb) 3 (wFn 3 w__law_can)) [] :=
  calG_by DD sc__law_can rfl (fun fd f F => F.binds (fun _ _ _ _ _ _ us hl => match us, hl with | [_, _, _], _ => rfl)) (pb__law_can B C__law_at)
def f__law_can : SpF := fun ds k _ => ∃ b ms s, ∃ (mine : Nat) (X : List Nat), ds = [irP b ms s, .int (mine : Nat), .lst (natsD X)] ∧ IR b ms s ∧ X ≠ [] ∧ k (.bl (canB (atM b ms s) mine X))
theorem natAbs_200 {b s : Int} {ms : List Int} (ir : IR b ms s) : b.natAbs < 2 ^ 200 := by
  have b0 := ir.b0
  have b1 := ir.b1
  have t25 : (10 : Int) ^ 25 = 10000000000000000000000000 := by decide
  exact Nat.lt_trans (show b.natAbs < 2 ^ 90 by rw [t25] at b1; omega) (by decide)
theorem max_nats {X : List Nat} (ne : X ≠ []) {k : Dt → Prop} (h : ∀ m : Nat, m ∈ X → (∀ x ∈ X, x ≤ m) → k (.int (m : Nat))) : gMax [.lst (natsD X)] k := by
  refine ⟨_, intsOf_nats X, fun e => ne (List.map_eq_nil_iff.mp e), fun m mm mle => ?_⟩
  obtain ⟨x, hx, rfl⟩ := List.mem_map.mp mm
  refine h x hx fun y hy => ?_
  have := mle _ (List.mem_map.mpr ⟨y, hy, rfl⟩)
  omega
theorem min_nats {X : List Nat} (ne : X ≠ []) {k : Dt → Prop} (h : ∀ m : Nat, m ∈ X → (∀ x ∈ X, m ≤ x) → k (.int (m : Nat))) : gMin [.lst (natsD X)] k := by
  refine ⟨_, intsOf_nats X, fun e => ne (List.map_eq_nil_iff.mp e), fun m mm mle => ?_⟩
  obtain ⟨x, hx, rfl⟩ := List.mem_map.mp mm
  refine h x hx fun y hy => ?_
  have := mle _ (List.mem_map.mpr ⟨y, hy, rfl⟩)
  omega
theorem ok__law_can (ds k e) (ln : ds.length = 3) (h : f__law_can ds k e) : wFn 3 w__law_can ds k e := by
  obtain ⟨b, ms, s, mine, X, rfl, ir, ne, hk⟩ := h
  (simp only [a_wFn, a_wFnF, a_mapS, a_map0, List.replicate, a_appS, a_app0, a_lenS, a_len0, Nat.reduceAdd, Nat.reduceSub, Nat.zero_add]; unfold w__law_can; simp only [a_wFn, a_wSeq, a_wNx, a_wBk, a_wCt, a_wEx, a_wSet, a_wOwn, a_wAsg, a_wPar, a_wRet, a_wRetN, a_wRetF, a_wRetFO, a_wParO, a_wFnF, a_wIfS, a_wApp, a_wExt, a_wFrz, a_wAugI, a_wSetIx, a_wAugIx, a_wFor, a_lookL0, a_lookLS, a_look0, a_lookS, a_lookO0, a_lookO1, a_lookOS, a_wV, a_wO, a_wC, a_wBin, a_wUn, a_wTst, a_wTru, a_wAnd, a_wOr, a_wNot, a_wAndV, a_wOrV, a_wNotV, a_wIf, a_wCh, a_wNil, a_wCons, a_wStar, a_wTup, a_wLst, a_wCal, a_wCall, a_wCall0, a_wCallK, a_wCallB, a_wGot, a_noX, a_wCh3, a_wAugC, gInI_i, a_wCalK, a_wSl, a_wNo, a_wPart, a_wFld, a_wMth, a_wM0, a_wM1, a_wgN, a_wgNil, a_wgCons, a_wgT, a_wLc, a_wYes, a_itK, itK_lst, itK_tup, itK_str, seqD_lst, seqD_tup, a_wRg1, a_wRg2, a_wRg3, a_wEnumU, a_wEnumL, a_wZipU, a_wRevU, a_wComb, wipeD, a_mapS, a_map0, a_lenS, a_len0, List.replicate, a_appS, a_app0, a_set0, a_setS, Nat.reduceAdd, Nat.reduceSub, Nat.zero_add, true_and, and_true, gAdd_i, gAdd_s, gAdd_l, gAdd_t, gCat_l, gSub_i, gMul_i, gMul_l, gMul_t, gFdiv_i, gMod_i, gPow_i, gLt_i, gLe_i, gGt_i, gGe_i, gLen_l, gLen_t, gLen_s, gAbs_i, gToInt_i, gToInt_b, gToBl_i, gToBl_b, gToTup_l, gToTup_t, gToLst_l, gToLst_t, gMax2_i, gMin2_i, gNeg_i, gSl_l, gSl_t, gSl_s, gSlL_l, gRevL_l, gIsN_n, gIsN_b, gIsN_i, gIsN_s, gIsN_l, gIsN_t, gNotN_n, gNotN_b, gNotN_i, gNotN_s, gNotN_l, gNotN_t, truD, gEq_int, gNe_int, Bool.not_true, Bool.not_false])
  refine ⟨b, ms, s, 0, rfl, natAbs_200 ir, by decide, ?_⟩
  simp only [a_wFn, a_wSeq, a_wNx, a_wBk, a_wCt, a_wEx, a_wSet, a_wOwn, a_wAsg, a_wPar, a_wRet, a_wRetN, a_wRetF, a_wRetFO, a_wParO, a_wFnF, a_wIfS, a_wApp, a_wExt, a_wFrz, a_wAugI, a_wSetIx, a_wAugIx, a_wFor, a_lookL0, a_lookLS, a_look0, a_lookS, a_lookO0, a_lookO1, a_lookOS, a_wV, a_wO, a_wC, a_wBin, a_wUn, a_wTst, a_wTru, a_wAnd, a_wOr, a_wNot, a_wAndV, a_wOrV, a_wNotV, a_wIf, a_wCh, a_wNil, a_wCons, a_wStar, a_wTup, a_wLst, a_wCal, a_wCall, a_wCall0, a_wCallK, a_wCallB, a_wGot, a_noX, a_wCh3, a_wAugC, gInI_i, a_wCalK, a_wSl, a_wNo, a_wPart, a_wFld, a_wMth, a_wM0, a_wM1, a_wgN, a_wgNil, a_wgCons, a_wgT, a_wLc, a_wYes, a_itK, itK_lst, itK_tup, itK_str, seqD_lst, seqD_tup, a_wRg1, a_wRg2, a_wRg3, a_wEnumU, a_wEnumL, a_wZipU, a_wRevU, a_wComb, wipeD, a_mapS, a_map0, a_lenS, a_len0, List.replicate, a_appS, a_app0, a_set0, a_setS, Nat.reduceAdd, Nat.reduceSub, Nat.zero_add, true_and, and_true, gAdd_i, gAdd_s, gAdd_l, gAdd_t, gCat_l, gSub_i, gMul_i, gMul_l, gMul_t, gFdiv_i, gMod_i, gPow_i, gLt_i, gLe_i, gGt_i, gGe_i, gLen_l, gLen_t, gLen_s, gAbs_i, gToInt_i, gToInt_b, gToBl_i, gToBl_b, gToTup_l, gToTup_t, gToLst_l, gToLst_t, gMax2_i, gMin2_i, gNeg_i, gSl_l, gSl_t, gSl_s, gSlL_l, gRevL_l, gIsN_n, gIsN_b, gIsN_i, gIsN_s, gIsN_l, gIsN_t, gNotN_n, gNotN_b, gNotN_i, gNotN_s, gNotN_l, gNotN_t, truD, gEq_int, gNe_int, Bool.not_true, Bool.not_false]
  by_cases a0 : 0 < atM b ms s 0
  · rw [decide_eq_true (show atM b ms s 0 > 0 from a0)]
    unfold canB at hk
    rw [decide_eq_true a0] at hk
    exact hk
  rw [decide_eq_false (show ¬ atM b ms s 0 > 0 from a0)]
  unfold canB at hk
  rw [decide_eq_false a0, Bool.false_or] at hk
  have two : gMax [.lst (natsD X)] (fun x => gLt x (.int 2) fun d => ∀ p : Bool, (p = decide (∀ x ∈ X, x < 2)) → d = .bl p) := max_nats ne fun m mm mle p hp => by
    rw [hp]
    refine congrArg Dt.bl (decide_eq_decide.mpr ⟨fun h x hx => ?_, fun h => ?_⟩)
    · have := mle x hx
      omega
    · have := h m mm
      omega
  by_cases m0 : mine = 0
  · rw [decide_eq_true (show (mine : Int) = 0 by omega)]
    rw [if_pos m0] at hk
    refine max_nats ne fun m mm mle => ?_
    simp only [a_wFn, a_wSeq, a_wNx, a_wBk, a_wCt, a_wEx, a_wSet, a_wOwn, a_wAsg, a_wPar, a_wRet, a_wRetN, a_wRetF, a_wRetFO, a_wParO, a_wFnF, a_wIfS, a_wApp, a_wExt, a_wFrz, a_wAugI, a_wSetIx, a_wAugIx, a_wFor, a_lookL0, a_lookLS, a_look0, a_lookS, a_lookO0, a_lookO1, a_lookOS, a_wV, a_wO, a_wC, a_wBin, a_wUn, a_wTst, a_wTru, a_wAnd, a_wOr, a_wNot, a_wAndV, a_wOrV, a_wNotV, a_wIf, a_wCh, a_wNil, a_wCons, a_wStar, a_wTup, a_wLst, a_wCal, a_wCall, a_wCall0, a_wCallK, a_wCallB, a_wGot, a_noX, a_wCh3, a_wAugC, gInI_i, a_wCalK, a_wSl, a_wNo, a_wPart, a_wFld, a_wMth, a_wM0, a_wM1, a_wgN, a_wgNil, a_wgCons, a_wgT, a_wLc, a_wYes, a_itK, itK_lst, itK_tup, itK_str, seqD_lst, seqD_tup, a_wRg1, a_wRg2, a_wRg3, a_wEnumU, a_wEnumL, a_wZipU, a_wRevU, a_wComb, wipeD, a_mapS, a_map0, a_lenS, a_len0, List.replicate, a_appS, a_app0, a_set0, a_setS, Nat.reduceAdd, Nat.reduceSub, Nat.zero_add, true_and, and_true, gAdd_i, gAdd_s, gAdd_l, gAdd_t, gCat_l, gSub_i, gMul_i, gMul_l, gMul_t, gFdiv_i, gMod_i, gPow_i, gLt_i, gLe_i, gGt_i, gGe_i, gLen_l, gLen_t, gLen_s, gAbs_i, gToInt_i, gToInt_b, gToBl_i, gToBl_b, gToTup_l, gToTup_t, gToLst_l, gToLst_t, gMax2_i, gMin2_i, gNeg_i, gSl_l, gSl_t, gSl_s, gSlL_l, gRevL_l, gIsN_n, gIsN_b, gIsN_i, gIsN_s, gIsN_l, gIsN_t, gNotN_n, gNotN_b, gNotN_i, gNotN_s, gNotN_l, gNotN_t, truD, gEq_int, gNe_int, Bool.not_true, Bool.not_false]
    rwa [decide_eq_decide.mpr (show (m : Int) < 2 ↔ ∀ x ∈ X, x < 2 from ⟨fun h x hx => by have := mle x hx; omega, fun h => by have := h m mm; omega⟩)]
  · rw [decide_eq_false (show ¬ (mine : Int) = 0 by omega)]
    rw [if_neg m0] at hk
    refine min_nats ne fun m mm mle => ?_
    simp only [a_wFn, a_wSeq, a_wNx, a_wBk, a_wCt, a_wEx, a_wSet, a_wOwn, a_wAsg, a_wPar, a_wRet, a_wRetN, a_wRetF, a_wRetFO, a_wParO, a_wFnF, a_wIfS, a_wApp, a_wExt, a_wFrz, a_wAugI, a_wSetIx, a_wAugIx, a_wFor, a_lookL0, a_lookLS, a_look0, a_lookS, a_lookO0, a_lookO1, a_lookOS, a_wV, a_wO, a_wC, a_wBin, a_wUn, a_wTst, a_wTru, a_wAnd, a_wOr, a_wNot, a_wAndV, a_wOrV, a_wNotV, a_wIf, a_wCh, a_wNil, a_wCons, a_wStar, a_wTup, a_wLst, a_wCal, a_wCall, a_wCall0, a_wCallK, a_wCallB, a_wGot, a_noX, a_wCh3, a_wAugC, gInI_i, a_wCalK, a_wSl, a_wNo, a_wPart, a_wFld, a_wMth, a_wM0, a_wM1, a_wgN, a_wgNil, a_wgCons, a_wgT, a_wLc, a_wYes, a_itK, itK_lst, itK_tup, itK_str, seqD_lst, seqD_tup, a_wRg1, a_wRg2, a_wRg3, a_wEnumU, a_wEnumL, a_wZipU, a_wRevU, a_wComb, wipeD, a_mapS, a_map0, a_lenS, a_len0, List.replicate, a_appS, a_app0, a_set0, a_setS, Nat.reduceAdd, Nat.reduceSub, Nat.zero_add, true_and, and_true, gAdd_i, gAdd_s, gAdd_l, gAdd_t, gCat_l, gSub_i, gMul_i, gMul_l, gMul_t, gFdiv_i, gMod_i, gPow_i, gLt_i, gLe_i, gGt_i, gGe_i, gLen_l, gLen_t, gLen_s, gAbs_i, gToInt_i, gToInt_b, gToBl_i, gToBl_b, gToTup_l, gToTup_t, gToLst_l, gToLst_t, gMax2_i, gMin2_i, gNeg_i, gSl_l, gSl_t, gSl_s, gSlL_l, gRevL_l, gIsN_n, gIsN_b, gIsN_i, gIsN_s, gIsN_l, gIsN_t, gNotN_n, gNotN_b, gNotN_i, gNotN_s, gNotN_l, gNotN_t, truD, gEq_int, gNe_int, Bool.not_true, Bool.not_false]
    by_cases p0 : 0 < m
    · rw [decide_eq_true (show (m : Int) > 0 by omega)]
      rw [decide_eq_true (show ∀ x ∈ X, 0 < x from fun x hx => by have := mle x hx; omega)] at hk
      exact hk
    · rw [decide_eq_false (show ¬ (m : Int) > 0 by omega)]
      rw [decide_eq_false (show ¬ ∀ x ∈ X, 0 < x from fun h => p0 (h m mm)), Bool.false_or] at hk
      dsimp only
      by_cases m1 : mine = 1
      · rw [decide_eq_true (show (mine : Int) = 1 by omega)]
        rw [decide_eq_true m1, Bool.true_and] at hk
        refine max_nats ne fun m mm mle => ?_
        simp only [a_wFn, a_wSeq, a_wNx, a_wBk, a_wCt, a_wEx, a_wSet, a_wOwn, a_wAsg, a_wPar, a_wRet, a_wRetN, a_wRetF, a_wRetFO, a_wParO, a_wFnF, a_wIfS, a_wApp, a_wExt, a_wFrz, a_wAugI, a_wSetIx, a_wAugIx, a_wFor, a_lookL0, a_lookLS, a_look0, a_lookS, a_lookO0, a_lookO1, a_lookOS, a_wV, a_wO, a_wC, a_wBin, a_wUn, a_wTst, a_wTru, a_wAnd, a_wOr, a_wNot, a_wAndV, a_wOrV, a_wNotV, a_wIf, a_wCh, a_wNil, a_wCons, a_wStar, a_wTup, a_wLst, a_wCal, a_wCall, a_wCall0, a_wCallK, a_wCallB, a_wGot, a_noX, a_wCh3, a_wAugC, gInI_i, a_wCalK, a_wSl, a_wNo, a_wPart, a_wFld, a_wMth, a_wM0, a_wM1, a_wgN, a_wgNil, a_wgCons, a_wgT, a_wLc, a_wYes, a_itK, itK_lst, itK_tup, itK_str, seqD_lst, seqD_tup, a_wRg1, a_wRg2, a_wRg3, a_wEnumU, a_wEnumL, a_wZipU, a_wRevU, a_wComb, wipeD, a_mapS, a_map0, a_lenS, a_len0, List.replicate, a_appS, a_app0, a_set0, a_setS, Nat.reduceAdd, Nat.reduceSub, Nat.zero_add, true_and, and_true, gAdd_i, gAdd_s, gAdd_l, gAdd_t, gCat_l, gSub_i, gMul_i, gMul_l, gMul_t, gFdiv_i, gMod_i, gPow_i, gLt_i, gLe_i, gGt_i, gGe_i, gLen_l, gLen_t, gLen_s, gAbs_i, gToInt_i, gToInt_b, gToBl_i, gToBl_b, gToTup_l, gToTup_t, gToLst_l, gToLst_t, gMax2_i, gMin2_i, gNeg_i, gSl_l, gSl_t, gSl_s, gSlL_l, gRevL_l, gIsN_n, gIsN_b, gIsN_i, gIsN_s, gIsN_l, gIsN_t, gNotN_n, gNotN_b, gNotN_i, gNotN_s, gNotN_l, gNotN_t, truD, gEq_int, gNe_int, Bool.not_true, Bool.not_false]
        rwa [decide_eq_decide.mpr (show (m : Int) < 2 ↔ ∀ x ∈ X, x < 2 from ⟨fun h x hx => by have := mle x hx; omega, fun h => by have := h m mm; omega⟩)]
      · rw [decide_eq_false (show ¬ (mine : Int) = 1 by omega)]
        rw [decide_eq_false m1, Bool.false_and] at hk
        exact hk
theorem cs__law_can (B : Bl mg) (DD : OwnDef K mg "_law_can" s__law_can) (C__law_at : CalG P w K mg base 1 "_law_at" (spW (suR K mg c TLb) 2 f__law_at) [])  : CalG P w K mg base 2 "_law_can" (spW (suR K mg c TLb) 3 f__law_can) [] :=
  (pc__law_can B DD C__law_at).imp (spW_mono fun ds k e ln h => ok__law_can ds k e ln h)
def w__law_parts : WS := (wSeq (wOwn 4 (wLst wNil))
      (wSeq (wFor (wRg2 (wV 3) (wBin LW.gAdd (wV 2) (wC (.int 1)))) (wgN 5)
      (wFor (wIt (wCall0 3 f__law_splits (wCons (wBin LW.gSub (wV 1) (wC (.int 1))) (wCons (wBin LW.gSub (wV 2) (wV 5)) (wCons (wV 2) wNil))))) (wgN 6)
      (wIfS (wTst (wCall0 3 f__law_can (wCons (wV 0) (wCons (wV 5) (wCons (wV 6) wNil))))) (wSeq (wSet 7 (wIf (wTst (wBin gEq (wV 5) (wC (.int 0)))) (wC (.int 0)) (wCall0 2 f__law_at (wCons (wV 0) (wCons (wBin LW.gSub (wV 5) (wC (.int 1))) wNil)))))
      (wApp 4 (wTup (wCons (wV 7) (wCons (wIf (wTst (wBin gGt (wV 7) (wC (.int 0)))) (wBin LW.gAdd (wV 7) (wCal gSum (wCons (wLc [8] (wIt (wV 6)) (wgN 8) wYes (wCall0 2 f__law_at (wCons (wV 0) (wCons (wV 8) wNil)))) wNil))) (wC (.int 1))) wNil))))) wNx)))
      (wRet (wO 4))))
theorem pb__law_parts (B : Bl mg) (C__law_splits : CalG P w K mg base 12 "_law_splits" (spWF (suR K mg c TLb) 3 f__law_splits) []) (C__law_can : CalG P w K mg base 2 "_law_can" (spW (suR K mg c TLb) 3 f__law_can) []) (C__law_at : CalG P w K mg base 1 "_law_at" (spW (suR K mg c TLb) 2 f__law_at) [])  : Bdy P w K mg base 12 "_law_parts" s__law_parts ["_law_own", "_law_size", "_law_many", "_law_least", "_law_found", "_law_mine", "_law_split", "_law_top", "_law_each"] (suR K mg c TLb) w__law_parts := fun f cdv A outer s H E hr quiet =>
      (xsCons (xsOwn (i := 4) sc__law_parts.nd rfl (Or.inl rfl) (xLst xANil))
      (xsCons (xsFor PassesOwn.never (by rfl) (xRg2 (by rfl) B.range (xV (pv 3)) (xBin op_addU pAdd (xw (xV (pv 2))) (xw (xInt pe_int)))) (xgN (pg_name (i := 5) sc__law_parts.nd rfl (Or.inl rfl)))
      (xsOne (xsFor PassesOwn.never (by rfl) (xIt (xf (xCallF (pe_cG quiet C__law_splits hr (by decide) (by rfl) (xACons (xBin op_sub pSub (xw (xV (pv 1))) (xw (xInt pe_int))) (xACons (xBin op_sub pSub (xw (xV (pv 2))) (xw (xV (pv 5)))) (xACons (xV (pv 2)) xANil))))))) (xgN (pg_name (i := 6) sc__law_parts.nd rfl (Or.inl rfl)))
      (xsOne (xsIf (xTV (xCall0 (pe_cG quiet C__law_can hr (by decide) (by rfl) (xACons (xV (pv 0)) (xACons (xV (pv 5)) (xACons (xV (pv 6)) xANil)))))) (xsCons (xsSet (i := 7) sc__law_parts.nd rfl (Or.inl rfl) (xIf (xTCmp (op_eqD hr.units) pEq (xw (xV (pv 5))) (xw (xInt pe_int)) (nomark _)) (xInt pe_int) (xCall0 (pe_cG quiet C__law_at hr (by decide) (by rfl) (xACons (xV (pv 0)) (xACons (xBin op_sub pSub (xw (xV (pv 5))) (xw (xInt pe_int))) xANil))))))
      (xsOne (xsApp (pe_bm PySem.F.plainAttrs_list PySem.F.slot_list_append PySem.F.type_list_append mt_append (pv 4) (pa_cons (xTup (xACons (xV (pv 7)) (xACons (xIf (xTCmp op_gt pGt (xw (xV (pv 7))) (xw (xInt pe_int)) (nomark _)) (xBin op_addU pAdd (xw (xV (pv 7))) (xw (xCB (pe_callB (cr_sum rfl) (by rfl) B.sum (by decide +kernel) (xWCons (xw (xf (xLc (own := [("_law_each", 8)]) (by rfl) sc__law_parts.nd (xItC (xw (xV (pv 6)))) (blkOk_by (own := [("_law_each", 8)]) (N := ["_law_own", "_law_size", "_law_many", "_law_least", "_law_found", "_law_mine", "_law_split", "_law_top", "_law_each"]) (sc := defScope s__law_parts) (by decide +kernel)) (fun _ _ _ _ _ => (xgN (pg_name (i := 8) sc__law_parts.nd rfl (by first | exact Or.inl rfl | exact Or.inr rfl)))) (fun _ _ _ _ _ => xPts0) (fun _ _ _ _ _ => (xCall0 (pe_cG quiet C__law_at hr (by decide) (by rfl) (xACons (xV (pv 0)) (xACons (xV (pv 8)) xANil))))) (by decide)))) xWNil)) pSum))) (xInt pe_int)) xANil))) pa_nil))))) xsNil)))))
      (xsOne (xsRet (xO (pv 4))))))
theorem pc__law_parts (B : Bl mg) (DD : OwnDef K mg "_law_parts" s__law_parts) (C__law_splits : CalG P w K mg base 12 "_law_splits" (spWF (suR K mg c TLb) 3 f__law_splits) []) (C__law_can : CalG P w K mg base 2 "_law_can" (spW (suR K mg c TLb) 3 f__law_can) []) (C__law_at : CalG P w K mg base 1 "_law_at" (spW (suR K mg c TLb) 2 f__law_at) [])  : CalG P w K mg base 13 "_law_parts" (spW (suR K mg c TLb) 4 (wFn 9 w__law_parts)) [] :=
  calG_by DD sc__law_parts rfl (fun fd f F => F.binds (fun _ _ _ _ _ _ us hl => match us, hl with | [_, _, _, _], _ => rfl)) (pb__law_parts B C__law_splits C__law_can C__law_at)
def f__law_parts : SpF := fun ds k _ => ∃ b ms s, ∃ (sz many least : Nat), ds = [irP b ms s, .int (sz : Nat), .int (many : Nat), .int (least : Nat)] ∧ IR b ms s ∧ 2 ≤ sz ∧ sz ≤ 12 ∧ many ≤ 9 ∧ least ≤ 100 ∧ k (.lst ((partsL (atM b ms s) (sz - 1) many least).map prD))
theorem partsB_len (a : Nat → Int) {s many : Nat} (s12 : s < 12) (m10 : many < 10) (least : Nat) : ∀ i, (partsB a s many least i).length ≤ 30 * i
  | 0 => by unfold partsB; simp
  | i + 1 => by
    have h := partsB_len a s12 m10 least i
    rw [partsB_succ, List.length_append]
    have sml := splits_small s (List.mem_range.mpr s12) (many - (least + i)) (List.mem_range.mpr (by omega)) many (List.mem_range.mpr m10)
    have : (partsI a s many (least + i)).length ≤ 30 := by
      unfold partsI
      rw [List.length_map]
      exact Nat.le_trans (List.length_filter_le _ _) sml
    omega
theorem sum_at {b s : Int} {ms : List Int} (ir : IR b ms s) {X : List Nat} (h : ∀ x ∈ X, x < 2 ^ 100) {K : Dt → Prop} (hk : K (.int (X.map (atM b ms s)).sum)) : lcL (fun d k' => f__law_at [irP b ms s, d] (fun y => k' (some y)) nE) (natsD X) [] fun out => gSum [.lst out] K := by
  refine lcL_map (fun d => match d with | .int i => .int (atM b ms s i.toNat) | _ => .non) (fun d K2 hd hK2 => ?_) ?_
  · obtain ⟨x, hx, rfl⟩ := List.mem_map.mp hd
    exact ⟨b, ms, s, x, rfl, natAbs_200 ir, h x hx, hK2⟩
  · have e : (natsD X).map (fun d => match d with | .int i => .int (atM b ms s i.toNat) | _ => .non) = (X.map (atM b ms s)).map Dt.int := by
      unfold natsD
      rw [List.map_map,
            List.map_map]
      rfl
    rw [e]
    exact ⟨_, intsOf_map _, hk⟩
theorem ok__law_parts (ds k e) (ln : ds.length = 4) (h : f__law_parts ds k e) : wFn 9 w__law_parts ds k e := by
  obtain ⟨b, ms, s, sz, many, least, rfl, ir, z2, z12, m9, lm, hk⟩ := h
  (simp only [a_wFn, a_wFnF, a_mapS, a_map0, List.replicate, a_appS, a_app0, a_lenS, a_len0, Nat.reduceAdd, Nat.reduceSub, Nat.zero_add]; unfold w__law_parts; simp only [a_wFn, a_wSeq, a_wNx, a_wBk, a_wCt, a_wEx, a_wSet, a_wOwn, a_wAsg, a_wPar, a_wRet, a_wRetN, a_wRetF, a_wRetFO, a_wParO, a_wFnF, a_wIfS, a_wApp, a_wExt, a_wFrz, a_wAugI, a_wSetIx, a_wAugIx, a_wFor, a_lookL0, a_lookLS, a_look0, a_lookS, a_lookO0, a_lookO1, a_lookOS, a_wV, a_wO, a_wC, a_wBin, a_wUn, a_wTst, a_wTru, a_wAnd, a_wOr, a_wNot, a_wAndV, a_wOrV, a_wNotV, a_wIf, a_wCh, a_wNil, a_wCons, a_wStar, a_wTup, a_wLst, a_wCal, a_wCall, a_wCall0, a_wCallK, a_wCallB, a_wGot, a_noX, a_wCh3, a_wAugC, gInI_i, a_wCalK, a_wSl, a_wNo, a_wPart, a_wFld, a_wMth, a_wM0, a_wM1, a_wgN, a_wgNil, a_wgCons, a_wgT, a_wLc, a_wYes, a_itK, itK_lst, itK_tup, itK_str, seqD_lst, seqD_tup, a_wRg1, a_wRg2, a_wRg3, a_wEnumU, a_wEnumL, a_wZipU, a_wRevU, a_wComb, wipeD, a_mapS, a_map0, a_lenS, a_len0, List.replicate, a_appS, a_app0, a_set0, a_setS, Nat.reduceAdd, Nat.reduceSub, Nat.zero_add, true_and, and_true, gAdd_i, gAdd_s, gAdd_l, gAdd_t, gCat_l, gSub_i, gMul_i, gMul_l, gMul_t, gFdiv_i, gMod_i, gPow_i, gLt_i, gLe_i, gGt_i, gGe_i, gLen_l, gLen_t, gLen_s, gAbs_i, gToInt_i, gToInt_b, gToBl_i, gToBl_b, gToTup_l, gToTup_t, gToLst_l, gToLst_t, gMax2_i, gMin2_i, gNeg_i, gSl_l, gSl_t, gSl_s, gSlL_l, gRevL_l, gIsN_n, gIsN_b, gIsN_i, gIsN_s, gIsN_l, gIsN_t, gNotN_n, gNotN_b, gNotN_i, gNotN_s, gNotN_l, gNotN_t, truD, gEq_int, gNe_int, Bool.not_true, Bool.not_false])
  have bn := natAbs_200 ir
  have t100 : (2 : Nat) ^ 100 = 1267650600228229401496703205376 := by decide
  have t18 : (10 : Nat) ^ 18 = 1000000000000000000 := by decide
  refine ⟨by decide, ⟨by omega, by omega, by omega, by omega⟩, ?_⟩
  rw [show ((many : Int) + 1 - (least : Int)).toNat = many + 1 - least by omega]
  refine forL_by (fun i δ => ∃ a b' c d, δ = [some (.val (irP b ms s)), some (.val (.int (sz : Nat))), some (.val (.int (many : Nat))), some (.val (.int (least : Nat))), some (.own ((partsB (atM b ms s) (sz - 1) many least i).map prD)), a, b', c, d]) ⟨_, _, _, _, rfl⟩ (fun i x δ K hx hI hK => ?_) fun δ hI => ?_
  · obtain ⟨a', b', c', d', rfl⟩ := hI
    obtain ⟨hi, rfl⟩ : i < many + 1 - least ∧ x = .int ((least + i : Nat) : Int) := by
      obtain ⟨h1, rfl⟩ := rgI_at hx
      exact ⟨h1, by rw [Int.natCast_add]⟩
    have sml := splits_small (sz - 1) (List.mem_range.mpr (by omega)) (many - (least + i)) (List.mem_range.mpr (by omega)) many (List.mem_range.mpr (by omega))
    have pB := partsB_succ (atM b ms s) (sz - 1) many least i
    generalize hm : least + i = mine at *
    simp only [a_wFn, a_wSeq, a_wNx, a_wBk, a_wCt, a_wEx, a_wSet, a_wOwn, a_wAsg, a_wPar, a_wRet, a_wRetN, a_wRetF, a_wRetFO, a_wParO, a_wFnF, a_wIfS, a_wApp, a_wExt, a_wFrz, a_wAugI, a_wSetIx, a_wAugIx, a_wFor, a_lookL0, a_lookLS, a_look0, a_lookS, a_lookO0, a_lookO1, a_lookOS, a_wV, a_wO, a_wC, a_wBin, a_wUn, a_wTst, a_wTru, a_wAnd, a_wOr, a_wNot, a_wAndV, a_wOrV, a_wNotV, a_wIf, a_wCh, a_wNil, a_wCons, a_wStar, a_wTup, a_wLst, a_wCal, a_wCall, a_wCall0, a_wCallK, a_wCallB, a_wGot, a_noX, a_wCh3, a_wAugC, gInI_i, a_wCalK, a_wSl, a_wNo, a_wPart, a_wFld, a_wMth, a_wM0, a_wM1, a_wgN, a_wgNil, a_wgCons, a_wgT, a_wLc, a_wYes, a_itK, itK_lst, itK_tup, itK_str, seqD_lst, seqD_tup, a_wRg1, a_wRg2, a_wRg3, a_wEnumU, a_wEnumL, a_wZipU, a_wRevU, a_wComb, wipeD, a_mapS, a_map0, a_lenS, a_len0, List.replicate, a_appS, a_app0, a_set0, a_setS, Nat.reduceAdd, Nat.reduceSub, Nat.zero_add, true_and, and_true, gAdd_i, gAdd_s, gAdd_l, gAdd_t, gCat_l, gSub_i, gMul_i, gMul_l, gMul_t, gFdiv_i, gMod_i, gPow_i, gLt_i, gLe_i, gGt_i, gGe_i, gLen_l, gLen_t, gLen_s, gAbs_i, gToInt_i, gToInt_b, gToBl_i, gToBl_b, gToTup_l, gToTup_t, gToLst_l, gToLst_t, gMax2_i, gMin2_i, gNeg_i, gSl_l, gSl_t, gSl_s, gSlL_l, gRevL_l, gIsN_n, gIsN_b, gIsN_i, gIsN_s, gIsN_l, gIsN_t, gNotN_n, gNotN_b, gNotN_i, gNotN_s, gNotN_l, gNotN_t, truD, gEq_int, gNe_int, Bool.not_true, Bool.not_false]
    refine ⟨sz - 1, by omega, many - mine, many, by rw [show (sz : Int) - 1 = ((sz - 1 : Nat) : Int) by omega, show (many : Int) - (mine : Int) = ((many - mine : Nat) : Int) by omega], by omega, by rw [t18]; omega, by omega, by omega, ?_⟩
    generalize hL : splitsL (sz - 1) (many - mine) many = Ls at *
    have Lm : ∀ X ∈ Ls, X.length = sz - 1 ∧ X.sum = many - mine := fun X hX => by
      rw [← hL] at hX
      have := (mem_splits _ _ _ _).mp hX
      exact ⟨this.1, this.2.1⟩
    show forL _ _ _ _ _ _
    refine forL_by (fun j δ => ∃ b' c d, δ = [some (.val (irP b ms s)), some (.val (.int (sz : Nat))), some (.val (.int (many : Nat))), some (.val (.int (least : Nat))), some (.own ((partsB (atM b ms s) (sz - 1) many least i ++ ((Ls.take j).filter (canB (atM b ms s) mine)).map (pairN (atM b ms s) mine)).map prD)), some (.val (.int (mine : Nat))), b', c, d]) ⟨_, _, _, by rw [List.take_zero, List.filter_nil, List.map_nil, List.append_nil]⟩ (fun j x δ K2 hx2 hJ hK2 => ?_) fun δ hJ => ?_
    · obtain ⟨b', c', d', rfl⟩ := hJ
      obtain ⟨X, hX, rfl⟩ := some_map hx2
      obtain ⟨x1, x2⟩ := Lm X (List.mem_of_getElem? hX)
      have tk : Ls.take (j + 1) = Ls.take j ++ [X] := by rw [List.take_succ, hX]; rfl
      have nX : X ≠ [] := fun z => by rw [z] at x1; simp at x1; omega
      simp only [a_wFn, a_wSeq, a_wNx, a_wBk, a_wCt, a_wEx, a_wSet, a_wOwn, a_wAsg, a_wPar, a_wRet, a_wRetN, a_wRetF, a_wRetFO, a_wParO, a_wFnF, a_wIfS, a_wApp, a_wExt, a_wFrz, a_wAugI, a_wSetIx, a_wAugIx, a_wFor, a_lookL0, a_lookLS, a_look0, a_lookS, a_lookO0, a_lookO1, a_lookOS, a_wV, a_wO, a_wC, a_wBin, a_wUn, a_wTst, a_wTru, a_wAnd, a_wOr, a_wNot, a_wAndV, a_wOrV, a_wNotV, a_wIf, a_wCh, a_wNil, a_wCons, a_wStar, a_wTup, a_wLst, a_wCal, a_wCall, a_wCall0, a_wCallK, a_wCallB, a_wGot, a_noX, a_wCh3, a_wAugC, gInI_i, a_wCalK, a_wSl, a_wNo, a_wPart, a_wFld, a_wMth, a_wM0, a_wM1, a_wgN, a_wgNil, a_wgCons, a_wgT, a_wLc, a_wYes, a_itK, itK_lst, itK_tup, itK_str, seqD_lst, seqD_tup, a_wRg1, a_wRg2, a_wRg3, a_wEnumU, a_wEnumL, a_wZipU, a_wRevU, a_wComb, wipeD, a_mapS, a_map0, a_lenS, a_len0, List.replicate, a_appS, a_app0, a_set0, a_setS, Nat.reduceAdd, Nat.reduceSub, Nat.zero_add, true_and, and_true, gAdd_i, gAdd_s, gAdd_l, gAdd_t, gCat_l, gSub_i, gMul_i, gMul_l, gMul_t, gFdiv_i, gMod_i, gPow_i, gLt_i, gLe_i, gGt_i, gGe_i, gLen_l, gLen_t, gLen_s, gAbs_i, gToInt_i, gToInt_b, gToBl_i, gToBl_b, gToTup_l, gToTup_t, gToLst_l, gToLst_t, gMax2_i, gMin2_i, gNeg_i, gSl_l, gSl_t, gSl_s, gSlL_l, gRevL_l, gIsN_n, gIsN_b, gIsN_i, gIsN_s, gIsN_l, gIsN_t, gNotN_n, gNotN_b, gNotN_i, gNotN_s, gNotN_l, gNotN_t, truD, gEq_int, gNe_int, Bool.not_true, Bool.not_false]
      refine ⟨b, ms, s, mine, X, rfl, ir, nX, ?_⟩
      cases hc : canB (atM b ms s) mine X with
      | false =>
        have e1 : (Ls.take j).filter (canB (atM b ms s) mine) = (Ls.take (j + 1)).filter (canB (atM b ms s) mine) := by
          rw [tk, List.filter_append, List.filter_cons, hc]
          simp only [List.filter_nil, Bool.false_eq_true, if_false, List.append_nil]
        rw [e1]
        exact hK2 _ ⟨_, _, _, rfl⟩
      | true =>
        have e2 : ((partsB (atM b ms s) (sz - 1) many least i ++ ((Ls.take j).filter (canB (atM b ms s) mine)).map (pairN (atM b ms s) mine)).map prD) ++ [prD (pairN (atM b ms s) mine X)] = (partsB (atM b ms s) (sz - 1) many least i ++ ((Ls.take (j + 1)).filter (canB (atM b ms s) mine)).map (pairN (atM b ms s) mine)).map prD := by
          rw [tk, List.filter_append, List.filter_cons, hc]
          simp only [List.filter_nil, if_true, List.map_append, List.map_cons, List.map_nil, List.append_assoc]
        have lB := partsB_len (atM b ms s) (s := sz - 1) (many := many) (by omega) (by omega) least i
        have lF : ((Ls.take j).filter (canB (atM b ms s) mine)).length ≤ 100 := Nat.le_trans (List.length_filter_le _ _) (by rw [List.length_take]; omega)
        have lO : ((partsB (atM b ms s) (sz - 1) many least i ++ ((Ls.take j).filter (canB (atM b ms s) mine)).map (pairN (atM b ms s) mine)).map prD).length < sizeLine := by
          rw [List.length_map, List.length_append, List.length_map, sizeLine_eq]
          omega
        have fin : ∀ q, pairN (atM b ms s) mine X = q → ∀ u v w, K2 [some (.val (irP b ms s)), some (.val (.int (sz : Nat))), some (.val (.int (many : Nat))), some (.val (.int (least : Nat))), some (.own (((partsB (atM b ms s) (sz - 1) many least i ++ ((Ls.take j).filter (canB (atM b ms s) mine)).map (pairN (atM b ms s) mine)).map prD) ++ [prD q])), some (.val (.int (mine : Nat))), u, v, w] := by
          rintro q rfl u v w
          rw [e2]
          exact hK2 _ ⟨_, _, _, rfl⟩
        dsimp only
        by_cases m0 : mine = 0
        · rw [decide_eq_true (show (mine : Int) = 0 by omega)]
          exact ⟨by decide, lO, fin (0, 1) (by unfold pairN topN; rw [if_pos m0, if_neg (by decide)]) _ _ _⟩
        · rw [decide_eq_false (show ¬ (mine : Int) = 0 by omega)]
          have et : topN (atM b ms s) mine = atM b ms s (mine - 1) := if_neg m0
          refine ⟨b, ms, s, mine - 1, by rw [show (mine : Int) - 1 = ((mine - 1 : Nat) : Int) by omega], bn, by rw [t100]; omega, ?_⟩
          simp only [a_wFn, a_wSeq, a_wNx, a_wBk, a_wCt, a_wEx, a_wSet, a_wOwn, a_wAsg, a_wPar, a_wRet, a_wRetN, a_wRetF, a_wRetFO, a_wParO, a_wFnF, a_wIfS, a_wApp, a_wExt, a_wFrz, a_wAugI, a_wSetIx, a_wAugIx, a_wFor, a_lookL0, a_lookLS, a_look0, a_lookS, a_lookO0, a_lookO1, a_lookOS, a_wV, a_wO, a_wC, a_wBin, a_wUn, a_wTst, a_wTru, a_wAnd, a_wOr, a_wNot, a_wAndV, a_wOrV, a_wNotV, a_wIf, a_wCh, a_wNil, a_wCons, a_wStar, a_wTup, a_wLst, a_wCal, a_wCall, a_wCall0, a_wCallK, a_wCallB, a_wGot, a_noX, a_wCh3, a_wAugC, gInI_i, a_wCalK, a_wSl, a_wNo, a_wPart, a_wFld, a_wMth, a_wM0, a_wM1, a_wgN, a_wgNil, a_wgCons, a_wgT, a_wLc, a_wYes, a_itK, itK_lst, itK_tup, itK_str, seqD_lst, seqD_tup, a_wRg1, a_wRg2, a_wRg3, a_wEnumU, a_wEnumL, a_wZipU, a_wRevU, a_wComb, wipeD, a_mapS, a_map0, a_lenS, a_len0, List.replicate, a_appS, a_app0, a_set0, a_setS, Nat.reduceAdd, Nat.reduceSub, Nat.zero_add, true_and, and_true, gAdd_i, gAdd_s, gAdd_l, gAdd_t, gCat_l, gSub_i, gMul_i, gMul_l, gMul_t, gFdiv_i, gMod_i, gPow_i, gLt_i, gLe_i, gGt_i, gGe_i, gLen_l, gLen_t, gLen_s, gAbs_i, gToInt_i, gToInt_b, gToBl_i, gToBl_b, gToTup_l, gToTup_t, gToLst_l, gToLst_t, gMax2_i, gMin2_i, gNeg_i, gSl_l, gSl_t, gSl_s, gSlL_l, gRevL_l, gIsN_n, gIsN_b, gIsN_i, gIsN_s, gIsN_l, gIsN_t, gNotN_n, gNotN_b, gNotN_i, gNotN_s, gNotN_l, gNotN_t, truD, gEq_int, gNe_int, Bool.not_true, Bool.not_false]
          by_cases p0 : 0 < atM b ms s (mine - 1)
          · rw [decide_eq_true (show atM b ms s (mine - 1) > 0 from p0)]
            refine ⟨by unfold natsD; rw [List.length_map]; omega, sum_at ir (fun x hx => ?_) ?_⟩
            · have := mem_sum_le hx
              rw [t100]
              omega
            simp only [a_wFn, a_wSeq, a_wNx, a_wBk, a_wCt, a_wEx, a_wSet, a_wOwn, a_wAsg, a_wPar, a_wRet, a_wRetN, a_wRetF, a_wRetFO, a_wParO, a_wFnF, a_wIfS, a_wApp, a_wExt, a_wFrz, a_wAugI, a_wSetIx, a_wAugIx, a_wFor, a_lookL0, a_lookLS, a_look0, a_lookS, a_lookO0, a_lookO1, a_lookOS, a_wV, a_wO, a_wC, a_wBin, a_wUn, a_wTst, a_wTru, a_wAnd, a_wOr, a_wNot, a_wAndV, a_wOrV, a_wNotV, a_wIf, a_wCh, a_wNil, a_wCons, a_wStar, a_wTup, a_wLst, a_wCal, a_wCall, a_wCall0, a_wCallK, a_wCallB, a_wGot, a_noX, a_wCh3, a_wAugC, gInI_i, a_wCalK, a_wSl, a_wNo, a_wPart, a_wFld, a_wMth, a_wM0, a_wM1, a_wgN, a_wgNil, a_wgCons, a_wgT, a_wLc, a_wYes, a_itK, itK_lst, itK_tup, itK_str, seqD_lst, seqD_tup, a_wRg1, a_wRg2, a_wRg3, a_wEnumU, a_wEnumL, a_wZipU, a_wRevU, a_wComb, wipeD, a_mapS, a_map0, a_lenS, a_len0, List.replicate, a_appS, a_app0, a_set0, a_setS, Nat.reduceAdd, Nat.reduceSub, Nat.zero_add, true_and, and_true, gAdd_i, gAdd_s, gAdd_l, gAdd_t, gCat_l, gSub_i, gMul_i, gMul_l, gMul_t, gFdiv_i, gMod_i, gPow_i, gLt_i, gLe_i, gGt_i, gGe_i, gLen_l, gLen_t, gLen_s, gAbs_i, gToInt_i, gToInt_b, gToBl_i, gToBl_b, gToTup_l, gToTup_t, gToLst_l, gToLst_t, gMax2_i, gMin2_i, gNeg_i, gSl_l, gSl_t, gSl_s, gSlL_l, gRevL_l, gIsN_n, gIsN_b, gIsN_i, gIsN_s, gIsN_l, gIsN_t, gNotN_n, gNotN_b, gNotN_i, gNotN_s, gNotN_l, gNotN_t, truD, gEq_int, gNe_int, Bool.not_true, Bool.not_false]
            exact ⟨by decide, lO, fin (atM b ms s (mine - 1), atM b ms s (mine - 1) + (X.map (atM b ms s)).sum) (by unfold pairN; rw [et, if_pos p0]) _ _ _⟩
          · rw [decide_eq_false (show ¬ atM b ms s (mine - 1) > 0 from p0)]
            exact ⟨by decide, lO, fin (atM b ms s (mine - 1), 1) (by unfold pairN; rw [et, if_neg p0]) _ _ _⟩
    · obtain ⟨b', c', d', rfl⟩ := hJ
      rw [List.length_map,
            List.take_length]
      have e3 : partsB (atM b ms s) (sz - 1) many least i ++ (Ls.filter (canB (atM b ms s) mine)).map (pairN (atM b ms s) mine) = partsB (atM b ms s) (sz - 1) many least (i + 1) := by
        rw [pB]
        unfold partsI
        rw [hL]
      rw [e3]
      exact hK _ ⟨_, _, _, _, rfl⟩
  · obtain ⟨a', b', c', d', rfl⟩ := hI
    rw [rgI_len]
    simp only [a_wFn, a_wSeq, a_wNx, a_wBk, a_wCt, a_wEx, a_wSet, a_wOwn, a_wAsg, a_wPar, a_wRet, a_wRetN, a_wRetF, a_wRetFO, a_wParO, a_wFnF, a_wIfS, a_wApp, a_wExt, a_wFrz, a_wAugI, a_wSetIx, a_wAugIx, a_wFor, a_lookL0, a_lookLS, a_look0, a_lookS, a_lookO0, a_lookO1, a_lookOS, a_wV, a_wO, a_wC, a_wBin, a_wUn, a_wTst, a_wTru, a_wAnd, a_wOr, a_wNot, a_wAndV, a_wOrV, a_wNotV, a_wIf, a_wCh, a_wNil, a_wCons, a_wStar, a_wTup, a_wLst, a_wCal, a_wCall, a_wCall0, a_wCallK, a_wCallB, a_wGot, a_noX, a_wCh3, a_wAugC, gInI_i, a_wCalK, a_wSl, a_wNo, a_wPart, a_wFld, a_wMth, a_wM0, a_wM1, a_wgN, a_wgNil, a_wgCons, a_wgT, a_wLc, a_wYes, a_itK, itK_lst, itK_tup, itK_str, seqD_lst, seqD_tup, a_wRg1, a_wRg2, a_wRg3, a_wEnumU, a_wEnumL, a_wZipU, a_wRevU, a_wComb, wipeD, a_mapS, a_map0, a_lenS, a_len0, List.replicate, a_appS, a_app0, a_set0, a_setS, Nat.reduceAdd, Nat.reduceSub, Nat.zero_add, true_and, and_true, gAdd_i, gAdd_s, gAdd_l, gAdd_t, gCat_l, gSub_i, gMul_i, gMul_l, gMul_t, gFdiv_i, gMod_i, gPow_i, gLt_i, gLe_i, gGt_i, gGe_i, gLen_l, gLen_t, gLen_s, gAbs_i, gToInt_i, gToInt_b, gToBl_i, gToBl_b, gToTup_l, gToTup_t, gToLst_l, gToLst_t, gMax2_i, gMin2_i, gNeg_i, gSl_l, gSl_t, gSl_s, gSlL_l, gRevL_l, gIsN_n, gIsN_b, gIsN_i, gIsN_s, gIsN_l, gIsN_t, gNotN_n, gNotN_b, gNotN_i, gNotN_s, gNotN_l, gNotN_t, truD, gEq_int, gNe_int, Bool.not_true, Bool.not_false]
    exact hk
theorem cs__law_parts (B : Bl mg) (DD : OwnDef K mg "_law_parts" s__law_parts) (C__law_splits : CalG P w K mg base 12 "_law_splits" (spWF (suR K mg c TLb) 3 f__law_splits) []) (C__law_can : CalG P w K mg base 2 "_law_can" (spW (suR K mg c TLb) 3 f__law_can) []) (C__law_at : CalG P w K mg base 1 "_law_at" (spW (suR K mg c TLb) 2 f__law_at) [])  : CalG P w K mg base 13 "_law_parts" (spW (suR K mg c TLb) 4 f__law_parts) [] :=
  (pc__law_parts B DD C__law_splits C__law_can C__law_at).imp (spW_mono fun ds k e ln h => ok__law_parts ds k e ln h)
def w__law_due : WS := (wSeq (wSet 4 (wCall0 4 f__law_parts (wCons (wV 0) (wCons (wV 1) (wCons (wV 2) (wCons (wV 3) wNil))))))
      (wSeq (wIfS (wTst (wBin gEq (wV 4) (wLst wNil))) (wRet (wC .non)) wNx)
      (wSeq (wSet 5 (wBin gIx (wV 4) (wC (.int 0))))
      (wSeq (wFor (wIt (wV 4)) (wgN 6)
      (wSet 5 (wIf (wTst (wBin gLt (wBin LW.gMul (wBin gIx (wV 6) (wC (.int 0))) (wBin gIx (wV 5) (wC (.int 1)))) (wBin LW.gMul (wBin gIx (wV 5) (wC (.int 0))) (wBin gIx (wV 6) (wC (.int 1)))))) (wV 6) (wV 5))))
      (wRet (wTup (wCons (wCall0 2 f__law_pair (wCons (wBin gIx (wV 5) (wC (.int 0))) (wCons (wBin gIx (wV 5) (wC (.int 1))) wNil))) (wCons (wBin gGt (wBin gIx (wV 5) (wC (.int 0))) (wC (.int 0))) wNil))))))))
theorem pb__law_due (B : Bl mg) (C__law_parts : CalG P w K mg base 13 "_law_parts" (spW (suR K mg c TLb) 4 f__law_parts) []) (C__law_pair : CalG P w K mg base 2 "_law_pair" (spW (suR K mg c TLb) 2 f__law_pair) [])  : Bdy P w K mg base 13 "_law_due" s__law_due ["_law_own", "_law_size", "_law_many", "_law_least", "_law_found", "_law_best", "_law_each"] (suR K mg c TLb) w__law_due := fun f cdv A outer s H E hr quiet =>
      (xsCons (xsSet (i := 4) sc__law_due.nd rfl (Or.inl rfl) (xCall0 (pe_cG quiet C__law_parts hr (by decide) (by rfl) (xACons (xV (pv 0)) (xACons (xV (pv 1)) (xACons (xV (pv 2)) (xACons (xV (pv 3)) xANil)))))))
      (xsCons (xsIf (xTCmp (op_eqD hr.units) pEq (xw (xV (pv 4))) (xw (xf (xLst xANil))) (nomark _)) (xsOne (xsRet (xw (xNon pe_non)))) xsNil)
      (xsCons (xsSet (i := 5) sc__law_due.nd rfl (Or.inl rfl) (xIx ix_seq pIx (xw (xV (pv 4))) (xw (xInt pe_int)) (fun _ _ => rfl)))
      (xsCons (xsFor PassesOwn.never (by rfl) (xIt (xV (pv 4))) (xgN (pg_name (i := 6) sc__law_due.nd rfl (Or.inl rfl)))
      (xsOne (xsSet (i := 5) sc__law_due.nd rfl (Or.inl rfl) (xIf (xTCmp op_lt pLt (xw (xBin op_mulU pMul (xw (xIx ix_seq pIx (xw (xV (pv 6))) (xw (xInt pe_int)) (fun _ _ => rfl))) (xw (xIx ix_seq pIx (xw (xV (pv 5))) (xw (xInt pe_int)) (fun _ _ => rfl))))) (xw (xBin op_mulU pMul (xw (xIx ix_seq pIx (xw (xV (pv 5))) (xw (xInt pe_int)) (fun _ _ => rfl))) (xw (xIx ix_seq pIx (xw (xV (pv 6))) (xw (xInt pe_int)) (fun _ _ => rfl))))) (nomark _)) (xV (pv 6)) (xV (pv 5))))))
      (xsOne (xsRet (xw (xTup (xACons (xCall0 (pe_cG quiet C__law_pair hr (by decide) (by rfl) (xACons (xIx ix_seq pIx (xw (xV (pv 5))) (xw (xInt pe_int)) (fun _ _ => rfl)) (xACons (xIx ix_seq pIx (xw (xV (pv 5))) (xw (xInt pe_int)) (fun _ _ => rfl)) xANil)))) (xACons (xCmp op_gt pGt (xw (xIx ix_seq pIx (xw (xV (pv 5))) (xw (xInt pe_int)) (fun _ _ => rfl))) (xw (xInt pe_int)) (nomark _)) xANil))))))))))
theorem pc__law_due (B : Bl mg) (DD : OwnDef K mg "_law_due" s__law_due) (C__law_parts : CalG P w K mg base 13 "_law_parts" (spW (suR K mg c TLb) 4 f__law_parts) []) (C__law_pair : CalG P w K mg base 2 "_law_pair" (spW (suR K mg c TLb) 2 f__law_pair) [])  : CalG P w K mg base 14 "_law_due" (spW (suR K mg c TLb) 4 (wFn 7 w__law_due)) [] :=
  calG_by DD sc__law_due rfl (fun fd f F => F.binds (fun _ _ _ _ _ _ us hl => match us, hl with | [_, _, _, _], _ => rfl)) (pb__law_due B C__law_parts C__law_pair)
def f__law_due : SpF := fun ds k _ => ∃ b ms s, ∃ (sz many least : Nat), ds = [irP b ms s, .int (sz : Nat), .int (many : Nat), .int (least : Nat)] ∧ IR b ms s ∧ 2 ≤ sz ∧ sz ≤ 12 ∧ many ≤ 9 ∧ least ≤ 100 ∧ k (paD (dueP (partsL (atM b ms s) (sz - 1) many least)))
theorem parts_size {b s : Int} {ms : List Int} (ir : IR b ms s) {sz many least : Nat} (z12 : sz ≤ 12) (m9 : many ≤ 9) : ∀ p ∈ partsL (atM b ms s) (sz - 1) many least, 0 ≤ p.1 ∧ 0 < p.2 ∧ p.1.natAbs < 2 ^ 104 ∧ p.2.natAbs < 2 ^ 104 := fun p hp => by
  obtain ⟨mine, X, h1, h2, h3, h4, _, _, rfl⟩ := mem_parts.mp hp
  have t100 : (2 : Nat) ^ 100 = 1267650600228229401496703205376 := by decide
  have t104 : (2 : Nat) ^ 104 = 20282409603651670423947251286016 := by decide
  obtain ⟨p0, p1⟩ := pair_ok ir.nn0 mine X
  refine ⟨p0, p1, ?_⟩
  have tb : (topN (atM b ms s) mine) < 1267650600228229401496703205376 := by
    unfold topN
    split
    · decide
    · have := atM_bnd ir (k := mine - 1) (by omega)
      rw [t100] at this
      omega
  have sb : ∀ Y : List Nat, (∀ y ∈ Y, y ≤ 1000) → (Y.map (atM b ms s)).sum ≤ (Y.length : Int) * 1267650600228229401496703205376 := fun Y => by
    induction Y with
    | nil => intro _; simp
    | cons y Y ih =>
      intro h
      have a1 := atM_bnd ir (k := y) (h y (by simp))
      have a2 := ih fun u hu => h u (List.mem_cons_of_mem _ hu)
      rw [t100] at a1
      rw [List.map_cons, List.sum_cons, List.length_cons, Int.natCast_add, Int.add_mul]
      omega
  have sX := sb X fun x hx => by have := mem_sum_le hx; omega
  have : (X.length : Int) * 1267650600228229401496703205376 ≤ 11 * 1267650600228229401496703205376 := Int.mul_le_mul_of_nonneg_right (by omega) (by decide)
  have e1 : (pairN (atM b ms s) mine X).1 = topN (atM b ms s) mine := rfl
  have e2 : (pairN (atM b ms s) mine X).2 = if 0 < topN (atM b ms s) mine then topN (atM b ms s) mine + (X.map (atM b ms s)).sum else 1 := rfl
  have z := sum_nn ir.nn0 X
  rw [t104]
  refine ⟨by omega, ?_⟩
  rw [e2] at p1 ⊢
  split <;> omega
theorem gEq_nil {l : List Dt} {p : PyData} (sh : Shw (.lst l) p) (k : Dt → Prop) : gEq (.lst l) (.lst []) k = k (.bl l.isEmpty) := by
  have e := sh.py
  rw [gEq_of sh.py (show toPy (.lst []) = some (.list []) from rfl) sh.shaped (by decide)]
  rw [toPy] at e
  cases l with
  | nil => cases e; rfl
  | cons d ds =>
    cases e2 : toPys (d :: ds) with
    | none => rw [e2] at e; cases e
    | some ps =>
      rw [e2] at e
      cases e
      have := toPys_len e2
      cases ps with
      | nil => simp at this
      | cons a b => rfl
theorem prs_shw {R : List (Int × Int)} (l : R.length ≤ 400) (h : ∀ p ∈ R, p.1.natAbs < 2 ^ 104 ∧ p.2.natAbs < 2 ^ 104) : ∃ p, Shw (.lst (R.map prD)) p := by
  refine (Shn.lst (B := 110) (W := 212) (D := 1) (l := R.map prD) fun d hd => ?_).shw (by decide) (by decide) (by rw [List.length_map]; omega) (by decide)
  obtain ⟨p, hp, rfl⟩ := List.mem_map.mp hd
  obtain ⟨h1, h2⟩ := h p hp
  refine (Shn.tup (W := 105) (D := 0) (l := [.int p.1, .int p.2]) fun d hd => ?_).mono (show 2 * (105 + 1) ≤ 212 by decide) (by decide)
  simp only [List.mem_cons, List.not_mem_nil, or_false] at hd
  rcases hd with rfl | rfl
  · exact Shn.int h1 (by decide)
  · exact Shn.int h2 (by decide)
theorem paD_shn {r : Option ((Int × Int) × Bool)} (h : ∀ q t, r = some (q, t) → q.1.natAbs < 2 ^ 104 ∧ q.2.natAbs < 2 ^ 104) : Shn 110 500 2 (paD r) := by
  cases r with
  | none => exact Shn.non.mono (by decide) (by decide)
  | some p =>
    obtain ⟨q, t⟩ := p
    obtain ⟨z1, z2⟩ := h q t rfl
    refine (Shn.tup (W := 212) (D := 1) (l := [prD q, .bl t]) fun d hd => ?_).mono (show 2 * (212 + 1) ≤ 500 by decide) (by decide)
    simp only [List.mem_cons, List.not_mem_nil, or_false] at hd
    rcases hd with rfl | rfl
    · refine (Shn.tup (W := 105) (D := 0) (l := [.int q.1, .int q.2]) fun d hd => ?_).mono (show 2 * (105 + 1) ≤ 212 by decide) (by decide)
      simp only [List.mem_cons, List.not_mem_nil, or_false] at hd
      rcases hd with rfl | rfl
      · exact Shn.int z1 (by decide)
      · exact Shn.int z2 (by decide)
    · exact (Shn.bl t).mono (by decide) (by decide)
theorem due_shn {P : List (Int × Int)} (h : ∀ p ∈ P, p.1.natAbs < 2 ^ 104 ∧ p.2.natAbs < 2 ^ 104) : Shn 110 500 2 (paD (dueP P)) := by
  refine paD_shn fun q t e => ?_
  match P, h, e with
  | p :: ps, h, e =>
    cases e
    have m : (p :: ps).foldl lessF p ∈ p :: ps := by
      have key : ∀ (l : List (Int × Int)) (b : Int × Int), l.foldl lessF b ∈ b :: l := fun l => by
        induction l with
        | nil => intro b; simp
        | cons e l ih =>
          intro b
          rw [List.foldl_cons]
          rcases List.mem_cons.mp (ih (lessF b e)) with z | z
          · rw [z]
            unfold lessF
            split
            · exact List.mem_cons_of_mem _ List.mem_cons_self
            · exact List.mem_cons_self
          · exact List.mem_cons_of_mem _ (List.mem_cons_of_mem _ z)
      rcases List.mem_cons.mp (key (p :: ps) p) with z | z
      · rw [z]; exact List.mem_cons_self
      · exact z
    obtain ⟨h1, h2⟩ := h _ m
    obtain ⟨l1, l2⟩ := lowQ_le ((p :: ps).foldl lessF p).1 ((p :: ps).foldl lessF p).2
    exact ⟨Nat.lt_of_le_of_lt l1 h1, Nat.lt_of_le_of_lt l2 h2⟩
theorem ok__law_due (ds k e) (ln : ds.length = 4) (h : f__law_due ds k e) : wFn 7 w__law_due ds k e := by
  obtain ⟨b, ms, s, sz, many, least, rfl, ir, z2, z12, m9, lm, hk⟩ := h
  (simp only [a_wFn, a_wFnF, a_mapS, a_map0, List.replicate, a_appS, a_app0, a_lenS, a_len0, Nat.reduceAdd, Nat.reduceSub, Nat.zero_add]; unfold w__law_due; simp only [a_wFn, a_wSeq, a_wNx, a_wBk, a_wCt, a_wEx, a_wSet, a_wOwn, a_wAsg, a_wPar, a_wRet, a_wRetN, a_wRetF, a_wRetFO, a_wParO, a_wFnF, a_wIfS, a_wApp, a_wExt, a_wFrz, a_wAugI, a_wSetIx, a_wAugIx, a_wFor, a_lookL0, a_lookLS, a_look0, a_lookS, a_lookO0, a_lookO1, a_lookOS, a_wV, a_wO, a_wC, a_wBin, a_wUn, a_wTst, a_wTru, a_wAnd, a_wOr, a_wNot, a_wAndV, a_wOrV, a_wNotV, a_wIf, a_wCh, a_wNil, a_wCons, a_wStar, a_wTup, a_wLst, a_wCal, a_wCall, a_wCall0, a_wCallK, a_wCallB, a_wGot, a_noX, a_wCh3, a_wAugC, gInI_i, a_wCalK, a_wSl, a_wNo, a_wPart, a_wFld, a_wMth, a_wM0, a_wM1, a_wgN, a_wgNil, a_wgCons, a_wgT, a_wLc, a_wYes, a_itK, itK_lst, itK_tup, itK_str, seqD_lst, seqD_tup, a_wRg1, a_wRg2, a_wRg3, a_wEnumU, a_wEnumL, a_wZipU, a_wRevU, a_wComb, wipeD, a_mapS, a_map0, a_lenS, a_len0, List.replicate, a_appS, a_app0, a_set0, a_setS, Nat.reduceAdd, Nat.reduceSub, Nat.zero_add, true_and, and_true, gAdd_i, gAdd_s, gAdd_l, gAdd_t, gCat_l, gSub_i, gMul_i, gMul_l, gMul_t, gFdiv_i, gMod_i, gPow_i, gLt_i, gLe_i, gGt_i, gGe_i, gLen_l, gLen_t, gLen_s, gAbs_i, gToInt_i, gToInt_b, gToBl_i, gToBl_b, gToTup_l, gToTup_t, gToLst_l, gToLst_t, gMax2_i, gMin2_i, gNeg_i, gSl_l, gSl_t, gSl_s, gSlL_l, gRevL_l, gIsN_n, gIsN_b, gIsN_i, gIsN_s, gIsN_l, gIsN_t, gNotN_n, gNotN_b, gNotN_i, gNotN_s, gNotN_l, gNotN_t, truD, gEq_int, gNe_int, Bool.not_true, Bool.not_false])
  refine ⟨b, ms, s, sz, many, least, rfl, ir, z2, z12, m9, lm, ?_⟩
  have ps := parts_size ir (sz := sz) (many := many) (least := least) z12 m9
  have pl : (partsL (atM b ms s) (sz - 1) many least).length ≤ 300 := by
    have := partsB_len (atM b ms s) (s := sz - 1) (many := many) (by omega) (by omega) least (many + 1 - least)
    unfold partsL
    omega
  generalize partsL (atM b ms s) (sz - 1) many least = P at *
  obtain ⟨py, sh⟩ := prs_shw (R := P) (by omega) fun p hp => (ps p hp).2.2
  refine ⟨by decide, ?_⟩
  rw [gEq_nil sh]
  match P, ps, pl, hk with
  | [], _, _, hk => exact hk
  | p :: R, ps, pl, hk =>
    show gIx _ _ _
    refine ⟨_, rfl, ?_⟩
    show forL _ _ _ _ _ _
    refine forL_by (fun j δ => ∃ x, δ = [some (.val (irP b ms s)), some (.val (.int (sz : Nat))), some (.val (.int (many : Nat))), some (.val (.int (least : Nat))), some (.val (.lst ((p :: R).map prD))), some (.val (prD (((p :: R).take j).foldl lessF p))), x]) ⟨_, rfl⟩ (fun j x δ K hx hI hK => ?_) fun δ hI => ?_
    · obtain ⟨x', rfl⟩ := hI
      obtain ⟨q, hq, rfl⟩ := some_map hx
      obtain ⟨q0, q1, q2, q3⟩ := ps q (List.mem_of_getElem? hq)
      have bm : ((p :: R).take j).foldl lessF p ∈ p :: R := by
        rcases List.mem_cons.mp (foldl_less ((p :: R).take j) p (ps p (by simp)).2.1 fun e he => (ps e (List.mem_of_mem_take he)).2.1).1 with z | z
        · rw [z]; exact List.mem_cons_self
        · exact List.mem_of_mem_take z
      obtain ⟨b0, b1, b2, b3⟩ := ps _ bm
      have tk : ((p :: R).take (j + 1)).foldl lessF p = lessF (((p :: R).take j).foldl lessF p) q := by
        rw [List.take_succ, hq, Option.toList_some, List.foldl_append]
        rfl
      generalize ((p :: R).take j).foldl lessF p = r at *
      simp only [a_wFn, a_wSeq, a_wNx, a_wBk, a_wCt, a_wEx, a_wSet, a_wOwn, a_wAsg, a_wPar, a_wRet, a_wRetN, a_wRetF, a_wRetFO, a_wParO, a_wFnF, a_wIfS, a_wApp, a_wExt, a_wFrz, a_wAugI, a_wSetIx, a_wAugIx, a_wFor, a_lookL0, a_lookLS, a_look0, a_lookS, a_lookO0, a_lookO1, a_lookOS, a_wV, a_wO, a_wC, a_wBin, a_wUn, a_wTst, a_wTru, a_wAnd, a_wOr, a_wNot, a_wAndV, a_wOrV, a_wNotV, a_wIf, a_wCh, a_wNil, a_wCons, a_wStar, a_wTup, a_wLst, a_wCal, a_wCall, a_wCall0, a_wCallK, a_wCallB, a_wGot, a_noX, a_wCh3, a_wAugC, gInI_i, a_wCalK, a_wSl, a_wNo, a_wPart, a_wFld, a_wMth, a_wM0, a_wM1, a_wgN, a_wgNil, a_wgCons, a_wgT, a_wLc, a_wYes, a_itK, itK_lst, itK_tup, itK_str, seqD_lst, seqD_tup, a_wRg1, a_wRg2, a_wRg3, a_wEnumU, a_wEnumL, a_wZipU, a_wRevU, a_wComb, wipeD, a_mapS, a_map0, a_lenS, a_len0, List.replicate, a_appS, a_app0, a_set0, a_setS, Nat.reduceAdd, Nat.reduceSub, Nat.zero_add, true_and, and_true, gAdd_i, gAdd_s, gAdd_l, gAdd_t, gCat_l, gSub_i, gMul_i, gMul_l, gMul_t, gFdiv_i, gMod_i, gPow_i, gLt_i, gLe_i, gGt_i, gGe_i, gLen_l, gLen_t, gLen_s, gAbs_i, gToInt_i, gToInt_b, gToBl_i, gToBl_b, gToTup_l, gToTup_t, gToLst_l, gToLst_t, gMax2_i, gMin2_i, gNeg_i, gSl_l, gSl_t, gSl_s, gSlL_l, gRevL_l, gIsN_n, gIsN_b, gIsN_i, gIsN_s, gIsN_l, gIsN_t, gNotN_n, gNotN_b, gNotN_i, gNotN_s, gNotN_l, gNotN_t, truD, gEq_int, gNe_int, Bool.not_true, Bool.not_false]
      refine ⟨_, rfl, ?_⟩
      refine ⟨_, rfl, ?_⟩
      refine ⟨wide_mul q2 b3 (by decide) (by decide) (by decide), ?_⟩
      refine ⟨_, rfl, ?_⟩
      refine ⟨_, rfl, ?_⟩
      refine ⟨wide_mul b2 q3 (by decide) (by decide) (by decide), ?_⟩
      have tk' : ((p :: R).take (j + 1)).foldl lessF p = if q.1 * r.2 < r.1 * q.2 then q else r := tk
      have go : K [some (.val (irP b ms s)), some (.val (.int (sz : Nat))), some (.val (.int (many : Nat))), some (.val (.int (least : Nat))), some (.val (.lst ((p :: R).map prD))), some (.val (prD (((p :: R).take (j + 1)).foldl lessF p))), some (.val (prD q))] := hK _ ⟨_, rfl⟩
      rw [tk'] at go
      simp only [a_wFn, a_wSeq, a_wNx, a_wBk, a_wCt, a_wEx, a_wSet, a_wOwn, a_wAsg, a_wPar, a_wRet, a_wRetN, a_wRetF, a_wRetFO, a_wParO, a_wFnF, a_wIfS, a_wApp, a_wExt, a_wFrz, a_wAugI, a_wSetIx, a_wAugIx, a_wFor, a_lookL0, a_lookLS, a_look0, a_lookS, a_lookO0, a_lookO1, a_lookOS, a_wV, a_wO, a_wC, a_wBin, a_wUn, a_wTst, a_wTru, a_wAnd, a_wOr, a_wNot, a_wAndV, a_wOrV, a_wNotV, a_wIf, a_wCh, a_wNil, a_wCons, a_wStar, a_wTup, a_wLst, a_wCal, a_wCall, a_wCall0, a_wCallK, a_wCallB, a_wGot, a_noX, a_wCh3, a_wAugC, gInI_i, a_wCalK, a_wSl, a_wNo, a_wPart, a_wFld, a_wMth, a_wM0, a_wM1, a_wgN, a_wgNil, a_wgCons, a_wgT, a_wLc, a_wYes, a_itK, itK_lst, itK_tup, itK_str, seqD_lst, seqD_tup, a_wRg1, a_wRg2, a_wRg3, a_wEnumU, a_wEnumL, a_wZipU, a_wRevU, a_wComb, wipeD, a_mapS, a_map0, a_lenS, a_len0, List.replicate, a_appS, a_app0, a_set0, a_setS, Nat.reduceAdd, Nat.reduceSub, Nat.zero_add, true_and, and_true, gAdd_i, gAdd_s, gAdd_l, gAdd_t, gCat_l, gSub_i, gMul_i, gMul_l, gMul_t, gFdiv_i, gMod_i, gPow_i, gLt_i, gLe_i, gGt_i, gGe_i, gLen_l, gLen_t, gLen_s, gAbs_i, gToInt_i, gToInt_b, gToBl_i, gToBl_b, gToTup_l, gToTup_t, gToLst_l, gToLst_t, gMax2_i, gMin2_i, gNeg_i, gSl_l, gSl_t, gSl_s, gSlL_l, gRevL_l, gIsN_n, gIsN_b, gIsN_i, gIsN_s, gIsN_l, gIsN_t, gNotN_n, gNotN_b, gNotN_i, gNotN_s, gNotN_l, gNotN_t, truD, gEq_int, gNe_int, Bool.not_true, Bool.not_false]
      by_cases lt : q.1 * r.2 < r.1 * q.2
      · rw [decide_eq_true lt]
        rw [if_pos lt] at go
        exact go
      · rw [decide_eq_false lt]
        rw [if_neg lt] at go
        exact go
    · obtain ⟨x', rfl⟩ := hI
      rw [List.length_map,
            List.take_length]
      have hk : k (paD (some (lowQ ((p :: R).foldl lessF p).1 ((p :: R).foldl lessF p).2, decide (0 < ((p :: R).foldl lessF p).1)))) := hk
      have bm : (p :: R).foldl lessF p ∈ p :: R := by
        rcases List.mem_cons.mp (foldl_less (p :: R) p (ps p (by simp)).2.1 fun e he => (ps e he).2.1).1 with z | z
        · rw [z]; exact List.mem_cons_self
        · exact z
      obtain ⟨b0, b1, b2, b3⟩ := ps _ bm
      generalize (p :: R).foldl lessF p = r at *
      have t := Nat.pow_lt_pow_right (show 1 < 2 by decide) (show 104 < 200 by decide)
      simp only [a_wFn, a_wSeq, a_wNx, a_wBk, a_wCt, a_wEx, a_wSet, a_wOwn, a_wAsg, a_wPar, a_wRet, a_wRetN, a_wRetF, a_wRetFO, a_wParO, a_wFnF, a_wIfS, a_wApp, a_wExt, a_wFrz, a_wAugI, a_wSetIx, a_wAugIx, a_wFor, a_lookL0, a_lookLS, a_look0, a_lookS, a_lookO0, a_lookO1, a_lookOS, a_wV, a_wO, a_wC, a_wBin, a_wUn, a_wTst, a_wTru, a_wAnd, a_wOr, a_wNot, a_wAndV, a_wOrV, a_wNotV, a_wIf, a_wCh, a_wNil, a_wCons, a_wStar, a_wTup, a_wLst, a_wCal, a_wCall, a_wCall0, a_wCallK, a_wCallB, a_wGot, a_noX, a_wCh3, a_wAugC, gInI_i, a_wCalK, a_wSl, a_wNo, a_wPart, a_wFld, a_wMth, a_wM0, a_wM1, a_wgN, a_wgNil, a_wgCons, a_wgT, a_wLc, a_wYes, a_itK, itK_lst, itK_tup, itK_str, seqD_lst, seqD_tup, a_wRg1, a_wRg2, a_wRg3, a_wEnumU, a_wEnumL, a_wZipU, a_wRevU, a_wComb, wipeD, a_mapS, a_map0, a_lenS, a_len0, List.replicate, a_appS, a_app0, a_set0, a_setS, Nat.reduceAdd, Nat.reduceSub, Nat.zero_add, true_and, and_true, gAdd_i, gAdd_s, gAdd_l, gAdd_t, gCat_l, gSub_i, gMul_i, gMul_l, gMul_t, gFdiv_i, gMod_i, gPow_i, gLt_i, gLe_i, gGt_i, gGe_i, gLen_l, gLen_t, gLen_s, gAbs_i, gToInt_i, gToInt_b, gToBl_i, gToBl_b, gToTup_l, gToTup_t, gToLst_l, gToLst_t, gMax2_i, gMin2_i, gNeg_i, gSl_l, gSl_t, gSl_s, gSlL_l, gRevL_l, gIsN_n, gIsN_b, gIsN_i, gIsN_s, gIsN_l, gIsN_t, gNotN_n, gNotN_b, gNotN_i, gNotN_s, gNotN_l, gNotN_t, truD, gEq_int, gNe_int, Bool.not_true, Bool.not_false]
      refine ⟨_, rfl, ?_⟩
      refine ⟨_, rfl, ?_⟩
      refine ⟨r.1, r.2, rfl, b0, b1, Nat.lt_trans b2 t, Nat.lt_trans b3 t, ?_⟩
      refine ⟨_, rfl, ?_⟩
      simp only [a_wFn, a_wSeq, a_wNx, a_wBk, a_wCt, a_wEx, a_wSet, a_wOwn, a_wAsg, a_wPar, a_wRet, a_wRetN, a_wRetF, a_wRetFO, a_wParO, a_wFnF, a_wIfS, a_wApp, a_wExt, a_wFrz, a_wAugI, a_wSetIx, a_wAugIx, a_wFor, a_lookL0, a_lookLS, a_look0, a_lookS, a_lookO0, a_lookO1, a_lookOS, a_wV, a_wO, a_wC, a_wBin, a_wUn, a_wTst, a_wTru, a_wAnd, a_wOr, a_wNot, a_wAndV, a_wOrV, a_wNotV, a_wIf, a_wCh, a_wNil, a_wCons, a_wStar, a_wTup, a_wLst, a_wCal, a_wCall, a_wCall0, a_wCallK, a_wCallB, a_wGot, a_noX, a_wCh3, a_wAugC, gInI_i, a_wCalK, a_wSl, a_wNo, a_wPart, a_wFld, a_wMth, a_wM0, a_wM1, a_wgN, a_wgNil, a_wgCons, a_wgT, a_wLc, a_wYes, a_itK, itK_lst, itK_tup, itK_str, seqD_lst, seqD_tup, a_wRg1, a_wRg2, a_wRg3, a_wEnumU, a_wEnumL, a_wZipU, a_wRevU, a_wComb, wipeD, a_mapS, a_map0, a_lenS, a_len0, List.replicate, a_appS, a_app0, a_set0, a_setS, Nat.reduceAdd, Nat.reduceSub, Nat.zero_add, true_and, and_true, gAdd_i, gAdd_s, gAdd_l, gAdd_t, gCat_l, gSub_i, gMul_i, gMul_l, gMul_t, gFdiv_i, gMod_i, gPow_i, gLt_i, gLe_i, gGt_i, gGe_i, gLen_l, gLen_t, gLen_s, gAbs_i, gToInt_i, gToInt_b, gToBl_i, gToBl_b, gToTup_l, gToTup_t, gToLst_l, gToLst_t, gMax2_i, gMin2_i, gNeg_i, gSl_l, gSl_t, gSl_s, gSlL_l, gRevL_l, gIsN_n, gIsN_b, gIsN_i, gIsN_s, gIsN_l, gIsN_t, gNotN_n, gNotN_b, gNotN_i, gNotN_s, gNotN_l, gNotN_t, truD, gEq_int, gNe_int, Bool.not_true, Bool.not_false]
      exact ⟨by decide, hk⟩
theorem cs__law_due (B : Bl mg) (DD : OwnDef K mg "_law_due" s__law_due) (C__law_parts : CalG P w K mg base 13 "_law_parts" (spW (suR K mg c TLb) 4 f__law_parts) []) (C__law_pair : CalG P w K mg base 2 "_law_pair" (spW (suR K mg c TLb) 2 f__law_pair) [])  : CalG P w K mg base 14 "_law_due" (spW (suR K mg c TLb) 4 f__law_due) [] :=
  (pc__law_due B DD C__law_parts C__law_pair).imp (spW_mono fun ds k e ln h => ok__law_due ds k e ln h)
/-! ### rules made by hand -/
theorem ir_10 : IR 1 [] 0 := ⟨by decide, by decide, by decide, by decide, by decide, by simp, fun i p q h => by simp at h, fun m h => by simp at h⟩
theorem ir_11 : IR 1 [] 1 := ⟨by decide, by decide, by decide, by decide, by decide, by simp, fun i p q h => by simp at h, fun m h => by simp at h⟩
theorem ir_21 : IR 2 [] 1 := ⟨by decide, by decide, by decide, by decide, by decide, by simp, fun i p q h => by simp at h, fun m h => by simp at h⟩
theorem ir_105 : IR 10 [7] 5 := ⟨by decide, by decide, by decide, by decide, by decide, by simp, fun i p q h1 h2 => by
  match i with
  | 0 => simp at h2
  | i + 1 => simp at h1, fun m h => by simp at h; subst h; decide⟩
theorem bot_int (i : Int) : ∀ a b : Int, PyData.int i = encQ (a, b) → b.natAbs < 2 ^ 8000 := fun a b h => by unfold encQ at h; cases h
theorem bot_small {i j : Int} (h : j.natAbs < 100) : ∀ a b : Int, PyData.tuple [.int i, .int j] = encQ (a, b) → b.natAbs < 2 ^ 8000 := fun a b e => by
  unfold encQ at e
  cases e
  exact Nat.lt_trans h (by decide +kernel)
theorem vh_nil {o : Int × Int} (h : o.1.natAbs < 100 ∧ o.2.natAbs < 100) : VH o [] := ⟨by decide, ⟨Nat.lt_trans h.1 (by decide), Nat.lt_trans h.2 (by decide)⟩, by simp, fun i d h => by simp at h, fun m h => by simp at h⟩
theorem vh_710 : VH (lowD (.tuple [.int 1, .int 2])) [.tuple [.int 7, .int 10]] := by
  refine ⟨by decide, by decide +kernel, fun d hd => ?_, fun i d h => ?_, fun m h => ?_⟩
  · rw [List.mem_singleton.mp hd]
    exact ⟨by decide +kernel, bot_small (by decide), by decide +kernel⟩
  · match i with
    | 0 => cases h; decide +kernel
    | i + 1 => simp at h
  · cases h
    unfold ltQ
    decide +kernel
theorem ru_0 {δ : De} {K : Dt → Prop} (h : K (.obj 0 (ruD (lowQ 0 1) (lowL 1 [])))) : wRuN (wCons (wC (.int 0)) wNil) δ K nE := ⟨.int 0, [], _, _, rfl, by decide +kernel, bot_int 0, vh_nil (by decide +kernel), by decide +kernel, rfl, ir_10.vr, h⟩
theorem ru_1 {δ : De} {K : Dt → Prop} (h : K (.obj 0 (ruD (lowQ 1 1) (lowL 1 [])))) : wRuN (wCons (wC (.int 1)) wNil) δ K nE := ⟨.int 1, [], _, _, rfl, by decide +kernel, bot_int 1, vh_nil (by decide +kernel), by decide +kernel, rfl, ir_11.vr, h⟩
theorem ru_12 {δ : De} {K : Dt → Prop} (h : K (.obj 0 (ruD (lowQ 1 2) (lowL 2 [])))) : wRuN (wCons (wTup (wCons (wC (.int 1)) (wCons (wC (.int 2)) wNil))) wNil) δ K nE := ⟨by decide, .tuple [.int 1, .int 2], [], _, _, rfl, by decide +kernel, bot_small (by decide), vh_nil (by decide +kernel), by decide +kernel, rfl, ir_21.vr, h⟩
theorem ru_1210 {δ : De} {K : Dt → Prop} (h : K (.obj 0 (ruD (lowQ 5 10) (lowL 10 [7])))) : wRuN (wCons (wTup (wCons (wC (.int 1)) (wCons (wC (.int 2)) wNil))) (wCons (wTup (wCons (wC (.int 7)) (wCons (wC (.int 10)) wNil))) wNil)) δ K nE := ⟨by decide, by decide, .tuple [.int 1, .int 2], [.tuple [.int 7, .int 10]], _, _, rfl, by decide +kernel, bot_small (by decide), vh_710, by decide +kernel, by decide +kernel, ir_105.vr, h⟩
section
variable {P : Program} {w : World} {K : PySem.W.Frag} {mg : Str
      → Option Value} {base : Heap}
/-- a def without parameters -/
theorem calG0_by {S : Su} {x : Str} {st : Stmt} {N : List Str} {wb : WS} {k : Nat} (DD : OwnDef K mg x st) (sc : FnScope N [] (defScope st))
    (bd : ∀ fd : FuncData, (∀ (f : Addr), Fun K x x st f fd → Binds K fd [] [])) (body : Bdy P w K mg base k x st N S wb) {f : SpF} (ok : ∀ ds kk e, ds.length = 0 → f ds kk e → wFn N.length wb ds kk e) : CalG0 P w K mg base (k + 1) x (spW S 0 f) := by
  obtain ⟨g, fd, F, hm⟩ := DD.ex
  exact ⟨g, fd, Fun_okG F sc (fun vs H Q E h => spW_len vs H Q E h) (fun cdv A outer s H vs Q E hr hq h => ⟨_, body g cdv A outer s H E hr hq, fnT (spW_mono ok vs H Q E h)⟩), hm, F.kp, fun s ks => bd fd g F s [] ks rfl⟩
end
def w__law_hand_right : WS := (wSeq (wSet 0 (wLst (wCons (wCall0 4 f_least_possible (wCons (wRuN (wCons (wC (.int 1)) wNil)) (wCons (wC (.int 2)) (wCons (wC (.int 3)) (wCons (wC (.int 1)) wNil))))) (wCons (wCall0 4 f_least_possible (wCons (wRuN (wCons (wC (.int 0)) wNil)) (wCons (wC (.int 3)) (wCons (wC (.int 3)) (wCons (wC (.int 1)) wNil))))) (wCons (wCall0 4 f_least_possible (wCons (wRuN (wCons (wC (.int 0)) wNil)) (wCons (wC (.int 3)) (wCons (wC (.int 3)) (wCons (wC (.int 2)) wNil))))) wNil)))))
      (wSeq (wSet 0 (wBin gCat (wV 0) (wLst (wCons (wCall0 4 f_least_possible (wCons (wRuN (wCons (wC (.int 0)) wNil)) (wCons (wC (.int 3)) (wCons (wC (.int 4)) (wCons (wC (.int 2)) wNil))))) (wCons (wCall0 4 f_least_possible (wCons (wRuN (wCons (wC (.int 1)) wNil)) (wCons (wC (.int 12)) (wCons (wC (.int 1)) (wCons (wC (.int 1)) wNil))))) wNil)))))
      (wSeq (wSet 0 (wBin gCat (wV 0) (wLst (wCons (wCall0 4 f_least_possible (wCons (wRuN (wCons (wC (.int 1)) wNil)) (wCons (wC (.int 2)) (wCons (wC (.int 0)) (wCons (wC (.int 0)) wNil))))) (wCons (wCall0 4 f_least_possible (wCons (wRuN (wCons (wTup (wCons (wC (.int 1)) (wCons (wC (.int 2)) wNil))) wNil)) (wCons (wC (.int 3)) (wCons (wC (.int 2)) (wCons (wC (.int 2)) wNil))))) wNil)))))
      (wSeq (wSet 0 (wBin gCat (wV 0) (wLst (wCons (wCall0 4 f_least_possible (wCons (wRuN (wCons (wTup (wCons (wC (.int 1)) (wCons (wC (.int 2)) wNil))) (wCons (wTup (wCons (wC (.int 7)) (wCons (wC (.int 10)) wNil))) wNil))) (wCons (wC (.int 3)) (wCons (wC (.int 3)) (wCons (wC (.int 1)) wNil))))) (wCons (wCall0 4 f_least_possible (wCons (wRuN (wCons (wC (.int 0)) wNil)) (wCons (wC (.int 2)) (wCons (wC (.int 5)) (wCons (wC (.int 6)) wNil))))) wNil)))))
      (wSeq (wSet 1 (wLst (wCons (wTup (wCons (wTup (wCons (wC (.int 1)) (wCons (wC (.int 4)) wNil))) (wCons (wC (.bl true)) wNil))) (wCons (wTup (wCons (wTup (wCons (wC (.int 0)) (wCons (wC (.int 1)) wNil))) (wCons (wC (.bl false)) wNil))) (wCons (wC .non) (wCons (wTup (wCons (wTup (wCons (wC (.int 1)) (wCons (wC (.int 3)) wNil))) (wCons (wC (.bl true)) wNil))) (wCons (wTup (wCons (wTup (wCons (wC (.int 1)) (wCons (wC (.int 12)) wNil))) (wCons (wC (.bl true)) wNil))) (wCons (wTup (wCons (wTup (wCons (wC (.int 0)) (wCons (wC (.int 1)) wNil))) (wCons (wC (.bl false)) wNil))) wNil))))))))
      (wRet (wBin gEq (wCal gRepr (wCons (wV 0) wNil)) (wCal gRepr (wCons (wBin gCat (wV 1) (wLst (wCons (wTup (wCons (wTup (wCons (wC (.int 3)) (wCons (wC (.int 5)) wNil))) (wCons (wC (.bl true)) wNil))) (wCons (wTup (wCons (wTup (wCons (wC (.int 7)) (wCons (wC (.int 39)) wNil))) (wCons (wC (.bl true)) wNil))) (wCons (wC .non) wNil))))) wNil)))))))))
theorem pb__law_hand_right (B : Bl mg) (C_least_possible : CalG P w K mg base 6 "least_possible" (spW (suR K mg c TLb) 4 f_least_possible) []) (MR : MakR P w K mg base 7 "Rule" c (sp_Rule_new K c)) : Bdy P w K mg base 10 "_law_hand_right" s__law_hand_right ["_law_told", "_law_due_here"] (suR K mg c TLb) w__law_hand_right := fun f cdv A outer s H E hr quiet =>
      (xsCons (xsSet (i := 0) sc__law_hand_right.nd rfl (Or.inl rfl) (xf (xLst (xACons (xCall0 (pe_cG quiet C_least_possible hr (by decide) (by rfl) (xACons (xRuN MR hr (by decide) (by rfl) (xACons (xInt pe_int) xANil)) (xACons (xInt pe_int) (xACons (xInt pe_int) (xACons (xInt pe_int) xANil)))))) (xACons (xCall0 (pe_cG quiet C_least_possible hr (by decide) (by rfl) (xACons (xRuN MR hr (by decide) (by rfl) (xACons (xInt pe_int) xANil)) (xACons (xInt pe_int) (xACons (xInt pe_int) (xACons (xInt pe_int) xANil)))))) (xACons (xCall0 (pe_cG quiet C_least_possible hr (by decide) (by rfl) (xACons (xRuN MR hr (by decide) (by rfl) (xACons (xInt pe_int) xANil)) (xACons (xInt pe_int) (xACons (xInt pe_int) (xACons (xInt pe_int) xANil)))))) xANil))))))
      (xsCons (xsSet (i := 0) sc__law_hand_right.nd rfl (Or.inl rfl) (xf (xBinF op_cat fCat (xw (xV (pv 0))) (xw (xf (xLst (xACons (xCall0 (pe_cG quiet C_least_possible hr (by decide) (by rfl) (xACons (xRuN MR hr (by decide) (by rfl) (xACons (xInt pe_int) xANil)) (xACons (xInt pe_int) (xACons (xInt pe_int) (xACons (xInt pe_int) xANil)))))) (xACons (xCall0 (pe_cG quiet C_least_possible hr (by decide) (by rfl) (xACons (xRuN MR hr (by decide) (by rfl) (xACons (xInt pe_int) xANil)) (xACons (xInt pe_int) (xACons (xInt pe_int) (xACons (xInt pe_int) xANil)))))) xANil))))))))
      (xsCons (xsSet (i := 0) sc__law_hand_right.nd rfl (Or.inl rfl) (xf (xBinF op_cat fCat (xw (xV (pv 0))) (xw (xf (xLst (xACons (xCall0 (pe_cG quiet C_least_possible hr (by decide) (by rfl) (xACons (xRuN MR hr (by decide) (by rfl) (xACons (xInt pe_int) xANil)) (xACons (xInt pe_int) (xACons (xInt pe_int) (xACons (xInt pe_int) xANil)))))) (xACons (xCall0 (pe_cG quiet C_least_possible hr (by decide) (by rfl) (xACons (xRuN MR hr (by decide) (by rfl) (xACons (xTup (xACons (xInt pe_int) (xACons (xInt pe_int) xANil))) xANil)) (xACons (xInt pe_int) (xACons (xInt pe_int) (xACons (xInt pe_int) xANil)))))) xANil))))))))
      (xsCons (xsSet (i := 0) sc__law_hand_right.nd rfl (Or.inl rfl) (xf (xBinF op_cat fCat (xw (xV (pv 0))) (xw (xf (xLst (xACons (xCall0 (pe_cG quiet C_least_possible hr (by decide) (by rfl) (xACons (xRuN MR hr (by decide) (by rfl) (xACons (xTup (xACons (xInt pe_int) (xACons (xInt pe_int) xANil))) (xACons (xTup (xACons (xInt pe_int) (xACons (xInt pe_int) xANil))) xANil))) (xACons (xInt pe_int) (xACons (xInt pe_int) (xACons (xInt pe_int) xANil)))))) (xACons (xCall0 (pe_cG quiet C_least_possible hr (by decide) (by rfl) (xACons (xRuN MR hr (by decide) (by rfl) (xACons (xInt pe_int) xANil)) (xACons (xInt pe_int) (xACons (xInt pe_int) (xACons (xInt pe_int) xANil)))))) xANil))))))))
      (xsCons (xsSet (i := 1) sc__law_hand_right.nd rfl (Or.inl rfl) (xf (xLst (xACons (xTup (xACons (xTup (xACons (xInt pe_int) (xACons (xInt pe_int) xANil))) (xACons (xBl pe_bl) xANil))) (xACons (xTup (xACons (xTup (xACons (xInt pe_int) (xACons (xInt pe_int) xANil))) (xACons (xBl pe_bl) xANil))) (xACons (xNon pe_non) (xACons (xTup (xACons (xTup (xACons (xInt pe_int) (xACons (xInt pe_int) xANil))) (xACons (xBl pe_bl) xANil))) (xACons (xTup (xACons (xTup (xACons (xInt pe_int) (xACons (xInt pe_int) xANil))) (xACons (xBl pe_bl) xANil))) (xACons (xTup (xACons (xTup (xACons (xInt pe_int) (xACons (xInt pe_int) xANil))) (xACons (xBl pe_bl) xANil))) xANil)))))))))
      (xsOne (xsRet (xw (xCmp (op_eqD hr.units) pEq (xw (xCB (pe_callB (call_reprV quiet hr) (by rfl) B.repr (by decide +kernel) (xWCons (xw (xV (pv 0))) xWNil)) pRepr)) (xw (xCB (pe_callB (call_reprV quiet hr) (by rfl) B.repr (by decide +kernel) (xWCons (xw (xf (xBinF op_cat fCat (xw (xV (pv 1))) (xw (xf (xLst (xACons (xTup (xACons (xTup (xACons (xInt pe_int) (xACons (xInt pe_int) xANil))) (xACons (xBl pe_bl) xANil))) (xACons (xTup (xACons (xTup (xACons (xInt pe_int) (xACons (xInt pe_int) xANil))) (xACons (xBl pe_bl) xANil))) (xACons (xNon pe_non) xANil))))))))) xWNil)) pRepr)) (nomark _))))))))))
def f__law_hand_right : SpF := fun ds k _ => ds = [] ∧ k (.bl true)
theorem hand_lp {b s : Int} {ms : List Int} (ir : IR b ms s) {n m l : Nat} {q : Option ((Int × Int) × Bool)} (e : dueP (partsL (atM b ms s) (n - 1) m l) = q) (n2 : 2 ≤ n) (n12 : n ≤ 12) (m9 : m ≤ 9) (l9 : l ≤ 9) {K : Dt → Prop} (hK : K (paD q)) : f_least_possible [.obj 0 (ruD (lowQ s b) (lowL b ms)), .int (n : Nat), .int (m : Nat), .int (l : Nat)] K nE :=
  ⟨lowQ s b, lowL b ms, n, m, l, rfl, ir.vr, n2, n12, Nat.le_trans m9 (by decide), Nat.lt_of_le_of_lt l9 (by decide), fun r hr => by
    rw [least_list ir.step (ir.nn0 0) n2 (least_ir ir n2 hr), e]
    exact hK⟩
theorem ok__law_hand_right (ds k e) (ln : ds.length = 0) (h : f__law_hand_right ds k e) : wFn 2 w__law_hand_right ds k e := by
  obtain ⟨rfl, hk⟩ := h
  (simp only [a_wFn, a_wFnF, a_mapS, a_map0, List.replicate, a_appS, a_app0, a_lenS, a_len0, Nat.reduceAdd, Nat.reduceSub, Nat.zero_add]; unfold w__law_hand_right; simp only [a_wFn, a_wSeq, a_wNx, a_wBk, a_wCt, a_wEx, a_wSet, a_wOwn, a_wAsg, a_wPar, a_wRet, a_wRetN, a_wRetF, a_wRetFO, a_wParO, a_wFnF, a_wIfS, a_wApp, a_wExt, a_wFrz, a_wAugI, a_wSetIx, a_wAugIx, a_wFor, a_lookL0, a_lookLS, a_look0, a_lookS, a_lookO0, a_lookO1, a_lookOS, a_wV, a_wO, a_wC, a_wBin, a_wUn, a_wTst, a_wTru, a_wAnd, a_wOr, a_wNot, a_wAndV, a_wOrV, a_wNotV, a_wIf, a_wCh, a_wNil, a_wCons, a_wStar, a_wTup, a_wLst, a_wCal, a_wCall, a_wCall0, a_wCallK, a_wCallB, a_wGot, a_noX, a_wCh3, a_wAugC, gInI_i, a_wCalK, a_wSl, a_wNo, a_wPart, a_wFld, a_wMth, a_wM0, a_wM1, a_wgN, a_wgNil, a_wgCons, a_wgT, a_wLc, a_wYes, a_itK, itK_lst, itK_tup, itK_str, seqD_lst, seqD_tup, a_wRg1, a_wRg2, a_wRg3, a_wEnumU, a_wEnumL, a_wZipU, a_wRevU, a_wComb, wipeD, a_mapS, a_map0, a_lenS, a_len0, List.replicate, a_appS, a_app0, a_set0, a_setS, Nat.reduceAdd, Nat.reduceSub, Nat.zero_add, true_and, and_true, gAdd_i, gAdd_s, gAdd_l, gAdd_t, gCat_l, gSub_i, gMul_i, gMul_l, gMul_t, gFdiv_i, gMod_i, gPow_i, gLt_i, gLe_i, gGt_i, gGe_i, gLen_l, gLen_t, gLen_s, gAbs_i, gToInt_i, gToInt_b, gToBl_i, gToBl_b, gToTup_l, gToTup_t, gToLst_l, gToLst_t, gMax2_i, gMin2_i, gNeg_i, gSl_l, gSl_t, gSl_s, gSlL_l, gRevL_l, gIsN_n, gIsN_b, gIsN_i, gIsN_s, gIsN_l, gIsN_t, gNotN_n, gNotN_b, gNotN_i, gNotN_s, gNotN_l, gNotN_t, truD, gEq_int, gNe_int, Bool.not_true, Bool.not_false])
  refine ru_1 (hand_lp (n := 2) (m := 3) (l := 1) ir_11 (q := some ((1, 4), true)) (by decide +kernel) (by decide) (by decide) (by decide) (by decide) ?_)
  refine ru_0 (hand_lp (n := 3) (m := 3) (l := 1) ir_10 (q := some ((0, 1), false)) (by decide +kernel) (by decide) (by decide) (by decide) (by decide) ?_)
  refine ru_0 (hand_lp (n := 3) (m := 3) (l := 2) ir_10 (q := none) (by decide +kernel) (by decide) (by decide) (by decide) (by decide) ⟨by decide, ?_⟩)
  refine ru_0 (hand_lp (n := 3) (m := 4) (l := 2) ir_10 (q := some ((1, 3), true)) (by decide +kernel) (by decide) (by decide) (by decide) (by decide) ?_)
  refine ru_1 (hand_lp (n := 12) (m := 1) (l := 1) ir_11 (q := some ((1, 12), true)) (by decide +kernel) (by decide) (by decide) (by decide) (by decide) ⟨by decide, by decide, ?_⟩)
  refine ru_1 (hand_lp (n := 2) (m := 0) (l := 0) ir_11 (q := some ((0, 1), false)) (by decide +kernel) (by decide) (by decide) (by decide) (by decide) ?_)
  refine ru_12 (hand_lp (n := 3) (m := 2) (l := 2) ir_21 (q := some ((3, 5), true)) (by decide +kernel) (by decide) (by decide) (by decide) (by decide) ⟨by decide, by decide, ?_⟩)
  refine ru_1210 (hand_lp (n := 3) (m := 3) (l := 1) ir_105 (q := some ((7, 39), true)) (by decide +kernel) (by decide) (by decide) (by decide) (by decide) ?_)
  refine ru_0 (hand_lp (n := 2) (m := 5) (l := 6) ir_10 (q := none) (by decide +kernel) (by decide) (by decide) (by decide) (by decide) ?_)
  have two : (2 : Nat) ≤ sizeLine := by decide
  refine ⟨two, by decide, two, two, two, two, two, two, two, two, two, two, by decide, ?_⟩
  obtain ⟨p, sh⟩ := (Shn.lst (B := 110) (W := 500) (D := 2) (l := [some ((1, 4), true), some ((0, 1), false), none, some ((1, 3), true), some ((1, 12), true), some ((0, 1), false), some ((3, 5), true), some ((7, 39), true), none].map paD) fun d hd => by
    obtain ⟨r, hr, rfl⟩ := List.mem_map.mp hd
    refine paD_shn fun q t e => ?_
    subst e
    simp only [List.mem_cons, List.not_mem_nil, or_false, Option.some.injEq, Prod.mk.injEq, reduceCtorEq, false_or] at hr
    have t104 : (2 : Nat) ^ 104 = 20282409603651670423947251286016 := by decide
    rw [t104]
    rcases q with ⟨q1, q2⟩
    simp only [Prod.mk.injEq] at hr
    omega).shw (by decide) (by decide) (show (110 + 2) * (9 * (500 + 1)) + 110 ≤ 16777216 by decide) (by decide)
  rw [show ([paD (some ((1, 4), true)), paD (some ((0, 1), false)), paD none, paD (some ((1, 3), true)), paD (some ((1, 12), true)), paD (some ((0, 1), false)), paD (some ((3, 5), true)), paD (some ((7, 39), true)), paD none] : List Dt) = [some ((1, 4), true), some ((0, 1), false), none, some ((1, 3), true), some ((1, 12), true), some ((0, 1), false), some ((3, 5), true), some ((7, 39), true), none].map paD from rfl, gRepr_of sh]
  refine ⟨two, two, two, two, by decide, by decide, ?_⟩
  show gRepr [.lst ([some ((1, 4), true), some ((0, 1), false), none, some ((1, 3), true), some ((1, 12), true), some ((0, 1), false), some ((3, 5), true), some ((7, 39), true), none].map paD)] _
  rw [gRepr_of sh, gEq_strs sh.ok]
  exact hk
theorem c0__law_hand_right (B : Bl mg) (DD : OwnDef K mg "_law_hand_right" s__law_hand_right) (C_least_possible : CalG P w K mg base 6 "least_possible" (spW (suR K mg c TLb) 4 f_least_possible) []) (MR : MakR P w K mg base 7 "Rule" c (sp_Rule_new K c)) : CalG0 P w K mg base 11 "_law_hand_right" (spW (suR K mg c TLb) 0 f__law_hand_right) :=
  calG0_by DD sc__law_hand_right (fun fd f F => F.binds (fun _ _ _ _ _ _ us hl => match us, hl with | [], _ => rfl)) (pb__law_hand_right B C_least_possible MR) ok__law_hand_right
def w__law_right : WS := (wSeq (wSet 1 (wCall0 2 f__law_rule (wCons (wV 0) (wCons (wLst (wCons (wC (.int 1)) (wCons (wC (.int 2)) (wCons (wC (.int 3)) (wCons (wC (.int 10)) (wCons (wC (.int 997)) (wCons (wBin LW.gAdd (wBin LW.gPow (wC (.int 10)) (wC (.int 12))) (wC (.int 39))) wNil))))))) wNil))))
      (wSeq (wPar3 2 3 4 (wCons (wCall0 1 f__law_made (wCons (wV 1) wNil)) (wCons (wBin LW.gAdd (wC (.int 2)) (wCall0 2 f__law_draw (wCons (wV 0) (wCons (wC (.int 11)) wNil)))) (wCons (wCall0 2 f__law_draw (wCons (wV 0) (wCons (wC (.int 10)) wNil))) wNil))))
      (wSeq (wFor (wIt (wLst (wCons (wCall0 2 f__law_draw (wCons (wV 0) (wCons (wBin LW.gAdd (wV 4) (wC (.int 2))) wNil))) (wCons (wCall0 2 f__law_draw (wCons (wV 0) (wCons (wC (.int 3)) wNil))) (wCons (wV 4) wNil))))) (wgN 5)
      (wSeq (wSet 6 (wCall0 4 f__law_due (wCons (wV 1) (wCons (wV 3) (wCons (wV 4) (wCons (wV 5) wNil))))))
      (wSeq (wOwn 7 (wLst (wCons (wCall0 4 f_least_possible (wCons (wV 2) (wCons (wV 3) (wCons (wV 4) (wCons (wV 5) wNil))))) wNil)))
      (wSeq (wApp 7 (wCallK 4 4 [3, 2, 1, 0] f_least_possible (wCons (wV 5) (wCons (wV 4) (wCons (wV 3) (wCons (wV 2) wNil))))))
      (wIfS (wTst (wBin gNe (wCal gRepr (wCons (wO 7) wNil)) (wCal gRepr (wCons (wLst (wCons (wV 6) (wCons (wV 6) wNil))) wNil)))) (wRet (wC (.bl false))) wNx)))))
      (wRet (wC (.bl true))))))
theorem pb__law_right (B : Bl mg) (C__law_rule : CalG P w K mg base 3 "_law_rule" (spW (suR K mg c TLb) 2 f__law_rule) []) (C__law_made : CalG P w K mg base 18 "_law_made" (spW (suR K mg c TLb) 1 f__law_made) []) (C__law_draw : CalG P w K mg base 1 "_law_draw" (spW (suR K mg c TLb) 2 f__law_draw) []) (C__law_due : CalG P w K mg base 14 "_law_due" (spW (suR K mg c TLb) 4 f__law_due) []) (C_least_possible : CalG P w K mg base 6 "least_possible" (spW (suR K mg c TLb) 4 f_least_possible) []) (CK_least_possible_3210 : CalPG P w K mg base 6 "least_possible" ["count", "items", "claimants", "rule"] [3, 2, 1, 0] (spW (suR K mg c TLb) 4 f_least_possible))  : Bdy P w K mg base 18 "_law_right" s__law_right ["_law_pool_here", "_law_own", "_law_one", "_law_size", "_law_many", "_law_least", "_law_due_here", "_law_told"] (suR K mg c TLb) w__law_right := fun f cdv A outer s H E hr quiet =>
      (xsCons (xsSet (i := 1) sc__law_right.nd rfl (Or.inl rfl) (xCall0 (pe_cG quiet C__law_rule hr (by decide) (by rfl) (xACons (xV (pv 0)) (xACons (xf (xLst (xACons (xInt pe_int) (xACons (xInt pe_int) (xACons (xInt pe_int) (xACons (xInt pe_int) (xACons (xInt pe_int) (xACons (xBin op_addU pAdd (xw (xBin op_pow pPow (xw (xInt pe_int)) (xw (xInt pe_int)))) (xw (xInt pe_int))) xANil)))))))) xANil)))))
      (xsCons (xsPar3 (i := 2) (j := 3) (l := 4) (by rfl) sc__law_right.nd rfl rfl rfl (by decide) (by decide) (by decide) rfl rfl rfl (xACons (xCall0 (pe_cG quiet C__law_made hr (by decide) (by rfl) (xACons (xV (pv 1)) xANil))) (xACons (xBin op_addU pAdd (xw (xInt pe_int)) (xw (xCall0 (pe_cG quiet C__law_draw hr (by decide) (by rfl) (xACons (xV (pv 0)) (xACons (xInt pe_int) xANil)))))) (xACons (xCall0 (pe_cG quiet C__law_draw hr (by decide) (by rfl) (xACons (xV (pv 0)) (xACons (xInt pe_int) xANil)))) xANil))) (by rfl))
      (xsCons (xsFor PassesOwn.never (by rfl) (xIt (xf (xLst (xACons (xCall0 (pe_cG quiet C__law_draw hr (by decide) (by rfl) (xACons (xV (pv 0)) (xACons (xBin op_addU pAdd (xw (xV (pv 4))) (xw (xInt pe_int))) xANil)))) (xACons (xCall0 (pe_cG quiet C__law_draw hr (by decide) (by rfl) (xACons (xV (pv 0)) (xACons (xInt pe_int) xANil)))) (xACons (xV (pv 4)) xANil)))))) (xgN (pg_name (i := 5) sc__law_right.nd rfl (Or.inl rfl)))
      (xsCons (xsSet (i := 6) sc__law_right.nd rfl (Or.inl rfl) (xCall0 (pe_cG quiet C__law_due hr (by decide) (by rfl) (xACons (xV (pv 1)) (xACons (xV (pv 3)) (xACons (xV (pv 4)) (xACons (xV (pv 5)) xANil)))))))
      (xsCons (xsOwn (i := 7) sc__law_right.nd rfl (Or.inl rfl) (xLst (xACons (xCall0 (pe_cG quiet C_least_possible hr (by decide) (by rfl) (xACons (xV (pv 2)) (xACons (xV (pv 3)) (xACons (xV (pv 4)) (xACons (xV (pv 5)) xANil)))))) xANil)))
      (xsCons (xsApp (pe_bm PySem.F.plainAttrs_list PySem.F.slot_list_append PySem.F.type_list_append mt_append (pv 7) (pa_cons (xCallK (pe_ckPG (ks := ["count", "items", "claimants", "rule"]) quiet CK_least_possible_3210 hr (by decide) (by rfl) (xKCons (xV (pv 5)) (xKCons (xV (pv 4)) (xKCons (xV (pv 3)) (xKCons (xV (pv 2)) xKNil)))))) pa_nil)))
      (xsOne (xsIf (xTCmp (op_neD hr.units) pNe (xw (xCB (pe_callB (call_reprV quiet hr) (by rfl) B.repr (by decide +kernel) (xWCons (xO (pv 7)) xWNil)) pRepr)) (xw (xCB (pe_callB (call_reprV quiet hr) (by rfl) B.repr (by decide +kernel) (xWCons (xw (xf (xLst (xACons (xV (pv 6)) (xACons (xV (pv 6)) xANil))))) xWNil)) pRepr)) (nomark _)) (xsOne (xsRet (xw (xBl pe_bl)))) xsNil))))))
      (xsOne (xsRet (xw (xBl pe_bl)))))))
theorem pc__law_right (B : Bl mg) (DD : OwnDef K mg "_law_right" s__law_right) (C__law_rule : CalG P w K mg base 3 "_law_rule" (spW (suR K mg c TLb) 2 f__law_rule) []) (C__law_made : CalG P w K mg base 18 "_law_made" (spW (suR K mg c TLb) 1 f__law_made) []) (C__law_draw : CalG P w K mg base 1 "_law_draw" (spW (suR K mg c TLb) 2 f__law_draw) []) (C__law_due : CalG P w K mg base 14 "_law_due" (spW (suR K mg c TLb) 4 f__law_due) []) (C_least_possible : CalG P w K mg base 6 "least_possible" (spW (suR K mg c TLb) 4 f_least_possible) []) (CK_least_possible_3210 : CalPG P w K mg base 6 "least_possible" ["count", "items", "claimants", "rule"] [3, 2, 1, 0] (spW (suR K mg c TLb) 4 f_least_possible))  : CalG P w K mg base 19 "_law_right" (spW (suR K mg c TLb) 1 (wFn 8 w__law_right)) [] :=
  calG_by DD sc__law_right rfl (fun fd f F => F.binds (fun _ _ _ _ _ _ us hl => match us, hl with | [_], _ => rfl)) (pb__law_right B C__law_rule C__law_made C__law_draw C__law_due C_least_possible CK_least_possible_3210)
def f__law_right : SpF := fun ds k _ => ds = [.tnk 0] ∧ k (.bl true)
theorem ok__law_right (ds k e) (ln : ds.length = 1) (h : f__law_right ds k e) : wFn 8 w__law_right ds k e := by
  obtain ⟨rfl, hk⟩ := h
  (simp only [a_wFn, a_wFnF, a_mapS, a_map0, List.replicate, a_appS, a_app0, a_lenS, a_len0, Nat.reduceAdd, Nat.reduceSub, Nat.zero_add]; unfold w__law_right; simp only [a_wFn, a_wSeq, a_wNx, a_wBk, a_wCt, a_wEx, a_wSet, a_wOwn, a_wAsg, a_wPar, a_wRet, a_wRetN, a_wRetF, a_wRetFO, a_wParO, a_wFnF, a_wIfS, a_wApp, a_wExt, a_wFrz, a_wAugI, a_wSetIx, a_wAugIx, a_wFor, a_lookL0, a_lookLS, a_look0, a_lookS, a_lookO0, a_lookO1, a_lookOS, a_wV, a_wO, a_wC, a_wBin, a_wUn, a_wTst, a_wTru, a_wAnd, a_wOr, a_wNot, a_wAndV, a_wOrV, a_wNotV, a_wIf, a_wCh, a_wNil, a_wCons, a_wStar, a_wTup, a_wLst, a_wCal, a_wCall, a_wCall0, a_wCallK, a_wCallB, a_wGot, a_noX, a_wCh3, a_wAugC, gInI_i, a_wCalK, a_wSl, a_wNo, a_wPart, a_wFld, a_wMth, a_wM0, a_wM1, a_wgN, a_wgNil, a_wgCons, a_wgT, a_wLc, a_wYes, a_itK, itK_lst, itK_tup, itK_str, seqD_lst, seqD_tup, a_wRg1, a_wRg2, a_wRg3, a_wEnumU, a_wEnumL, a_wZipU, a_wRevU, a_wComb, wipeD, a_mapS, a_map0, a_lenS, a_len0, List.replicate, a_appS, a_app0, a_set0, a_setS, Nat.reduceAdd, Nat.reduceSub, Nat.zero_add, true_and, and_true, gAdd_i, gAdd_s, gAdd_l, gAdd_t, gCat_l, gSub_i, gMul_i, gMul_l, gMul_t, gFdiv_i, gMod_i, gPow_i, gLt_i, gLe_i, gGt_i, gGe_i, gLen_l, gLen_t, gLen_s, gAbs_i, gToInt_i, gToInt_b, gToBl_i, gToBl_b, gToTup_l, gToTup_t, gToLst_l, gToLst_t, gMax2_i, gMin2_i, gNeg_i, gSl_l, gSl_t, gSl_s, gSlL_l, gRevL_l, gIsN_n, gIsN_b, gIsN_i, gIsN_s, gIsN_l, gIsN_t, gNotN_n, gNotN_b, gNotN_i, gNotN_s, gNotN_l, gNotN_t, truD, gEq_int, gNe_int, Bool.not_true, Bool.not_false])
  have t12 : (10 : Int) ^ Int.toNat 12 = 1000000000000 := by decide
  have t18 : (10 : Nat) ^ 18 = 1000000000000000000 := by decide
  have t100 : (2 : Nat) ^ 100 = 1267650600228229401496703205376 := by decide
  refine ⟨⟨by decide, by decide, by decide⟩, by decide, ?_⟩
  rw [t12]
  refine ⟨[1, 2, 3, 10, 997, 1000000000000 + 39], rfl, by decide, by decide, fun b hb => ?_, fun b ms s ir hb => ?_⟩
  · have t13 : (10 : Int) ^ 13 = 10000000000000 := by decide
    simp only [List.mem_cons, List.not_mem_nil,
          or_false] at hb
    rw [t13]
    omega
  dsimp only
  rw [a_wPar3]
  simp only [a_wFn, a_wSeq, a_wNx, a_wBk, a_wCt, a_wEx, a_wSet, a_wOwn, a_wAsg, a_wPar, a_wRet, a_wRetN, a_wRetF, a_wRetFO, a_wParO, a_wFnF, a_wIfS, a_wApp, a_wExt, a_wFrz, a_wAugI, a_wSetIx, a_wAugIx, a_wFor, a_lookL0, a_lookLS, a_look0, a_lookS, a_lookO0, a_lookO1, a_lookOS, a_wV, a_wO, a_wC, a_wBin, a_wUn, a_wTst, a_wTru, a_wAnd, a_wOr, a_wNot, a_wAndV, a_wOrV, a_wNotV, a_wIf, a_wCh, a_wNil, a_wCons, a_wStar, a_wTup, a_wLst, a_wCal, a_wCall, a_wCall0, a_wCallK, a_wCallB, a_wGot, a_noX, a_wCh3, a_wAugC, gInI_i, a_wCalK, a_wSl, a_wNo, a_wPart, a_wFld, a_wMth, a_wM0, a_wM1, a_wgN, a_wgNil, a_wgCons, a_wgT, a_wLc, a_wYes, a_itK, itK_lst, itK_tup, itK_str, seqD_lst, seqD_tup, a_wRg1, a_wRg2, a_wRg3, a_wEnumU, a_wEnumL, a_wZipU, a_wRevU, a_wComb, wipeD, a_mapS, a_map0, a_lenS, a_len0, List.replicate, a_appS, a_app0, a_set0, a_setS, Nat.reduceAdd, Nat.reduceSub, Nat.zero_add, true_and, and_true, gAdd_i, gAdd_s, gAdd_l, gAdd_t, gCat_l, gSub_i, gMul_i, gMul_l, gMul_t, gFdiv_i, gMod_i, gPow_i, gLt_i, gLe_i, gGt_i, gGe_i, gLen_l, gLen_t, gLen_s, gAbs_i, gToInt_i, gToInt_b, gToBl_i, gToBl_b, gToTup_l, gToTup_t, gToLst_l, gToLst_t, gMax2_i, gMin2_i, gNeg_i, gSl_l, gSl_t, gSl_s, gSlL_l, gRevL_l, gIsN_n, gIsN_b, gIsN_i, gIsN_s, gIsN_l, gIsN_t, gNotN_n, gNotN_b, gNotN_i, gNotN_s, gNotN_l, gNotN_t, truD, gEq_int, gNe_int, Bool.not_true, Bool.not_false]
  refine ⟨b, ms, s, rfl, ir, ?_⟩
  refine ⟨11, rfl, by decide, by decide, fun n1 n10 n11 => ?_⟩
  simp only [a_wFn, a_wSeq, a_wNx, a_wBk, a_wCt, a_wEx, a_wSet, a_wOwn, a_wAsg, a_wPar, a_wRet, a_wRetN, a_wRetF, a_wRetFO, a_wParO, a_wFnF, a_wIfS, a_wApp, a_wExt, a_wFrz, a_wAugI, a_wSetIx, a_wAugIx, a_wFor, a_lookL0, a_lookLS, a_look0, a_lookS, a_lookO0, a_lookO1, a_lookOS, a_wV, a_wO, a_wC, a_wBin, a_wUn, a_wTst, a_wTru, a_wAnd, a_wOr, a_wNot, a_wAndV, a_wOrV, a_wNotV, a_wIf, a_wCh, a_wNil, a_wCons, a_wStar, a_wTup, a_wLst, a_wCal, a_wCall, a_wCall0, a_wCallK, a_wCallB, a_wGot, a_noX, a_wCh3, a_wAugC, gInI_i, a_wCalK, a_wSl, a_wNo, a_wPart, a_wFld, a_wMth, a_wM0, a_wM1, a_wgN, a_wgNil, a_wgCons, a_wgT, a_wLc, a_wYes, a_itK, itK_lst, itK_tup, itK_str, seqD_lst, seqD_tup, a_wRg1, a_wRg2, a_wRg3, a_wEnumU, a_wEnumL, a_wZipU, a_wRevU, a_wComb, wipeD, a_mapS, a_map0, a_lenS, a_len0, List.replicate, a_appS, a_app0, a_set0, a_setS, Nat.reduceAdd, Nat.reduceSub, Nat.zero_add, true_and, and_true, gAdd_i, gAdd_s, gAdd_l, gAdd_t, gCat_l, gSub_i, gMul_i, gMul_l, gMul_t, gFdiv_i, gMod_i, gPow_i, gLt_i, gLe_i, gGt_i, gGe_i, gLen_l, gLen_t, gLen_s, gAbs_i, gToInt_i, gToInt_b, gToBl_i, gToBl_b, gToTup_l, gToTup_t, gToLst_l, gToLst_t, gMax2_i, gMin2_i, gNeg_i, gSl_l, gSl_t, gSl_s, gSlL_l, gRevL_l, gIsN_n, gIsN_b, gIsN_i, gIsN_s, gIsN_l, gIsN_t, gNotN_n, gNotN_b, gNotN_i, gNotN_s, gNotN_l, gNotN_t, truD, gEq_int, gNe_int, Bool.not_true, Bool.not_false]
  refine ⟨10, rfl, by decide, by decide, fun n2 n20 n21 => ?_⟩
  simp only [a_wFn, a_wSeq, a_wNx, a_wBk, a_wCt, a_wEx, a_wSet, a_wOwn, a_wAsg, a_wPar, a_wRet, a_wRetN, a_wRetF, a_wRetFO, a_wParO, a_wFnF, a_wIfS, a_wApp, a_wExt, a_wFrz, a_wAugI, a_wSetIx, a_wAugIx, a_wFor, a_lookL0, a_lookLS, a_look0, a_lookS, a_lookO0, a_lookO1, a_lookOS, a_wV, a_wO, a_wC, a_wBin, a_wUn, a_wTst, a_wTru, a_wAnd, a_wOr, a_wNot, a_wAndV, a_wOrV, a_wNotV, a_wIf, a_wCh, a_wNil, a_wCons, a_wStar, a_wTup, a_wLst, a_wCal, a_wCall, a_wCall0, a_wCallK, a_wCallB, a_wGot, a_noX, a_wCh3, a_wAugC, gInI_i, a_wCalK, a_wSl, a_wNo, a_wPart, a_wFld, a_wMth, a_wM0, a_wM1, a_wgN, a_wgNil, a_wgCons, a_wgT, a_wLc, a_wYes, a_itK, itK_lst, itK_tup, itK_str, seqD_lst, seqD_tup, a_wRg1, a_wRg2, a_wRg3, a_wEnumU, a_wEnumL, a_wZipU, a_wRevU, a_wComb, wipeD, a_mapS, a_map0, a_lenS, a_len0, List.replicate, a_appS, a_app0, a_set0, a_setS, Nat.reduceAdd, Nat.reduceSub, Nat.zero_add, true_and, and_true, gAdd_i, gAdd_s, gAdd_l, gAdd_t, gCat_l, gSub_i, gMul_i, gMul_l, gMul_t, gFdiv_i, gMod_i, gPow_i, gLt_i, gLe_i, gGt_i, gGe_i, gLen_l, gLen_t, gLen_s, gAbs_i, gToInt_i, gToInt_b, gToBl_i, gToBl_b, gToTup_l, gToTup_t, gToLst_l, gToLst_t, gMax2_i, gMin2_i, gNeg_i, gSl_l, gSl_t, gSl_s, gSlL_l, gRevL_l, gIsN_n, gIsN_b, gIsN_i, gIsN_s, gIsN_l, gIsN_t, gNotN_n, gNotN_b, gNotN_i, gNotN_s, gNotN_l, gNotN_t, truD, gEq_int, gNe_int, Bool.not_true, Bool.not_false]
  obtain ⟨sz, es, z2, z12⟩ : ∃ sz : Nat, 2 + n1 = (sz : Int) ∧ 2 ≤ sz ∧ sz ≤ 12 := ⟨(2 + n1).toNat, by omega, by omega, by omega⟩
  obtain ⟨many, rfl⟩ := Int.eq_ofNat_of_zero_le n20
  rw [es]
  refine ⟨_, rfl, by omega, by omega, fun l1 l10 l11 => ?_⟩
  refine ⟨3, rfl, by decide, by decide, fun l2 l20 l21 => ?_⟩
  simp only [a_wFn, a_wSeq, a_wNx, a_wBk, a_wCt, a_wEx, a_wSet, a_wOwn, a_wAsg, a_wPar, a_wRet, a_wRetN, a_wRetF, a_wRetFO, a_wParO, a_wFnF, a_wIfS, a_wApp, a_wExt, a_wFrz, a_wAugI, a_wSetIx, a_wAugIx, a_wFor, a_lookL0, a_lookLS, a_look0, a_lookS, a_lookO0, a_lookO1, a_lookOS, a_wV, a_wO, a_wC, a_wBin, a_wUn, a_wTst, a_wTru, a_wAnd, a_wOr, a_wNot, a_wAndV, a_wOrV, a_wNotV, a_wIf, a_wCh, a_wNil, a_wCons, a_wStar, a_wTup, a_wLst, a_wCal, a_wCall, a_wCall0, a_wCallK, a_wCallB, a_wGot, a_noX, a_wCh3, a_wAugC, gInI_i, a_wCalK, a_wSl, a_wNo, a_wPart, a_wFld, a_wMth, a_wM0, a_wM1, a_wgN, a_wgNil, a_wgCons, a_wgT, a_wLc, a_wYes, a_itK, itK_lst, itK_tup, itK_str, seqD_lst, seqD_tup, a_wRg1, a_wRg2, a_wRg3, a_wEnumU, a_wEnumL, a_wZipU, a_wRevU, a_wComb, wipeD, a_mapS, a_map0, a_lenS, a_len0, List.replicate, a_appS, a_app0, a_set0, a_setS, Nat.reduceAdd, Nat.reduceSub, Nat.zero_add, true_and, and_true, gAdd_i, gAdd_s, gAdd_l, gAdd_t, gCat_l, gSub_i, gMul_i, gMul_l, gMul_t, gFdiv_i, gMod_i, gPow_i, gLt_i, gLe_i, gGt_i, gGe_i, gLen_l, gLen_t, gLen_s, gAbs_i, gToInt_i, gToInt_b, gToBl_i, gToBl_b, gToTup_l, gToTup_t, gToLst_l, gToLst_t, gMax2_i, gMin2_i, gNeg_i, gSl_l, gSl_t, gSl_s, gSlL_l, gRevL_l, gIsN_n, gIsN_b, gIsN_i, gIsN_s, gIsN_l, gIsN_t, gNotN_n, gNotN_b, gNotN_i, gNotN_s, gNotN_l, gNotN_t, truD, gEq_int, gNe_int, Bool.not_true, Bool.not_false]
  refine ⟨by decide, ?_⟩
  have sp : ∀ d ∈ [Dt.int l1, Dt.int l2, Dt.int (many : Nat)], ∃ L : Nat, d = .int (L : Nat) ∧ L ≤ 100 := fun d hd => by
    simp only [List.mem_cons, List.not_mem_nil, or_false] at hd
    rcases hd with rfl | rfl | rfl
    · exact ⟨l1.toNat, by rw [Int.toNat_of_nonneg l10], by omega⟩
    · exact ⟨l2.toNat, by rw [Int.toNat_of_nonneg l20], by omega⟩
    · exact ⟨many, rfl, by omega⟩
  have asc : Asc1 (atM b ms s) := ir.step
  refine forL_by (fun i δ => ∃ x y z, δ = [some (.val (.tnk 0)), some (.val (irP b ms s)), some (.val (.obj 0 (ruD (lowQ s b) (lowL b ms)))), some (.val (.int (sz : Nat))), some (.val (.int (many : Nat))), x, y, z]) ⟨_, _, _, rfl⟩ (fun i x δ K hx hI hK => ?_) fun δ hI => hk
  obtain ⟨x1, x2, x3, rfl⟩ := hI
  obtain ⟨L, rfl, hL⟩ := sp x (List.mem_of_getElem? hx)
  simp only [a_wFn, a_wSeq, a_wNx, a_wBk, a_wCt, a_wEx, a_wSet, a_wOwn, a_wAsg, a_wPar, a_wRet, a_wRetN, a_wRetF, a_wRetFO, a_wParO, a_wFnF, a_wIfS, a_wApp, a_wExt, a_wFrz, a_wAugI, a_wSetIx, a_wAugIx, a_wFor, a_lookL0, a_lookLS, a_look0, a_lookS, a_lookO0, a_lookO1, a_lookOS, a_wV, a_wO, a_wC, a_wBin, a_wUn, a_wTst, a_wTru, a_wAnd, a_wOr, a_wNot, a_wAndV, a_wOrV, a_wNotV, a_wIf, a_wCh, a_wNil, a_wCons, a_wStar, a_wTup, a_wLst, a_wCal, a_wCall, a_wCall0, a_wCallK, a_wCallB, a_wGot, a_noX, a_wCh3, a_wAugC, gInI_i, a_wCalK, a_wSl, a_wNo, a_wPart, a_wFld, a_wMth, a_wM0, a_wM1, a_wgN, a_wgNil, a_wgCons, a_wgT, a_wLc, a_wYes, a_itK, itK_lst, itK_tup, itK_str, seqD_lst, seqD_tup, a_wRg1, a_wRg2, a_wRg3, a_wEnumU, a_wEnumL, a_wZipU, a_wRevU, a_wComb, wipeD, a_mapS, a_map0, a_lenS, a_len0, List.replicate, a_appS, a_app0, a_set0, a_setS, Nat.reduceAdd, Nat.reduceSub, Nat.zero_add, true_and, and_true, gAdd_i, gAdd_s, gAdd_l, gAdd_t, gCat_l, gSub_i, gMul_i, gMul_l, gMul_t, gFdiv_i, gMod_i, gPow_i, gLt_i, gLe_i, gGt_i, gGe_i, gLen_l, gLen_t, gLen_s, gAbs_i, gToInt_i, gToInt_b, gToBl_i, gToBl_b, gToTup_l, gToTup_t, gToLst_l, gToLst_t, gMax2_i, gMin2_i, gNeg_i, gSl_l, gSl_t, gSl_s, gSlL_l, gRevL_l, gIsN_n, gIsN_b, gIsN_i, gIsN_s, gIsN_l, gIsN_t, gNotN_n, gNotN_b, gNotN_i, gNotN_s, gNotN_l, gNotN_t, truD, gEq_int, gNe_int, Bool.not_true, Bool.not_false]
  refine ⟨b, ms, s, sz, many, L, rfl, ir, z2, z12, by omega, hL, ?_⟩
  have lp : ∀ k : Dt → Prop, k (paD (dueP (partsL (atM b ms s) (sz - 1) many L))) → f_least_possible [.obj 0 (ruD (lowQ s b) (lowL b ms)), .int (sz : Nat), .int (many : Nat), .int (L : Nat)] k nE := fun k hk => ⟨lowQ s b, lowL b ms, sz, many, L, rfl, ir.vr, z2, z12, by rw [t18]; omega, by rw [t100]; omega, fun r hr => by
    rw [least_list asc (ir.nn0 0) z2 (least_ir ir z2 hr)]
    exact hk⟩
  refine lp _ ⟨by decide, rfl, lp _ ⟨by decide, ?_⟩⟩
  have ps := parts_size ir (sz := sz) (many := many) (least := L) z12 (by omega)
  have dz := due_shn fun p hp => (ps p hp).2.2
  generalize dueP (partsL (atM b ms s) (sz - 1) many L) = D at *
  obtain ⟨p, sh⟩ := (Shn.lst (B := 110) (W := 500) (D := 2) (l := [paD D, paD D]) fun d hd => by
    simp only [List.mem_cons, List.not_mem_nil, or_false] at hd
    rcases hd with rfl | rfl <;> exact dz).shw (by decide) (by decide) (show (110 + 2) * (2 * (500 + 1)) + 110 ≤ 16777216 by decide) (by decide)
  rw [gRepr_of sh]
  refine ⟨by decide, ?_⟩
  rw [gRepr_of sh, gNe_strs sh.ok]
  exact hK _ ⟨_, _, _, rfl⟩
theorem cs__law_right (B : Bl mg) (DD : OwnDef K mg "_law_right" s__law_right) (C__law_rule : CalG P w K mg base 3 "_law_rule" (spW (suR K mg c TLb) 2 f__law_rule) []) (C__law_made : CalG P w K mg base 18 "_law_made" (spW (suR K mg c TLb) 1 f__law_made) []) (C__law_draw : CalG P w K mg base 1 "_law_draw" (spW (suR K mg c TLb) 2 f__law_draw) []) (C__law_due : CalG P w K mg base 14 "_law_due" (spW (suR K mg c TLb) 4 f__law_due) []) (C_least_possible : CalG P w K mg base 6 "least_possible" (spW (suR K mg c TLb) 4 f_least_possible) []) (CK_least_possible_3210 : CalPG P w K mg base 6 "least_possible" ["count", "items", "claimants", "rule"] [3, 2, 1, 0] (spW (suR K mg c TLb) 4 f_least_possible))  : CalG P w K mg base 19 "_law_right" (spW (suR K mg c TLb) 1 f__law_right) [] :=
  (pc__law_right B DD C__law_rule C__law_made C__law_draw C__law_due C_least_possible CK_least_possible_3210).imp (spW_mono fun ds k e ln h => ok__law_right ds k e ln h)
end
end LW
set_option Elab.async false
set_option linter.all false
set_option maxRecDepth 100000
set_option maxHeartbeats 4000100
set_option exponentiation.threshold 9000
namespace LW
open PySem PySem.Spec PyProof.Rows L2 StX
local macro_rules | `(tactic| walk_at "len") => `(tactic| skip)
/-! ### the law -/
section
variable {P : Program} {w : World} {K : PySem.W.Frag} {mg : Str → Option Value} {base : Heap} {c : Addr} {TLb : List (Addr × Str)}
def sp__law_right (K : PySem.W.Frag) (c : Addr) : Sp := fun vs H Q _ => ∃ (a : Addr), vs = [.ref a] ∧ PoolAt H a ∧ ∀ H', Go [a] H H' → Q (.bl true) H'
def sp__law_hand (K : PySem.W.Frag) (c : Addr) : Sp := fun vs H Q _ => vs = [] ∧ ∀ H', Same H H' → Q (.bl true) H'
def sp_law (K : PySem.W.Frag) : Sp := fun vs H Q _ => ∃ (a : Addr) (ns : List Int), vs = [.ref a] ∧ SqL K H a (ns.map V.int) ∧ ns.length ≤ 63 ∧ ∀ H', Q (.bl true) H'
theorem ok_law {f : Addr} {fd : FuncData} (B : Bl mg) (F : Fun K "law" "law" s_law f fd) (C__law_pool : Cal P w K mg base 1 "_law_pool" (sp__law_pool K c) []) (C__law_hand_right : CalG0 P w K mg base 11 "_law_hand_right" (sp__law_hand K c)) (C__law_right : CalG P w K mg base 19 "_law_right" (sp__law_right K c) []) :
    FnG P w K mg base CX0 20 f fd ["_law_script"] (sp_law K) := by
  refine Fun_okG F sc_law (fun vs H Q E h => ?_) (fun cdv A outer s H vs Q E hr quiet h => ?_)
  · obtain ⟨_, _, rfl, _⟩ := h
    rfl
  · obtain ⟨a, ns, rfl, hS, hn, q⟩ := h
    have hq : (A.deeper (envOfC "law" (defScope s_law) s.heap.objs.size f cdv)).guards = some [] := quiet
    refine ⟨_, (pss_cons (ps_if (pt_not (pt_val (pe_c0G hq C__law_hand_right hr (by decide) (by rfl)))) (pss_one (ps_ret pe_bl)) pss_nil)
      (pss_cons (ps_for PassesOwn.never rfl (pi_range1 (by rfl) B.range (pa_cons (pe_callB (call_max2 rfl) (by rfl) B.max (by decide +kernel) (pa_cons pe_int (pa_cons (pe_callB (call_min2 rfl) (by rfl) B.min (by decide +kernel) (pa_cons (pe_callB call_len_seq (by rfl) B.len (by decide +kernel) (pa_cons (pv 0) pa_nil)) (pa_cons pe_int pa_nil))) pa_nil))) pa_nil)) (pg_name (i := 1) sc_law.nd rfl (Or.inl rfl)) (pss_one (ps_if (pt_not (pt_val (pe_cG hq C__law_right hr (by decide) (by rfl) (pa_cons (pe_c C__law_pool hr (by decide) (by rfl) (pa_cons (pv 0) (pa_cons (pv 1) pa_nil))) pa_nil)))) (pss_one (ps_ret pe_bl)) pss_nil)))
      (pss_one (ps_ret
            pe_bl)))), ?_⟩
    refine ⟨rfl, fun H1 s1 => ⟨_, rfl, ?_⟩⟩
    obtain ⟨N, eN, hN⟩ : ∃ N : Int, (if (if (4 : Int) < ((ns.map V.int).length : Int) then (4 : Int) else ((ns.map V.int).length : Int)) > 2 then (if (4 : Int) < ((ns.map V.int).length : Int) then (4 : Int) else ((ns.map V.int).length : Int)) else 2) = N ∧ 2 ≤ N ∧ N ≤ 4 := ⟨_, rfl, by split <;> (try split) <;> omega, by split <;> (try split) <;> omega⟩
    have hS1 := s1.seq hS
    refine ⟨_, rfl, a, _, rfl, .inl hS1, _, _, rfl, _, _, rfl, N, congrArg (fun z => [V.int z]) eN, by omega, by omega, ?_⟩
    refine for_range (lo := 0) (n := N.toNat) (fun i σ H2 => ∃ x1 : Option V, σ = [some (.ref a), x1] ∧ Same H1 H2) ⟨none, rfl, Same.refl _⟩ ?_ ?_
    · rintro i σ H2 hi ⟨x1, rfl, s2⟩
      refine ⟨_, rfl, _, rfl, a, ns, _, rfl, s2.seq hS1, by omega, by omega, by omega, fun p H3 sm3 np tk => ?_⟩
      refine ⟨p, rfl, tk, fun H4 go => ⟨_, rfl, ?_⟩⟩
      have sm4 : Same H2 H4 := fun b o e => go.keep b o (by simpa using ne_of_none e np) (sm3 b o e)
      exact ⟨_, rfl, s2.trans sm4⟩
    · rintro σ H2 ⟨x1, rfl, s2⟩
      exact q _
end
/-- what the law asks, from what its text computes on plain data -/
theorem br__law_right {P : Program} {w : World} {K : PySem.W.Frag} {mg : Str → Option Value} {base : Heap} {c : Addr} {n : Nat} (C : CalG P w K mg base n "_law_right" (spW (suR K mg c []) 1 f__law_right) []) : CalG P w K mg base n "_law_right" (sp__law_right K c) [] :=
  C.imp fun vs H Q E ⟨a, e, t, q⟩ => by
    subst e
    have hd : Hd [a] H := fun b hb => by rw [List.mem_singleton.mp hb]; exact t.ne
    refine ⟨[(a, 0)], [a], [.tnk 0], fun d => d = .bl true, fun _ => False, rfl, hd, fun x hx => by rw [List.mem_singleton.mp hx]; exact List.mem_singleton.mpr rfl, ⟨fun x hx => ?_, fun e he => by cases he⟩, .cons (.tnk (List.mem_singleton.mpr rfl)) .nil, ⟨rfl, rfl⟩, fun v d H' s m hv hk => ?_, fun _ _ _ _ _ _ _ z => z.elim⟩
    · rw [List.mem_singleton.mp hx]
      obtain ⟨x, y, z, e, r⟩ := t.ex
      exact ⟨_, e, x, y, z, rfl, r⟩
    · subst hk
      rw [hv.bl_eq]
      exact q H' ⟨fun b o n h => s.keep b o (by simpa using n) (by simp) h, fun h => held_stp s m h⟩
/-- the cases by hand, from what their text computes on plain data -/
theorem CalG0.imp {P : Program} {w : World} {K : PySem.W.Frag} {mg : Str → Option Value} {base : Heap} {k : Nat} {x : Str} {sp sp' : Sp} (c : CalG0 P w K mg base k x sp) (h : ∀ vs H Q E, sp' vs H Q E → sp vs H Q E) : CalG0 P w K mg base k x sp' := by
  obtain ⟨f, fd, F, r⟩ := c.ex
  exact ⟨f, fd, F.imp h, r⟩
theorem br__law_hand_right {P : Program} {w : World} {K : PySem.W.Frag} {mg : Str → Option Value} {base : Heap} {c : Addr} {n : Nat} (C : CalG0 P w K mg base n "_law_hand_right" (spW (suR K mg c []) 0 f__law_hand_right)) : CalG0 P w K mg base n "_law_hand_right" (sp__law_hand K c) :=
  C.imp fun vs H Q E ⟨e, q⟩ => by
    subst e
    refine ⟨[], [], [], fun d => d = .bl true, fun _ => False, rfl, fun x hx => ?_, fun x hx => ?_, ⟨fun x hx => ?_, fun e he => by cases he⟩, .nil, ⟨rfl, rfl⟩, fun v d H' s m hv hk => ?_, fun _ _ _ _ _ _ _ z => z.elim⟩
    · simp at hx
    · simp at hx
    · simp at hx
    · subst hk
      rw [hv.bl_eq]
      exact q H' fun b o h => s.keep b o (by simp) (by simp) h
end LW
set_option Elab.async false
set_option linter.all false
set_option maxRecDepth 100000
set_option maxHeartbeats 4000100
set_option exponentiation.threshold 9000
namespace LW
open L2 PySem.Spec PyProof.Rows PySem
/-- the class Rule -/
structure RuK (K : PySem.W.Frag) (c : Addr) : Prop where
  mark : ∃ (f : Addr) (fd : FuncData), Fun K "mark" "Rule.mark" s_Rule_mark f fd ∧ Meth K c "mark" f
  init : ∃ (f : Addr) (fd : FuncData), Fun K "__init__" "Rule.__init__" s_Rule___init__ f fd ∧ Mk K c f
  read : ∃ (mc : Value) (p f : Addr) (fd : FuncData), Fun K "read" "Rule.read" s_Rule_read f fd ∧ SMet K c mc "read" p f
/-- marks as integers -/
structure WhK (K : PySem.W.Frag) (c : Addr) : Prop where
  whole : ∃ (f : Addr) (fd : FuncData), Fun K "whole_mark" "Rule.whole_mark" s_Rule_whole_mark f fd ∧ Meth K c "whole_mark" f
/-- the class Splits -/
structure SplK (K : PySem.W.Frag) (mg : Str → Option Value) (cS : Addr) : Prop where
  tx : TxS K mg cS
  g : mg "Splits" = some (.ref cS)
  init : ∃ (f : Addr) (fd : FuncData), Fun K "__init__" "Splits.__init__" s_Splits___init__ f fd ∧ Mk K cS f
  gain : ∃ (f : Addr) (fd : FuncData), Fun K "_greatest_gain" "Splits._greatest_gain" s_Splits__greatest_gain f fd ∧ Meth K cS "_greatest_gain" f
  grt : ∃ (f : Addr) (fd : FuncData), Fun K "greatest" "Splits.greatest" s_Splits_greatest f fd ∧ Meth K cS "greatest" f
theorem finishL {l : PySem.W.OpenLaw} {w : World} {K : PySem.W.Frag} {h : Heap} {mg : Str → Option Value} {fa c : Addr} (X : K.In h) (G : h.Ns mainGlobals mg) (hfa : mg "law" = some (.ref fa)) (B : Bl mg) (T : Tx K mg c) (RK : RuK K c) (CI : ClsI K c) (WK : WhK K c) (SKx : ∃ cS, SplK K mg cS) (TP : TxP K mg) (TD : TxD mg) (D_is_int : OwnDef K mg "is_int" s_is_int) (D_is_count : OwnDef K mg "is_count" s_is_count) (D_is_number : OwnDef K mg "is_number" s_is_number) (D_as_pair : OwnDef K mg "as_pair" s_as_pair) (D_lowest : OwnDef K mg "lowest" s_lowest) (D_is_less : OwnDef K mg "is_less" s_is_less) (D__int_text : OwnDef K mg "_int_text" s__int_text) (D__read_int : OwnDef K mg "_read_int" s__read_int) (D_is_digits : OwnDef K mg "is_digits" s_is_digits) (D_number_text : OwnDef K mg "number_text" s_number_text) (D_read_number : OwnDef K mg "read_number" s_read_number) (D__is_offset : OwnDef K mg "_is_offset" s__is_offset) (D__plain_mark : OwnDef K mg "_plain_mark" s__plain_mark) (D__is_next_mark : OwnDef K mg "_is_next_mark" s__is_next_mark) (D__lowest_head : OwnDef K mg "_lowest_head" s__lowest_head) (D_common_bottom : OwnDef K mg "common_bottom" s_common_bottom) (D_check_rule : OwnDef K mg "check_rule" s_check_rule) (D_is_number_of_claimants : OwnDefD K mg "is_number_of_claimants" s_is_number_of_claimants (.int 6)) (D_check_claimants : OwnDefD K mg "check_claimants" s_check_claimants (.int 6)) (D_check_count : OwnDef K mg "check_count" s_check_count) (D_check_at_most : OwnDef K mg "check_at_most" s_check_at_most) (D__check : OwnDef K mg "_check" s__check) (D_items_at_0 : OwnDef K mg "items_at_0" s_items_at_0) (D_least_possible : OwnDef K mg "least_possible" s_least_possible) (D__moved : OwnDef K mg "_moved" s__moved) (D__with_another_count : OwnDef K mg "_with_another_count" s__with_another_count) (D_next_mark_splits : OwnDef K mg "next_mark_splits" s_next_mark_splits) (D__law_pool : OwnDef K mg "_law_pool" s__law_pool) (D__law_draw : OwnDef K mg "_law_draw" s__law_draw) (D__law_common : OwnDef K mg "_law_common" s__law_common) (D__law_word : OwnDef K mg "_law_word" s__law_word) (D__law_made : OwnDef K mg "_law_made" s__law_made) (D__law_pick : OwnDef K mg "_law_pick" s__law_pick) (D__law_at : OwnDef K mg "_law_at" s__law_at) (D__law_rule : OwnDef K mg "_law_rule" s__law_rule) (D__law_pair : OwnDef K mg "_law_pair" s__law_pair) (D__law_splits : OwnDef K mg "_law_splits" s__law_splits) (D__law_can : OwnDef K mg "_law_can" s__law_can) (D__law_parts : OwnDef K mg "_law_parts" s__law_parts) (D__law_due : OwnDef K mg "_law_due" s__law_due) (D__law_hand_right : OwnDef K mg "_law_hand_right" s__law_hand_right) (D__law_right : OwnDef K mg "_law_right" s__law_right) (D_law : OwnDef K mg "law" s_law) :
    ∃ fd : FuncData, (∀ (s : Shared) (u : Value), BindsTo s fd ⟨[u], []⟩ [("_law_script", u)]) ∧ ∀ base : Heap, K.In base → base.Ns mainGlobals mg → FnG l.prog w K mg base CX0 20 fa fd ["_law_script"] (sp_law K) := by
  obtain ⟨f, fd, F, hm⟩ := D_law.ex
  have e := hfa.symm.trans hm
  cases e
  have F0 := F
  obtain ⟨oc, od, kV, doc, pm, an, cdv, ct, osl,
        rfl, lk, hcd⟩ := F.ex
  refine ⟨PySem.W.fnOf "law" "law" (defArgs s_law) (defBody s_law) (defScope s_law) .none kV doc pm an cdv ct, fun s u => .of_eq rfl, fun base _ _ => ?_⟩
  have C_is_int : Cal l.prog w K mg base 1 "is_int" (sp_is_int K c) [] := cal_is_int B D_is_int
  have C_is_count : Cal l.prog w K mg base 2 "is_count" (sp_is_count K c) [] := cal_is_count B D_is_count C_is_int
  have C_is_number : Cal l.prog w K mg base 2 "is_number" (sp_is_number K c) [] := cal_is_number B D_is_number C_is_int
  have C_as_pair : Cal l.prog w K mg base 1 "as_pair" (sp_as_pair K c) [] := cal_as_pair B D_as_pair
  have C_lowest : Cal l.prog w K mg base 2 "lowest" (sp_lowest K c) [] := cal_lowest B D_lowest C_as_pair T
  have C_is_less : Cal l.prog w K mg base 1 "is_less" (sp_is_less K c) [] := cal_is_less B D_is_less
  have C__int_text : Cal l.prog w K mg base 1 "_int_text" (sp__int_text K c) [] := cal__int_text B D__int_text  T
  have C__read_int : Cal l.prog w K mg base 1 "_read_int" (sp__read_int K c) [] := cal__read_int B D__read_int  T
  have C_is_digits : Cal l.prog w K mg base 1 "is_digits" (sp_is_digits K c) [] := cal_is_digits B D_is_digits
  have C_number_text : Cal l.prog w K mg base 2 "number_text" (sp_number_text K c) [] := cal_number_text B D_number_text C__int_text
  have C_read_number : Cal l.prog w K mg base 3 "read_number" (sp_read_number K c) [] := cal_read_number B D_read_number C__read_int C_lowest C_is_number C_number_text C_is_digits
  have C__is_offset : Cal l.prog w K mg base 3 "_is_offset" (sp__is_offset K c) [] := cal__is_offset B D__is_offset C_lowest C_is_number
  have C__plain_mark : Cal l.prog w K mg base 1 "_plain_mark" (sp__plain_mark K c) [] := cal__plain_mark B D__plain_mark
  have C__is_next_mark : Cal l.prog w K mg base 3 "_is_next_mark" (sp__is_next_mark K c) [] := cal__is_next_mark B D__is_next_mark C_lowest C_is_number C_is_less
  have C__lowest_head : Cal l.prog w K mg base 4 "_lowest_head" (sp__lowest_head K c) [] := cal__lowest_head B D__lowest_head C__is_next_mark C_lowest C_is_less C__plain_mark T
  have C_common_bottom : Cal l.prog w K mg base 1 "common_bottom" (sp_common_bottom K c) [] := cal_common_bottom B D_common_bottom  T
  obtain ⟨fm, fdm, Fm, mem⟩ := RK.mark
  obtain ⟨fi, fdi, Fi, Mki⟩ := RK.init
  obtain ⟨mc, p, fr, fdr, Fr, smr⟩ := RK.read
  obtain ⟨M_mark, Ok_mark⟩ : Met l.prog w K mg base 3 c "mark" (sp_Rule_mark K c) ∧ FnOk l.prog w K mg base CX0 3 fm fdm ["self", "number"] (sp_Rule_mark K c) := met_Rule_mark B T Fm mem C__plain_mark C_is_count
  have MR := mak_Rule B T Fi Mki C__is_offset C_lowest C__lowest_head C_common_bottom M_mark
  have SR := sta_read B T Fr smr C_read_number MR
  obtain ⟨fw, fdw, Fw, mew⟩ := WK.whole
  obtain ⟨M_whole, _⟩ : Met l.prog w K mg base 1 c "whole_mark" (sp_Rule_whole_mark K c) ∧ FnOk l.prog w K mg base CX0 1 fw fdw ["self", "number"] (sp_Rule_whole_mark K c) := met_Rule_whole_mark B T Fw mew
  have PM_whole := br_whole_mark (mg := mg) (TLb := []) M_whole
  have C__law_pool : Cal l.prog w K mg base 1 "_law_pool" (sp__law_pool K c) [] := cal__law_pool B D__law_pool
  have C__law_draw : Cal l.prog w K mg base 1 "_law_draw" (sp__law_draw K c) [] := cal__law_draw B D__law_draw
  have C__law_common : Cal l.prog w K mg base 1 "_law_common" (sp__law_common K c) [] := cal__law_common B D__law_common
  have C__law_word : Cal l.prog w K mg base 2 "_law_word" (sp__law_word K c) [] := cal__law_word B D__law_word C__law_common
  have C__law_made : Cal l.prog w K mg base 18 "_law_made" (sp__law_made K c) [] := cal__law_made B D__law_made C__law_word SR
  have Q__moved := cc__moved (P := l.prog) (w := w) (base := base) (c := c) (TLb := []) B D__moved
  have Q__with := cc__with_another_count (P := l.prog) (w := w) (base := base) (c := c) (TLb := []) B D__with_another_count Q__moved
  obtain ⟨cS, SK⟩ := SKx
  obtain ⟨fsi, fdsi, Fsi, Mks⟩ := SK.init
  obtain ⟨fsg, fdsg, Fsg, Msg⟩ := SK.gain
  obtain ⟨fst, fdst, Fst, Mst⟩ := SK.grt
  have MS := mak_Splits (P := l.prog) (w := w) (base := base) (c := c) (TLb := []) B SK.tx SK.g Fsi Mks
  have MGa := met_Splits_gain (P := l.prog) (w := w) (base := base) (c := c) (TLb := []) B SK.tx Fsg Msg Q__with
  have MG := met_Splits_greatest (P := l.prog) (w := w) (base := base) (c := c) (TLb := []) B SK.tx Fst Mst MGa
  have CN := cal_next_mark_splits (P := l.prog) (w := w) (base := base) (c := c) (TLb := []) B T D_next_mark_splits MS M_whole
  have P_is_int := cs_is_int (P := l.prog) (w := w) (base := base) (c := c) (TLb := []) B D_is_int
  have P_is_count := cs_is_count (P := l.prog) (w := w) (base := base) (c := c) (TLb := []) B D_is_count P_is_int
  have P_as_pair := cs_as_pair (P := l.prog) (w := w) (base := base) (c := c) (TLb := []) B D_as_pair
  have P_lowest := cs_lowest (P := l.prog) (w := w) (base := base) (c := c) (TLb := []) B D_lowest P_as_pair T
  have P_check_rule := cs_check_rule (P := l.prog) (w := w) (base := base) (c := c) (TLb := []) B D_check_rule T.g_Rule (IO_of T CI)
  have P_is_number_of_claimants := cs_is_number_of_claimants (P := l.prog) (w := w) (base := base) (c := c) (TLb := []) B D_is_number_of_claimants P_is_int
  have P_check_claimants := cs_check_claimants (P := l.prog) (w := w) (base := base) (c := c) (TLb := []) B D_check_claimants P_is_number_of_claimants TP
  have P_check_count := cs_check_count (P := l.prog) (w := w) (base := base) (c := c) (TLb := []) B D_check_count P_is_count
  have P_check_at_most := cs_check_at_most (P := l.prog) (w := w) (base := base) (c := c) (TLb := []) B D_check_at_most
  have P__check := cs__check (P := l.prog) (w := w) (base := base) (c := c) (TLb := []) B D__check P_check_rule P_check_claimants P_check_count TP
  have P_items_at_0 := cs_items_at_0 (P := l.prog) (w := w) (base := base) (c := c) (TLb := []) B D_items_at_0 PM_whole
  have P_least_possible := cs_least_possible (P := l.prog) (w := w) (base := base) (c := c) (TLb := []) B D_least_possible P__check P_check_count P_check_at_most P_items_at_0 P_lowest PM_whole TP TD CN MG
  have CK_least_possible_3210 := ck_least_possible_3210 (P := l.prog) (w := w) (base := base) (c := c) (TLb := []) B D_least_possible P__check P_check_count P_check_at_most P_items_at_0 P_lowest PM_whole TP TD CN MG
  have P__law_draw := br__law_draw (c := c) (mg := mg) (TLb := []) C__law_draw
  have P__law_made := br__law_made (c := c) (mg := mg) (TLb := []) C__law_made
  have P__law_common := br__law_common (c := c) (mg := mg) (TLb := []) C__law_common
  have P__law_pick := cs__law_pick (P := l.prog) (w := w) (base := base) (c := c) (TLb := []) B D__law_pick P__law_draw
  have P__law_at := cs__law_at (P := l.prog) (w := w) (base := base) (c := c) (TLb := []) B D__law_at
  have P__law_rule := cs__law_rule (P := l.prog) (w := w) (base := base) (c := c) (TLb := []) B D__law_rule P__law_pick P__law_draw
  have P__law_pair := cs__law_pair (P := l.prog) (w := w) (base := base) (c := c) (TLb := []) B D__law_pair P__law_common
  have P__law_splits := cs__law_splits (P := l.prog) (w := w) (base := base) (c := c) (TLb := []) B D__law_splits
  have P__law_can := cs__law_can (P := l.prog) (w := w) (base := base) (c := c) (TLb := []) B D__law_can P__law_at
  have P__law_parts := cs__law_parts (P := l.prog) (w := w) (base := base) (c := c) (TLb := []) B D__law_parts P__law_splits P__law_can P__law_at
  have P__law_due := cs__law_due (P := l.prog) (w := w) (base := base) (c := c) (TLb := []) B D__law_due P__law_parts P__law_pair
  have P__law_right := cs__law_right (P := l.prog) (w := w) (base := base) (c := c) (TLb := []) B D__law_right P__law_rule P__law_made P__law_draw P__law_due P_least_possible CK_least_possible_3210
  have P0 := c0__law_hand_right (P := l.prog) (w := w) (base := base) (c := c) (TLb := []) B D__law_hand_right P_least_possible MR
  exact ok_law B F0 C__law_pool (br__law_hand_right P0) (br__law_right P__law_right)
end LW
set_option Elab.async false
set_option linter.all false
set_option maxRecDepth 100000
set_option maxHeartbeats 4000100
namespace LW
theorem ofK {K : PySem.W.Frag} {h : PySem.Heap} (X : K.In h) {B : PySem.W.Frag → Prop} (x : B K) : B K := x
end LW
open PySem.W PyProof.Rows PySem
set_option maxRecDepth 100100 in
set_option maxHeartbeats 0 in
theorem PySem.Challenge.cw_wholeshares_k32_least_possible_by_listin_holds : PySem.Challenge.rw_wholeshares_k32_least_possible_by_listin.Holds := by
  w_on; o_law; k_head
  (case hw => w_witness2)
  k_fill
  refine LW.law_walk (l := PySem.Challenge.rw_wholeshares_k32_least_possible_by_listin) (n := 63) (k := 20) (x := "_law_script") (sp := LW.sp_law) rfl (by decide) rfl ⟨rfl, by decide, by decide⟩ (fun w h Y => by first | exact PySem.W.kIn_of Y | exact PySem.W.km_in_of Y) ?F (fun _ _ a ns hl hS => ⟨a, ns, rfl, hS, hl, fun _ => rfl⟩)
  case F =>
    intro w mg fa h KX G XH hmg
    have B : LW.Bl mg := by
      constructor <;> exact PySem.W.mg_none_of KX G (by k_is)
    have D_is_int := LW.ofK KX (B := fun K => LW.OwnDef K mg "is_int" LW.s_is_int) (by
      refine' LW.own_mk KX G ?a ?l ?c ?k
      (case a => first | k_is | rfl | decide +kernel)
      (case l => first | k_is | rfl | decide +kernel)
      (case c => first | k_is | rfl | decide +kernel)
      (case k => first | k_is | rfl | decide +kernel))
    have D_is_count := LW.ofK KX (B := fun K => LW.OwnDef K mg "is_count" LW.s_is_count) (by
      refine' LW.own_mk KX G ?a ?l ?c ?k
      (case a => first | k_is | rfl | decide +kernel)
      (case l => first | k_is | rfl | decide +kernel)
      (case c => first | k_is | rfl | decide +kernel)
      (case k => first | k_is | rfl | decide +kernel))
    have D_is_number := LW.ofK KX (B := fun K => LW.OwnDef K mg "is_number" LW.s_is_number) (by
      refine' LW.own_mk KX G ?a ?l ?c ?k
      (case a => first | k_is | rfl | decide +kernel)
      (case l => first | k_is | rfl | decide +kernel)
      (case c => first | k_is | rfl | decide +kernel)
      (case k => first | k_is | rfl | decide +kernel))
    have D_as_pair := LW.ofK KX (B := fun K => LW.OwnDef K mg "as_pair" LW.s_as_pair) (by
      refine' LW.own_mk KX G ?a ?l ?c ?k
      (case a => first | k_is | rfl | decide +kernel)
      (case l => first | k_is | rfl | decide +kernel)
      (case c => first | k_is | rfl | decide +kernel)
      (case k => first | k_is | rfl | decide +kernel))
    have D_lowest := LW.ofK KX (B := fun K => LW.OwnDef K mg "lowest" LW.s_lowest) (by
      refine' LW.own_mk KX G ?a ?l ?c ?k
      (case a => first | k_is | rfl | decide +kernel)
      (case l => first | k_is | rfl | decide +kernel)
      (case c => first | k_is | rfl | decide +kernel)
      (case k => first | k_is | rfl | decide +kernel))
    have D_is_less := LW.ofK KX (B := fun K => LW.OwnDef K mg "is_less" LW.s_is_less) (by
      refine' LW.own_mk KX G ?a ?l ?c ?k
      (case a => first | k_is | rfl | decide +kernel)
      (case l => first | k_is | rfl | decide +kernel)
      (case c => first | k_is | rfl | decide +kernel)
      (case k => first | k_is | rfl | decide +kernel))
    have D__int_text := LW.ofK KX (B := fun K => LW.OwnDef K mg "_int_text" LW.s__int_text) (by
      refine' LW.own_mk KX G ?a ?l ?c ?k
      (case a => first | k_is | rfl | decide +kernel)
      (case l => first | k_is | rfl | decide +kernel)
      (case c => first | k_is | rfl | decide +kernel)
      (case k => first | k_is | rfl | decide +kernel))
    have D__read_int := LW.ofK KX (B := fun K => LW.OwnDef K mg "_read_int" LW.s__read_int) (by
      refine' LW.own_mk KX G ?a ?l ?c ?k
      (case a => first | k_is | rfl | decide +kernel)
      (case l => first | k_is | rfl | decide +kernel)
      (case c => first | k_is | rfl | decide +kernel)
      (case k => first | k_is | rfl | decide +kernel))
    have D_is_digits := LW.ofK KX (B := fun K => LW.OwnDef K mg "is_digits" LW.s_is_digits) (by
      refine' LW.own_mk KX G ?a ?l ?c ?k
      (case a => first | k_is | rfl | decide +kernel)
      (case l => first | k_is | rfl | decide +kernel)
      (case c => first | k_is | rfl | decide +kernel)
      (case k => first | k_is | rfl | decide +kernel))
    have D_number_text := LW.ofK KX (B := fun K => LW.OwnDef K mg "number_text" LW.s_number_text) (by
      refine' LW.own_mk KX G ?a ?l ?c ?k
      (case a => first | k_is | rfl | decide +kernel)
      (case l => first | k_is | rfl | decide +kernel)
      (case c => first | k_is | rfl | decide +kernel)
      (case k => first | k_is | rfl | decide +kernel))
    have D_read_number := LW.ofK KX (B := fun K => LW.OwnDef K mg "read_number" LW.s_read_number) (by
      refine' LW.own_mk KX G ?a ?l ?c ?k
      (case a => first | k_is | rfl | decide +kernel)
      (case l => first | k_is | rfl | decide +kernel)
      (case c => first | k_is | rfl | decide +kernel)
      (case k => first | k_is | rfl | decide +kernel))
    have D__is_offset := LW.ofK KX (B := fun K => LW.OwnDef K mg "_is_offset" LW.s__is_offset) (by
      refine' LW.own_mk KX G ?a ?l ?c ?k
      (case a => first | k_is | rfl | decide +kernel)
      (case l => first | k_is | rfl | decide +kernel)
      (case c => first | k_is | rfl | decide +kernel)
      (case k => first | k_is | rfl | decide +kernel))
    have D__plain_mark := LW.ofK KX (B := fun K => LW.OwnDef K mg "_plain_mark" LW.s__plain_mark) (by
      refine' LW.own_mk KX G ?a ?l ?c ?k
      (case a => first | k_is | rfl | decide +kernel)
      (case l => first | k_is | rfl | decide +kernel)
      (case c => first | k_is | rfl | decide +kernel)
      (case k => first | k_is | rfl | decide +kernel))
    have D__is_next_mark := LW.ofK KX (B := fun K => LW.OwnDef K mg "_is_next_mark" LW.s__is_next_mark) (by
      refine' LW.own_mk KX G ?a ?l ?c ?k
      (case a => first | k_is | rfl | decide +kernel)
      (case l => first | k_is | rfl | decide +kernel)
      (case c => first | k_is | rfl | decide +kernel)
      (case k => first | k_is | rfl | decide +kernel))
    have D__lowest_head := LW.ofK KX (B := fun K => LW.OwnDef K mg "_lowest_head" LW.s__lowest_head) (by
      refine' LW.own_mk KX G ?a ?l ?c ?k
      (case a => first | k_is | rfl | decide +kernel)
      (case l => first | k_is | rfl | decide +kernel)
      (case c => first | k_is | rfl | decide +kernel)
      (case k => first | k_is | rfl | decide +kernel))
    have D_common_bottom := LW.ofK KX (B := fun K => LW.OwnDef K mg "common_bottom" LW.s_common_bottom) (by
      refine' LW.own_mk KX G ?a ?l ?c ?k
      (case a => first | k_is | rfl | decide +kernel)
      (case l => first | k_is | rfl | decide +kernel)
      (case c => first | k_is | rfl | decide +kernel)
      (case k => first | k_is | rfl | decide +kernel))
    have D_check_rule := LW.ofK KX (B := fun K => LW.OwnDef K mg "check_rule" LW.s_check_rule) (by
      refine' LW.own_mk KX G ?a ?l ?c ?k
      (case a => first | k_is | rfl | decide +kernel)
      (case l => first | k_is | rfl | decide +kernel)
      (case c => first | k_is | rfl | decide +kernel)
      (case k => first | k_is | rfl | decide +kernel))
    have D_is_number_of_claimants := LW.ofK KX (B := fun K => LW.OwnDefD K mg "is_number_of_claimants" LW.s_is_number_of_claimants (.int 6)) (by
      refine' LW.own_mkD KX G ?a ?l ?c ?k ?lT ?oT
      (case a => first | k_is | rfl | decide +kernel)
      (case l => first | k_is | rfl | decide +kernel)
      (case c => first | k_is | rfl | decide +kernel)
      (case k => first | k_is | rfl | decide +kernel)
      (case lT => first | k_is | rfl | decide +kernel)
      (case oT => rfl))
    have D_check_claimants := LW.ofK KX (B := fun K => LW.OwnDefD K mg "check_claimants" LW.s_check_claimants (.int 6)) (by
      refine' LW.own_mkD KX G ?a ?l ?c ?k ?lT ?oT
      (case a => first | k_is | rfl | decide +kernel)
      (case l => first | k_is | rfl | decide +kernel)
      (case c => first | k_is | rfl | decide +kernel)
      (case k => first | k_is | rfl | decide +kernel)
      (case lT => first | k_is | rfl | decide +kernel)
      (case oT => rfl))
    have D_check_count := LW.ofK KX (B := fun K => LW.OwnDef K mg "check_count" LW.s_check_count) (by
      refine' LW.own_mk KX G ?a ?l ?c ?k
      (case a => first | k_is | rfl | decide +kernel)
      (case l => first | k_is | rfl | decide +kernel)
      (case c => first | k_is | rfl | decide +kernel)
      (case k => first | k_is | rfl | decide +kernel))
    have D_check_at_most := LW.ofK KX (B := fun K => LW.OwnDef K mg "check_at_most" LW.s_check_at_most) (by
      refine' LW.own_mk KX G ?a ?l ?c ?k
      (case a => first | k_is | rfl | decide +kernel)
      (case l => first | k_is | rfl | decide +kernel)
      (case c => first | k_is | rfl | decide +kernel)
      (case k => first | k_is | rfl | decide +kernel))
    have D__check := LW.ofK KX (B := fun K => LW.OwnDef K mg "_check" LW.s__check) (by
      refine' LW.own_mk KX G ?a ?l ?c ?k
      (case a => first | k_is | rfl | decide +kernel)
      (case l => first | k_is | rfl | decide +kernel)
      (case c => first | k_is | rfl | decide +kernel)
      (case k => first | k_is | rfl | decide +kernel))
    have D_items_at_0 := LW.ofK KX (B := fun K => LW.OwnDef K mg "items_at_0" LW.s_items_at_0) (by
      refine' LW.own_mk KX G ?a ?l ?c ?k
      (case a => first | k_is | rfl | decide +kernel)
      (case l => first | k_is | rfl | decide +kernel)
      (case c => first | k_is | rfl | decide +kernel)
      (case k => first | k_is | rfl | decide +kernel))
    have D_least_possible := LW.ofK KX (B := fun K => LW.OwnDef K mg "least_possible" LW.s_least_possible) (by
      refine' LW.own_mk KX G ?a ?l ?c ?k
      (case a => first | k_is | rfl | decide +kernel)
      (case l => first | k_is | rfl | decide +kernel)
      (case c => first | k_is | rfl | decide +kernel)
      (case k => first | k_is | rfl | decide +kernel))
    have D__moved := LW.ofK KX (B := fun K => LW.OwnDef K mg "_moved" LW.s__moved) (by
      refine' LW.own_mk KX G ?a ?l ?c ?k
      (case a => first | k_is | rfl | decide +kernel)
      (case l => first | k_is | rfl | decide +kernel)
      (case c => first | k_is | rfl | decide +kernel)
      (case k => first | k_is | rfl | decide +kernel))
    have D__with_another_count := LW.ofK KX (B := fun K => LW.OwnDef K mg "_with_another_count" LW.s__with_another_count) (by
      refine' LW.own_mk KX G ?a ?l ?c ?k
      (case a => first | k_is | rfl | decide +kernel)
      (case l => first | k_is | rfl | decide +kernel)
      (case c => first | k_is | rfl | decide +kernel)
      (case k => first | k_is | rfl | decide +kernel))
    have D_next_mark_splits := LW.ofK KX (B := fun K => LW.OwnDef K mg "next_mark_splits" LW.s_next_mark_splits) (by
      refine' LW.own_mk KX G ?a ?l ?c ?k
      (case a => first | k_is | rfl | decide +kernel)
      (case l => first | k_is | rfl | decide +kernel)
      (case c => first | k_is | rfl | decide +kernel)
      (case k => first | k_is | rfl | decide +kernel))
    have D__law_pool := LW.ofK KX (B := fun K => LW.OwnDef K mg "_law_pool" LW.s__law_pool) (by
      refine' LW.own_mk KX G ?a ?l ?c ?k
      (case a => first | k_is | rfl | decide +kernel)
      (case l => first | k_is | rfl | decide +kernel)
      (case c => first | k_is | rfl | decide +kernel)
      (case k => first | k_is | rfl | decide +kernel))
    have D__law_draw := LW.ofK KX (B := fun K => LW.OwnDef K mg "_law_draw" LW.s__law_draw) (by
      refine' LW.own_mk KX G ?a ?l ?c ?k
      (case a => first | k_is | rfl | decide +kernel)
      (case l => first | k_is | rfl | decide +kernel)
      (case c => first | k_is | rfl | decide +kernel)
      (case k => first | k_is | rfl | decide +kernel))
    have D__law_common := LW.ofK KX (B := fun K => LW.OwnDef K mg "_law_common" LW.s__law_common) (by
      refine' LW.own_mk KX G ?a ?l ?c ?k
      (case a => first | k_is | rfl | decide +kernel)
      (case l => first | k_is | rfl | decide +kernel)
      (case c => first | k_is | rfl | decide +kernel)
      (case k => first | k_is | rfl | decide +kernel))
    have D__law_word := LW.ofK KX (B := fun K => LW.OwnDef K mg "_law_word" LW.s__law_word) (by
      refine' LW.own_mk KX G ?a ?l ?c ?k
      (case a => first | k_is | rfl | decide +kernel)
      (case l => first | k_is | rfl | decide +kernel)
      (case c => first | k_is | rfl | decide +kernel)
      (case k => first | k_is | rfl | decide +kernel))
    have D__law_made := LW.ofK KX (B := fun K => LW.OwnDef K mg "_law_made" LW.s__law_made) (by
      refine' LW.own_mk KX G ?a ?l ?c ?k
      (case a => first | k_is | rfl | decide +kernel)
      (case l => first | k_is | rfl | decide +kernel)
      (case c => first | k_is | rfl | decide +kernel)
      (case k => first | k_is | rfl | decide +kernel))
    have D__law_pick := LW.ofK KX (B := fun K => LW.OwnDef K mg "_law_pick" LW.s__law_pick) (by
      refine' LW.own_mk KX G ?a ?l ?c ?k
      (case a => first | k_is | rfl | decide +kernel)
      (case l => first | k_is | rfl | decide +kernel)
      (case c => first | k_is | rfl | decide +kernel)
      (case k => first | k_is | rfl | decide +kernel))
    have D__law_at := LW.ofK KX (B := fun K => LW.OwnDef K mg "_law_at" LW.s__law_at) (by
      refine' LW.own_mk KX G ?a ?l ?c ?k
      (case a => first | k_is | rfl | decide +kernel)
      (case l => first | k_is | rfl | decide +kernel)
      (case c => first | k_is | rfl | decide +kernel)
      (case k => first | k_is | rfl | decide +kernel))
    have D__law_rule := LW.ofK KX (B := fun K => LW.OwnDef K mg "_law_rule" LW.s__law_rule) (by
      refine' LW.own_mk KX G ?a ?l ?c ?k
      (case a => first | k_is | rfl | decide +kernel)
      (case l => first | k_is | rfl | decide +kernel)
      (case c => first | k_is | rfl | decide +kernel)
      (case k => first | k_is | rfl | decide +kernel))
    have D__law_pair := LW.ofK KX (B := fun K => LW.OwnDef K mg "_law_pair" LW.s__law_pair) (by
      refine' LW.own_mk KX G ?a ?l ?c ?k
      (case a => first | k_is | rfl | decide +kernel)
      (case l => first | k_is | rfl | decide +kernel)
      (case c => first | k_is | rfl | decide +kernel)
      (case k => first | k_is | rfl | decide +kernel))
    have D__law_splits := LW.ofK KX (B := fun K => LW.OwnDef K mg "_law_splits" LW.s__law_splits) (by
      refine' LW.own_mk KX G ?a ?l ?c ?k
      (case a => first | k_is | rfl | decide +kernel)
      (case l => first | k_is | rfl | decide +kernel)
      (case c => first | k_is | rfl | decide +kernel)
      (case k => first | k_is | rfl | decide +kernel))
    have D__law_can := LW.ofK KX (B := fun K => LW.OwnDef K mg "_law_can" LW.s__law_can) (by
      refine' LW.own_mk KX G ?a ?l ?c ?k
      (case a => first | k_is | rfl | decide +kernel)
      (case l => first | k_is | rfl | decide +kernel)
      (case c => first | k_is | rfl | decide +kernel)
      (case k => first | k_is | rfl | decide +kernel))
    have D__law_parts := LW.ofK KX (B := fun K => LW.OwnDef K mg "_law_parts" LW.s__law_parts) (by
      refine' LW.own_mk KX G ?a ?l ?c ?k
      (case a => first | k_is | rfl | decide +kernel)
      (case l => first | k_is | rfl | decide +kernel)
      (case c => first | k_is | rfl | decide +kernel)
      (case k => first | k_is | rfl | decide +kernel))
    have D__law_due := LW.ofK KX (B := fun K => LW.OwnDef K mg "_law_due" LW.s__law_due) (by
      refine' LW.own_mk KX G ?a ?l ?c ?k
      (case a => first | k_is | rfl | decide +kernel)
      (case l => first | k_is | rfl | decide +kernel)
      (case c => first | k_is | rfl | decide +kernel)
      (case k => first | k_is | rfl | decide +kernel))
    have D__law_hand_right := LW.ofK KX (B := fun K => LW.OwnDef K mg "_law_hand_right" LW.s__law_hand_right) (by
      refine' LW.own_mk KX G ?a ?l ?c ?k
      (case a => first | k_is | rfl | decide +kernel)
      (case l => first | k_is | rfl | decide +kernel)
      (case c => first | k_is | rfl | decide +kernel)
      (case k => first | k_is | rfl | decide +kernel))
    have D__law_right := LW.ofK KX (B := fun K => LW.OwnDef K mg "_law_right" LW.s__law_right) (by
      refine' LW.own_mk KX G ?a ?l ?c ?k
      (case a => first | k_is | rfl | decide +kernel)
      (case l => first | k_is | rfl | decide +kernel)
      (case c => first | k_is | rfl | decide +kernel)
      (case k => first | k_is | rfl | decide +kernel))
    have D_law := LW.ofK KX (B := fun K => LW.OwnDef K mg "law" LW.s_law) (by
      refine' LW.own_mk KX G ?a ?l ?c ?k
      (case a => first | k_is | rfl | decide +kernel)
      (case l => first | k_is | rfl | decide +kernel)
      (case c => first | k_is | rfl | decide +kernel)
      (case k => first | k_is | rfl | decide +kernel))
    obtain ⟨c, T, RK⟩ := LW.ofK KX (B := fun K => ∃ c, LW.Tx K mg c ∧ LW.RuK K c) (by
      refine' ⟨_, ⟨⟨?pg, ?hd, ?po, ?sa⟩, ?nO, ?nH, ?nS, ?nU, ?nW, ?nX, PySem.W.mg_of KX G ?g, XH.1.drawn ("gcd", .fn "math.gcd") ?dr, XH.1.drawn ("lcm", .fn "math.lcm") ?dl, ?gB, ⟨_, PySem.W.mg_of KX G ?gD⟩, ⟨_, PySem.W.mg_of KX G ?gM⟩⟩, ⟨⟨_, _, L2.fun_mk ?l1 ?c1 ?k1, ⟨?m1, ?i1, ?k2⟩⟩, ⟨_, _, L2.fun_mk ?l3 ?c3 ?k3, ⟨?mk, ?in3, ?i3, ?kc⟩⟩, ⟨.type "type", _, _, _, L2.fun_mk ?l4 ?c4 ?k4, ⟨⟨?rd, ?ga⟩, ?at4, ⟨_, ?rc⟩, ?kp⟩⟩⟩⟩
      (case g => first | k_is | rfl | decide +kernel)
      (case pg => first | k_is | rfl | decide +kernel)
      (case hd => first | k_is | rfl | decide +kernel)
      (case po => first | k_is | rfl | decide +kernel)
      (case sa => first | k_is | rfl | decide +kernel)
      (case nO => first | k_is | rfl | decide +kernel)
      (case nH => first | k_is | rfl | decide +kernel)
      (case nS => first | k_is | rfl | decide +kernel)
      (case nU => first | k_is | rfl | decide +kernel)
      (case nW => first | k_is | rfl | decide +kernel)
      (case nX => first | k_is | rfl | decide +kernel)
      (case dr => first | exact List.Mem.head _ | exact List.Mem.tail _ (List.Mem.head _))
      (case dl => first | exact List.Mem.tail _ (List.Mem.head _) | exact List.Mem.tail _ (List.Mem.tail _ (List.Mem.head _)))
      (case gB => first | (obtain ⟨v, e1, e2⟩ := XH.2.val _ (List.mem_singleton.mpr rfl); cases e2; exact ⟨_, e1⟩) | (obtain ⟨v, e1, e2⟩ := XH.2.val _ (List.mem_cons_of_mem _ (List.mem_singleton.mpr rfl)); cases e2; exact ⟨_, e1⟩))
      (case gD => first | k_is | rfl | decide +kernel)
      (case gM => first | k_is | rfl | decide +kernel)
      (case m1 => first | k_is | rfl | decide +kernel)
      (case i1 => first | k_is | rfl | decide +kernel)
      (case k2 => first | k_is | rfl | decide +kernel)
      (case l1 => first | k_is | rfl | decide +kernel)
      (case c1 => first | k_is | rfl | decide +kernel)
      (case k1 => first | k_is | rfl | decide +kernel)
      (case in3 => first | k_is | rfl | decide +kernel)
      (case i3 => first | k_is | rfl | decide +kernel)
      (case mk => first | k_is | rfl | decide +kernel)
      (case kc => first | k_is | rfl | decide +kernel)
      (case l3 => first | k_is | rfl | decide +kernel)
      (case c3 => first | k_is | rfl | decide +kernel)
      (case k3 => first | k_is | rfl | decide +kernel)
      (case ga => first | k_is | rfl | decide +kernel)
      (case rd => first | k_is | rfl | decide +kernel)
      (case at4 => first | k_is | rfl | decide +kernel)
      (case rc => first | k_is | rfl | decide +kernel)
      (case kp => first | k_is | rfl | decide +kernel)
      (case l4 => first | k_is | rfl | decide +kernel)
      (case c4 => first | k_is | rfl | decide +kernel)
      (case k4 => first | k_is | rfl | decide +kernel))
    have CI : LW.ClsI _ c := (by
      have hc : mg "Rule" = some (.ref c) := T.g_Rule
      obtain ⟨c', hc', q⟩ := LW.ofK KX (B := fun K => ∃ c', mg "Rule" = some (.ref c') ∧ LW.ClsI K c') (by
        refine' ⟨_, PySem.W.mg_of KX G ?g, ⟨?ca, ?sp, ?tk, ?mr⟩⟩
        (case g => first | k_is | rfl | decide +kernel)
        (case ca => first | k_is | rfl | decide +kernel)
        (case sp => first | k_is | rfl | decide +kernel)
        (case tk => first | k_is | rfl | decide +kernel)
        (case mr => first | k_is | rfl | decide +kernel))
      have e := hc.symm.trans hc'
      cases e
      exact q)
    have WK : LW.WhK _ c := (by
      have hc : mg "Rule" = some (.ref c) := T.g_Rule
      obtain ⟨c', hc', q⟩ := LW.ofK KX (B := fun K => ∃ c', mg "Rule" = some (.ref c') ∧ LW.WhK K c') (by
        refine' ⟨_, PySem.W.mg_of KX G ?g, ⟨⟨_, _, L2.fun_mk ?l1 ?c1 ?k1, ⟨?m1, ?i1, ?k2⟩⟩⟩⟩
        (case g => first | k_is | rfl | decide +kernel)
        (case m1 => first | k_is | rfl | decide +kernel)
        (case i1 => first | k_is | rfl | decide +kernel)
        (case k2 => first | k_is | rfl | decide +kernel)
        (case l1 => first | k_is | rfl | decide +kernel)
        (case c1 => first | k_is | rfl | decide +kernel)
        (case k1 => first | k_is | rfl | decide +kernel))
      have e := hc.symm.trans hc'
      cases e
      exact q)
    have SKx := LW.ofK KX (B := fun K => ∃ cS, LW.SplK K mg cS) (by
      refine' ⟨_, ⟨⟨⟨?pg, ?hd, ?po, ?sa⟩, ?n1, ?n2, ?n3, ?n4, ?n5, ?n6⟩, PySem.W.mg_of KX G ?g, ⟨_, _, L2.fun_mk ?l1 ?c1 ?k1, ⟨?mk, ?in1, ?i1, ?kc⟩⟩, ⟨_, _, L2.fun_mk ?l2 ?c2 ?k2, ⟨?m2, ?i2, ?kk2⟩⟩, ⟨_, _, L2.fun_mk ?l3 ?c3 ?k3, ⟨?m3, ?i3, ?kk3⟩⟩⟩⟩
      (case g => first | k_is | rfl | decide +kernel)
      (case pg => first | k_is | rfl | decide +kernel)
      (case hd => first | k_is | rfl | decide +kernel)
      (case po => first | k_is | rfl | decide +kernel)
      (case sa => first | k_is | rfl | decide +kernel)
      (case n1 => first | k_is | rfl | decide +kernel)
      (case n2 => first | k_is | rfl | decide +kernel)
      (case n3 => first | k_is | rfl | decide +kernel)
      (case n4 => first | k_is | rfl | decide +kernel)
      (case n5 => first | k_is | rfl | decide +kernel)
      (case n6 => first | k_is | rfl | decide +kernel)
      (case in1 => first | k_is | rfl | decide +kernel)
      (case i1 => first | k_is | rfl | decide +kernel)
      (case mk => first | k_is | rfl | decide +kernel)
      (case kc => first | k_is | rfl | decide +kernel)
      (case l1 => first | k_is | rfl | decide +kernel)
      (case c1 => first | k_is | rfl | decide +kernel)
      (case k1 => first | k_is | rfl | decide +kernel)
      (case m2 => first | k_is | rfl | decide +kernel)
      (case i2 => first | k_is | rfl | decide +kernel)
      (case kk2 => first | k_is | rfl | decide +kernel)
      (case l2 => first | k_is | rfl | decide +kernel)
      (case c2 => first | k_is | rfl | decide +kernel)
      (case k2 => first | k_is | rfl | decide +kernel)
      (case m3 => first | k_is | rfl | decide +kernel)
      (case i3 => first | k_is | rfl | decide +kernel)
      (case kk3 => first | k_is | rfl | decide +kernel)
      (case l3 => first | k_is | rfl | decide +kernel)
      (case c3 => first | k_is | rfl | decide +kernel)
      (case k3 => first | k_is | rfl | decide +kernel))
    have TP := LW.ofK KX (B := fun K => LW.TxP K mg) (by
      refine' ⟨⟨_, PySem.W.mg_of KX G ?gS⟩, ⟨_, PySem.W.mg_of KX G ?gN, fun H => .inr ⟨_, _, _, ?lk, ?oc, ?od, ?sz, ?vs⟩⟩⟩
      (case gS => first | k_is | rfl | decide +kernel)
      (case gN => first | k_is | rfl | decide +kernel)
      (case lk => first | k_is | rfl | decide +kernel)
      (case oc => rfl)
      (case od => rfl)
      (case sz => decide)
      (case vs => exact .cons ⟨_, rfl⟩ (.cons ⟨_, rfl⟩ .nil)))
    have TD : LW.TxD mg := (by
      refine' ⟨⟨_, PySem.W.mg_of KX G ?gC⟩⟩
      (case gC => first | k_is | rfl | decide +kernel))
    exact LW.finishL KX G hmg B T RK CI WK SKx TP TD D_is_int D_is_count D_is_number D_as_pair D_lowest D_is_less D__int_text D__read_int D_is_digits D_number_text D_read_number D__is_offset D__plain_mark D__is_next_mark D__lowest_head D_common_bottom D_check_rule D_is_number_of_claimants D_check_claimants D_check_count D_check_at_most D__check D_items_at_0 D_least_possible D__moved D__with_another_count D_next_mark_splits D__law_pool D__law_draw D__law_common D__law_word D__law_made D__law_pick D__law_at D__law_rule D__law_pair D__law_splits D__law_can D__law_parts D__law_due D__law_hand_right D__law_right D_law
